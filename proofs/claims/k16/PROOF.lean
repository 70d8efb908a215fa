import PyProof.Rows.All
import Wide.All
import OpenK.AllK
import Wide.FinOn
import Lean
import PyProof.EqAt
import PyProof.EqKinds
import PyProof.TupleCall
import KE.KRevIter
import KE.KTryMore
import PySem.Challenge.RW_loopbed_k16_unfit
set_option Elab.async false
set_option linter.all false
set_option maxRecDepth 100000
noncomputable def PySem.W.Fast.tw5885183168749851396 : PySem.Program := PySem.Challenge.pw_loopbed_k16_unfit
theorem PySem.W.Fast.te5885183168749851396 : PySem.Challenge.pw_loopbed_k16_unfit = PySem.W.Fast.tw5885183168749851396 := rfl
set_option bootstrap.genMatcherCode false
theorem PySem.W.Fast.te17100948601779063439 : True := trivial
set_option genSizeOf false
set_option genInjectivity false
namespace L2
open PySem PySem.Spec PyProof.Rows
noncomputable abbrev Key := Sum Int Str
noncomputable def tV : Key → Value → Bool
  | .inl k, v => Value.isInt k v
  | .inr x, v => Value.isStrOf x v
noncomputable def BD (w : World) : Key → Int
  | .inl k => hashInt k
  | .inr x => hashStr w x
theorem gx : ∀ {k : Key} {v : Value}, tV k v = true → (∃ i t, k = Sum.inl i ∧ v = Value.int i t) ∨ (∃ x t, k = Sum.inr x ∧ v = Value.str x t)
  | .inl i, v, h => by
    obtain ⟨t, e⟩ := Value.isInt_shape (k := i) (v := v) h
    exact .inl ⟨i, t, rfl, e⟩
  | .inr x, v, h => by
    obtain ⟨t, e⟩ := Value.isStrOf_shape (x := x) (v := v) h
    exact .inr ⟨x, t, rfl, e⟩
theorem vU (a b : Int) : decide ((Sum.inl a : Key) = Sum.inl b) = (a == b) := by
  by_cases e : a = b
  · subst e; simp
  · have h : ¬ (Sum.inl a : Key) = Sum.inl b := fun q => e (Sum.inl.inj q)
    rw [decide_eq_false h]
    exact (beq_eq_false_iff_ne.mpr e).symm
theorem z7 (a b : Str) : decide ((Sum.inr a : Key) = Sum.inr b) = decide (a = b) := by
  by_cases e : a = b
  · subst e; simp
  · have h : ¬ (Sum.inr a : Key) = Sum.inr b := fun q => e (Sum.inr.inj q)
    rw [decide_eq_false h, decide_eq_false e]
theorem yz (a : Int) (b : Str) : decide ((Sum.inl a : Key) = Sum.inr b) = false := decide_eq_false (fun q => nomatch q)
theorem yZ (a : Str) (b : Int) : decide ((Sum.inr a : Key) = Sum.inl b) = false := decide_eq_false (fun q => nomatch q)
noncomputable def ub (prog : Program) (w : World) : PySem.KeyKind prog w Key where
  is := tV
  hash := BD w
  inj := fun v a b ha hb => by
    rcases gx ha with ⟨i, t, rfl, rfl⟩ | ⟨x, t, rfl, rfl⟩
    · rcases gx hb with ⟨j, u, rfl, e⟩ | ⟨y, u, rfl, e⟩
      · injection e with e1 _; rw [e1]
      · exact nomatch e
    · rcases gx hb with ⟨j, u, rfl, e⟩ | ⟨y, u, rfl, e⟩
      · exact nomatch e
      · injection e with e1 _; rw [e1]
  byValue := fun k v h => by
    rcases gx h with ⟨i, t, rfl, rfl⟩ | ⟨x, t, rfl, rfl⟩ <;> rfl
  pyHash := fun hv h => by
    rcases gx hv with ⟨i, t, rfl, rfl⟩ | ⟨x, t, rfl, rfl⟩
    · exact wpAny_pyHash_int h
    · exact wpAny_pyHash_str h
  eqBool := fun hu hv h => by
    rcases gx hu with ⟨i, t, rfl, rfl⟩ | ⟨x, t, rfl, rfl⟩
    · rcases gx hv with ⟨j, u, rfl, rfl⟩ | ⟨y, u, rfl, rfl⟩
      · rw [vU] at h; exact wpAny_eqBool_int h
      · rw [yz] at h; exact SeqAt.EqAt.int_str i t y u _ _ _ _ h
    · rcases gx hv with ⟨j, u, rfl, rfl⟩ | ⟨y, u, rfl, rfl⟩
      · rw [yZ] at h; exact SeqAt.EqAt.str_int x t j u _ _ _ _ h
      · rw [z7] at h; exact wpAny_eqBool_str h
  «strs» := fun k x t v h => by
    rcases gx h with ⟨i, u, rfl, e⟩ | ⟨y, u, rfl, e⟩
    · exact nomatch e
    · injection e with e1 _
      subst e1
      cases v <;> rfl
end L2
namespace L2
open PySem PySem.Spec PyProof.Rows
inductive V where
  | non | bl (b : Bool) | int (i : Int) | str (x : Str) | byt (b : Array UInt8) | flt (b : UInt64) | ref (a : Addr) | ty (n : String)
  deriving DecidableEq
noncomputable def RelV : V → Value → Prop
  | .non, u => u = Value.none
  | .bl b, u => u = Value.bool b
  | .int i, u => ∃ t, u = Value.int i t
  | .str x, u => ∃ t, u = Value.str x t
  | .byt b, u => ∃ t, u = Value.bytes b t
  | .flt b, u => ∃ t, u = Value.float b t
  | .ref a, u => u = Value.ref a
  | .ty n, u => u = Value.type n
noncomputable abbrev Vals : List V → List Value → Prop := Paired RelV
theorem Vals.length {xs : List V} {us : List Value} (r : Vals xs us) : xs.length = us.length := Paired.length r
theorem Vals.get : ∀ {xs : List V} {us : List Value} {i : Nat} {x : V}, Vals xs us → xs[i]? = some x → ∃ u, us[i]? = some u ∧ RelV x u
  | _, _, _, _, .nil, e => by simp at e
  | _, _, 0, _, .cons r _, e => by simp at e; subst e; exact ⟨_, rfl, r⟩
  | _, _, i + 1, x, .cons _ t, e => by
    obtain ⟨u, h1, h2⟩ := Vals.get (i := i) (x := x) t (by simpa using e)
    exact ⟨u, by simpa using h1, h2⟩
theorem Vals.set {x : V} {u : Value} (r : RelV x u) : ∀ {xs : List V} {us : List Value} (i : Nat), Vals xs us → Vals (xs.set i x) (us.set i u)
  | _, _, _, .nil => .nil
  | _, _, 0, .cons _ t => .cons r t
  | _, _, i + 1, .cons q t => .cons q (Vals.set r i t)
theorem Vals.append : ∀ {xs ys : List V} {us ws : List Value}, Vals xs us → Vals ys ws → Vals (xs ++ ys) (us ++ ws)
  | _, _, _, _, .nil, s => s
  | _, _, _, _, .cons r t, s => .cons r (Vals.append t s)
theorem Vals.take : ∀ {xs : List V} {us : List Value} (n : Nat), Vals xs us → Vals (xs.take n) (us.take n)
  | _, _, 0, _ => .nil
  | _, _, _ + 1, .nil => .nil
  | _, _, n + 1, .cons r t => .cons r (Vals.take n t)
theorem Vals.drop : ∀ {xs : List V} {us : List Value} (n : Nat), Vals xs us → Vals (xs.drop n) (us.drop n)
  | _, _, 0, r => r
  | _, _, _ + 1, .nil => .nil
  | _, _, n + 1, .cons _ t => Vals.drop n t
noncomputable def qN : Option V → Option Value → Prop
  | some v, some u => RelV v u
  | none, none => True
  | _, _ => False
noncomputable def KV {κ : Type} : List (κ × V) → List (κ × Value) → Prop := Paired fun (p : κ × V) (q : κ × Value) => p.1 = q.1 ∧ RelV p.2 q.2
noncomputable def kV : Key → V
  | .inl i => .int i
  | .inr x => .str x
inductive HO where
  | lst (xs : List V)
  | tup (xs : List V)
  | dK (kvs : List (Key × V)) | dT (kvs : List (List Key × V))
  | set (S : Int → Bool) (n : Nat)
  | ins (C dx : Addr) (fs : List (Str × V))
  | own (x : Addr)
  | xd (fs : List (Str × V))
  | met (f x : Addr)
  | rng (lo hi : Int)
  | frz (o : Obj) (u : HO)
  | tbl (ps : Array Value)
  | ext (φ : Heap → Prop)
noncomputable abbrev Hp := Addr → Option HO
noncomputable def upd (H : Hp) (a : Addr) (o : HO) : Hp := fun b => if b = a then some o else H b
theorem cK {H : Hp} {a : Addr} {o : HO} : upd H a o a = some o := by unfold upd; rw [if_pos rfl]
theorem bf {H : Hp} {a b : Addr} {o : HO} (h : b ≠ a) : upd H a o b = H b := by unfold upd; rw [if_neg h]
theorem cn {H : Hp} {a b : Addr} {o : HO} (h : H a = some o) (h' : H b = none) : a ≠ b := by
  intro e; subst e; rw [h] at h'; cases h'
section
variable (P : Program) (w : World)
noncomputable def cA (H : Hp) (h : Heap) (a : Addr) : HO → Prop
  | .lst xs => xs.length ≤ sizeLine ∧ ∃ (its : List Value) (n : Nat), Vals xs its ∧ h.get? a = some { cls := .type "list", data := .seq its.toArray n }
  | .tup xs => xs.length ≤ sizeLine ∧ ∃ its : List Value, Vals xs its ∧ IsTup h a its.toArray
  | .dK kvs => kvs.length ≤ sizeLine ∧ (a == sysModules) = false ∧ ∃ vs, KV kvs vs ∧ h.DictOf (ub P w) a vs
  | .dT kvs => kvs.length ≤ sizeLine ∧ (a == sysModules) = false ∧ ∃ xs : List (List Key × Addr × Value),
      Paired (fun (p : List Key × V) (q : List Key × Addr × Value) => p.1 = q.1 ∧ H q.2.1 = some (.tup (p.1.map kV)) ∧ RelV p.2 q.2.2) kvs xs ∧
      ∃ o es ep, h.get? a = some o ∧ o.ExactDict ∧ o.data = .dict es ep ∧ es.toList = xs.map (entryOfKey (tupleKind (ub P w))) ∧ (xs.map (·.1)).Nodup
  | .set S n => h.SetOf (intKind P w) a S n
  | .ins C dx fs => H dx = some (.own a) ∧ fs.length ≤ 1000 ∧ dx ≠ a ∧ h.get? a = some (PySem.W.instObj C dx) ∧
      ∃ mA, h.Ns1 dx mA ∧ (∀ f, qN (fs.lookup f) (mA f)) ∧ PySem.Within mA (fs.map (·.1))
  | .own _ => ∃ o, h.get? a = some o
  | .xd fs => ∃ mA, h.Ns1 a mA ∧ ∀ f, qN (fs.lookup f) (mA f)
  | .rng lo hi => ∃ t u v, h.get? a = some { cls := .type "range", data := .fields #[.int lo t, .int hi u, .int 1 v] }
  | .frz o u => h.get? a = some o ∧ cA H h a u
  | .tbl ps => h.get? a = some { cls := .none, data := .fields ps }
  | .met f x => h.get? a = some (PySem.W.methodObj (.ref f) (.ref x))
  | .ext φ => φ h ∧ (∃ o, h.get? a = some o) ∧ ∀ h1 h2 : Heap, φ h1 → (∀ o, h1.get? a = some o → h2.get? a = some o) → φ h2
noncomputable def HOk (H : Hp) (h : Heap) : Prop := ∀ a o, H a = some o → cA P w H h a o
end
section
variable {P : Program} {w : World} {H H' : Hp} {h h' : Heap} {a : Addr} {o : HO}
theorem cA.lt (x : cA P w H h a o) : a < h.objs.size := by
  cases o with
  | lst xs => obtain ⟨_, _, _, _, e⟩ := x; exact Heap.lt_size e
  | tup xs => obtain ⟨_, _, _, p⟩ := x; exact p.lt
  | dK kvs => obtain ⟨_, _, _, _, o, _, _, e, _⟩ := x; exact Heap.lt_size e
  | dT kvs => obtain ⟨_, _, _, _, o, _, _, e, _⟩ := x; exact Heap.lt_size e
  | set S n => obtain ⟨o, _, _, _, e, _⟩ := x; exact Heap.lt_size e
  | ins C dx fs => obtain ⟨_, _, _, e, _⟩ := x; exact Heap.lt_size e
  | own y => obtain ⟨_, e⟩ := x; exact Heap.lt_size e
  | xd fs => obtain ⟨_, ⟨_, _, _, e, _⟩, _⟩ := x; exact Heap.lt_size e
  | rng lo hi => obtain ⟨_, _, _, e⟩ := x; exact Heap.lt_size e
  | frz ob u => obtain ⟨e, _⟩ := x; exact Heap.lt_size e
  | tbl ps => exact Heap.lt_size (show h.get? a = some _ from x)
  | met f y => exact Heap.lt_size (show h.get? a = some _ from x)
  | ext φ => obtain ⟨_, ⟨_, e⟩, _⟩ := x; exact Heap.lt_size e
theorem Paired.mapP {α β : Type} {F G : α → β → Prop} : ∀ {l₁ : List α} {l₂ : List β}, Paired F l₁ l₂ → (∀ a b, F a b → G a b) → Paired G l₁ l₂
  | _, _, .nil, _ => .nil
  | _, _, .cons r t, f => .cons (f _ _ r) (Paired.mapP t f)
theorem cA.stay (x : cA P w H h a o) (k : ∀ b u, (b = a ∨ H b = some (.own a)) → h.get? b = some u → h'.get? b = some u)
    (ho : ∀ b, H b = some (.own a) → H' b = some (.own a)) (ht : ∀ b xs, H b = some (.tup xs) → H' b = some (.tup xs)) : cA P w H' h' a o := by
  induction o with
  | lst xs => obtain ⟨z, its, n, r, e⟩ := x; exact ⟨z, its, n, r, k _ _ (.inl rfl) e⟩
  | tup xs => obtain ⟨z, its, r, ob, e, c⟩ := x; exact ⟨z, its, r, ob, k _ _ (.inl rfl) e, c⟩
  | dK kvs => obtain ⟨z, y, vs, r, ob, es, ep, e, c⟩ := x; exact ⟨z, y, vs, r, ob, es, ep, k _ _ (.inl rfl) e, c⟩
  | dT kvs =>
    obtain ⟨z, y, xs, r, ob, es, ep, e, c⟩ := x
    exact ⟨z, y, xs, Paired.mapP r fun p q z => ⟨z.1, ht _ _ z.2.1, z.2.2⟩, ob, es, ep, k _ _ (.inl rfl) e, c⟩
  | set S n => obtain ⟨ob, es, ep, t, e, c⟩ := x; exact ⟨ob, es, ep, t, k _ _ (.inl rfl) e, c⟩
  | ins C dx fs =>
    obtain ⟨d, z, ne, e, mA, ⟨od, es, ep, e2, c⟩, r⟩ := x
    exact ⟨ho _ d, z, ne, k _ _ (.inl rfl) e, mA, ⟨od, es, ep, k _ _ (.inr d) e2, c⟩, r⟩
  | own y => obtain ⟨ob, e⟩ := x; exact ⟨ob, k _ _ (.inl rfl) e⟩
  | xd fs => obtain ⟨mA, ⟨od, es, ep, e, c⟩, r⟩ := x; exact ⟨mA, ⟨od, es, ep, k _ _ (.inl rfl) e, c⟩, r⟩
  | rng lo hi => obtain ⟨t, u, v, e⟩ := x; exact ⟨t, u, v, k _ _ (.inl rfl) e⟩
  | frz ob u ih => obtain ⟨e, q⟩ := x; exact ⟨k _ _ (.inl rfl) e, ih q⟩
  | tbl ps =>
    have e : h.get? a = some { cls := .none, data := .fields ps } := x
    show h'.get? a = some { cls := .none, data := .fields ps }
    exact k a _ (.inl rfl) e
  | met f y =>
    have e : h.get? a = some (PySem.W.methodObj (.ref f) (.ref y)) := x
    show h'.get? a = some (PySem.W.methodObj (.ref f) (.ref y))
    exact k a _ (.inl rfl) e
  | ext φ => obtain ⟨p, ⟨o, e⟩, st⟩ := x; exact ⟨st _ _ p fun o q => k _ _ (.inl rfl) q, ⟨o, k _ _ (.inl rfl) e⟩, st⟩
theorem HOk.lt (x : HOk P w H h) (e : H a = some o) : a < h.objs.size := (x a o e).lt
theorem HOk.fresh (x : HOk P w H h) (e : h.objs.size ≤ a) : H a = none := by
  cases q : H a with
  | none => rfl
  | some u => exact absurd (Nat.lt_of_lt_of_le (x.lt q) e) (Nat.lt_irrefl _)
theorem HOk.kept (x : HOk P w H h) (k : ∀ b u, h.get? b = some u → h'.get? b = some u) : HOk P w H h' := fun a o e =>
  (x a o e).stay (fun b u _ q => k b u q) (fun _ q => q) fun _ _ q => q
theorem HOk.laid (x : HOk P w H h) (k : ∀ b u, h.get? b = some u → h'.get? b = some u) (hp : h.objs.size ≤ a) (new : cA P w (upd H a o) h' a o) : HOk P w (upd H a o) h' := fun b u e => by
  have hn := x.fresh hp
  by_cases hb : b = a
  · subst hb; rw [cK] at e; cases e; exact new
  · rw [bf hb] at e
    exact (x b u e).stay (fun c v _ q => k c v q) (fun c q => by rw [bf (cn q hn)]; exact q) fun c xs q => by rw [bf (cn q hn)]; exact q
end
noncomputable def Rd (H : Hp) (a : Addr) (u : HO) : Prop := H a = some u ∨ ∃ o, H a = some (.frz o u)
theorem Rd.ok {P : Program} {w : World} {H : Hp} {h : Heap} {a : Addr} {u : HO} (r : Rd H a u) (x : HOk P w H h) : cA P w H h a u := by
  rcases r with r | ⟨o, r⟩
  · exact x a u r
  · obtain ⟨_, q⟩ := x a _ r
    exact q
noncomputable def Mut : Option HO → Prop
  | some (.lst _) => True
  | some (.dK _) => True
  | some (.dT _) => True
  | some (.set _ _) => True
  | some (.ins _ _ _) => True
  | some (.ext _) => True
  | _ => False
section
variable {P : Program} {w : World} {H : Hp} {h h' : Heap} {x e : Addr} {o' : HO}
theorem HOk.write (ok : HOk P w H h) (mu : Mut (H x)) (he : e = x ∨ H e = some (.own x)) (k : ∀ b u, b ≠ e → h.get? b = some u → h'.get? b = some u) (heo : ∃ u, h'.get? e = some u)
    (new : cA P w (upd H x o') h' x o') : HOk P w (upd H x o') h' := fun b u q => by
  have nown : ∀ c y, H c = some (.own y) → c ≠ x := fun c y r z => by subst z; rw [r] at mu; exact mu
  have ntup : ∀ c xs, H c = some (.tup xs) → c ≠ x := fun c xs r z => by subst z; rw [r] at mu; exact mu
  by_cases hb : b = x
  · subst hb; rw [cK] at q; cases q; exact new
  · rw [bf hb] at q
    by_cases hbe : b = e
    · have q' : H b = some (.own x) := by
        rcases he with z | z
        · exact absurd (hbe.trans z) hb
        · rw [hbe]; exact z
      rw [q] at q'; cases q'
      obtain ⟨v, hv⟩ := heo
      exact ⟨v, by rw [hbe]; exact hv⟩
    · refine (ok b u q).stay (fun c v hc r => k c v ?_ r) (fun c r => by rw [bf (nown c b r)]; exact r) fun c xs r => by rw [bf (ntup c xs r)]; exact r
      rcases hc with rfl | hc
      · exact hbe
      · rintro rfl
        rcases he with z | z
        · exact nown c b hc z
        · rw [hc] at z; cases z; exact hb rfl
end
structure Un (fs ex : List Addr) (H H' : Hp) (h h' : Heap) : Prop where
  keep : ∀ b o, h.get? b = some o → H b = none → b ∉ fs → b ∉ ex → h'.get? b = some o
  slot : ∀ b o, h.get? b = some o → H b = none → b ∈ fs → b ∉ ex → ∃ sl, h'.get? b = some { o with slots := sl }
  free : ∀ b o, h.get? b = some o → H b = none → b ∉ ex → H' b = none
  there : ∀ b o, h.get? b = some o → b ∉ ex → ∃ o', h'.get? b = some o'
  tups : ∀ b xs, H b = some (.tup xs) → H' b = some (.tup xs)
  frzs : ∀ b o u, H b = some (.frz o u) → H' b = some (.frz o u)
  tbls : ∀ b ps, H b = some (.tbl ps) → ∃ more, H' b = some (.tbl (ps ++ more))
section
variable {fs fs' ex ex' : List Addr} {H H1 H2 : Hp} {h h1 h2 h' : Heap} {a x e : Addr} {o : HO}
theorem Un.any (u : Un fs ex H H1 h h1) {b : Addr} {ob : Obj} (q : h.get? b = some ob) (n : H b = none) (hx : b ∉ ex) : ∃ sl, h1.get? b = some { ob with slots := sl } := by
  by_cases hb : b ∈ fs
  · exact u.slot b ob q n hb hx
  · exact ⟨ob.slots, u.keep b ob q n hb hx⟩
theorem Un.kept (k : ∀ b u, h.get? b = some u → h'.get? b = some u) : Un fs ex H H h h' :=
  ⟨fun b ob q _ _ _ => k b ob q, fun b ob q _ _ _ => ⟨ob.slots, k b ob q⟩, fun _ _ _ n _ => n, fun b ob q _ => ⟨ob, k b ob q⟩, fun _ _ q => q, fun _ _ _ q => q, fun _ ps q => ⟨#[], by rw [q]; simp⟩⟩
theorem Un.refl : Un fs ex H H h h := Un.kept fun _ _ q => q
theorem Un.laid (k : ∀ b u, h.get? b = some u → h'.get? b = some u) (hp : h.objs.size ≤ a) (hn : H a = none) : Un fs ex H (upd H a o) h h' where
  keep := fun b u q _ _ _ => k b u q
  slot := fun b u q _ _ _ => ⟨u.slots, k b u q⟩
  free := fun b u q n _ => by rw [bf (Nat.ne_of_lt (Nat.lt_of_lt_of_le (Heap.lt_size q) hp))]; exact n
  there := fun b u q _ => ⟨u, k b u q⟩
  tups := fun b xs q => by rw [bf (cn q hn)]; exact q
  frzs := fun b u xs q => by rw [bf (cn q hn)]; exact q
  tbls := fun b ps q => ⟨#[], by rw [bf (cn q hn), q]; simp⟩
theorem Un.write (mu : Mut (H x)) (he : e = x ∨ H e = some (.own x)) (k : ∀ b u, b ≠ e → h.get? b = some u → h'.get? b = some u) (heo : ∃ u, h'.get? e = some u) : Un fs ex H (upd H x o) h h' := by
  have hx : ∀ b, H b = none → b ≠ x := fun b n z => by subst z; rw [n] at mu; exact mu
  have hb : ∀ b, H b = none → b ≠ e := fun b n z => by
    subst z
    rcases he with r | r
    · exact hx b n r
    · rw [n] at r; cases r
  have hm : ∀ b u, H b = some u → ¬ Mut (some u) → b ≠ x := fun b u q nm z => by subst z; rw [q] at mu; exact nm mu
  refine ⟨fun b u q n _ _ => k b u (hb b n) q, fun b u q n _ _ => ⟨u.slots, k b u (hb b n) q⟩, fun b u q n _ => by rw [bf (hx b n)]; exact n, fun b u q _ => ?_,
    fun b xs q => by rw [bf (hm b _ q fun z => z)]; exact q, fun b u xs q => by rw [bf (hm b _ q fun z => z)]; exact q, fun b ps q => ⟨#[], by rw [bf (hm b _ q fun z => z), q]; simp⟩⟩
  by_cases hbe : b = e
  · subst hbe; exact heo
  · exact ⟨u, k b u hbe q⟩
end
noncomputable def trk (h : Heap) (H : Hp) : List Addr := (List.range h.objs.size).filter fun a => (H a).isSome
noncomputable def fV (h : Heap) (H : Hp) : Heap := PySem.W.hideAll h (trk h H)
theorem yV (h : Heap) (H : Hp) : (fV h H).objs.size = h.objs.size := PySem.W.hideAll_size _ _
theorem C1 {h : Heap} {H : Hp} {b : Addr} {o : Obj} (e : h.get? b = some o) (n : H b = none) : (fV h H).get? b = some o :=
  PySem.W.hideAll_get _ e fun hm => by
    have q : (H b).isSome = true := (List.mem_filter.mp hm).2
    rw [n] at q; simp at q
theorem zr {h : Heap} {H : Hp} {b : Addr} {o : Obj} (e : (fV h H).get? b = some o) : h.get? b = some o ∧ H b = none := by
  have e' : h.get? b = some o := PySem.W.of_hideAll (trk h H) e
  refine ⟨e', ?_⟩
  cases q : H b with
  | none => rfl
  | some x =>
    have hm : b ∈ trk h H := List.mem_filter.mpr ⟨List.mem_range.mpr (Heap.lt_size e'), by simp [q]⟩
    have z : (fV h H).get? b = none := PySem.W.hideAll_none (trk h H) hm
    rw [z] at e; cases e
noncomputable def Cu (g h : Heap) (L : Addr) : List (Addr × Obj) := (List.range h.objs.size).filterMap fun a => if a = L ∨ (g.get? a).isSome = true then none else (h.get? a).map fun o => (a, o)
noncomputable def rest (g h : Heap) (L d : Addr) : List (Addr × Obj) := (Cu g h L).filter fun p => decide (p.1 ≠ d)
end L2
namespace L2
open PySem PySem.Spec PyProof.Rows
structure Mod (K : PySem.W.Frag) (mg : Str → Option Value) (base : Heap) : Prop where
  kin : K.In base
  glob : base.Ns mainGlobals mg
  blt : ∃ mb, base.Ns builtinsNs mb ∧ ∀ x : Str, x ≠ "__name__" → mb x = bootBuiltins x
  nolimit : base.NoLimit
structure Cx where
  prog : Program
  w : World
  K : PySem.W.Frag
  mg : Str → Option Value
  base : Heap
  A : Around
  N : List Str
  s₀ : Shared
  H₀ : Hp
  env : Env
  outer : List Env
  stack : List Env
  ex : List Addr
  fn : Str → Bool
  calm : Bool
  pn : List (Addr × Obj)
  xe : Value → Shared → Prop
noncomputable def frs (l : List Env) : List Addr := l.filterMap (·.frame)
noncomputable abbrev Cx.fs (X : Cx) : List Addr := frs X.outer
noncomputable def Vis (sc : Scope) (x : Str) : Prop := sc.names.lookup x = some .local ∨ sc.names.lookup x = some .cell ∨ sc.names.lookup x = some .free
noncomputable def Loc (sc : Scope) (x : Str) : Prop := sc.names.lookup x = some .local ∨ sc.names.lookup x = some .cell
noncomputable def Look (env : Env) (h : Heap) (m : Str → Option Value) (x : Str) (u : Value) : Prop :=
  (env.kindOf x = some .local ∧ m x = some u) ∨ ((env.kindOf x = some .cell ∨ env.kindOf x = some .free) ∧ ∃ c, env.cells.lookup x = some c ∧ h.IsCell c (some u))
structure Cx.Ok (X : Cx) : Prop where
  mod : Mod X.K X.mg X.base
  kind : X.env.scope.kind = .function
  glob : X.env.globals = mainGlobals
  blt : X.env.builtins = builtinsNs
  above : X.s₀.heap.objs.size ≤ X.env.locals
  inj : ∀ x y c, X.env.cells.lookup x = some c → X.env.cells.lookup y = some c → x = y
  has : ∀ x, (X.env.kindOf x = some .cell ∨ X.env.kindOf x = some .free) → ∃ c, X.env.cells.lookup x = some c
  cab : ∀ x c, X.fn x = true → X.env.cells.lookup x = some c → X.s₀.heap.objs.size ≤ c
  hd : X.calm = true → X.A.handled = none
  frames : X.A.frames = some X.stack
  stk : X.stack = X.outer ∨ (X.stack = X.env :: X.outer ∧ X.env.frame = some X.env.locals)
  exf : ∀ b ∈ X.ex, b ≠ X.env.locals ∧ ∀ x c, X.env.cells.lookup x = some c → c ≠ b
  bs : ∀ b o, X.base.get? b = some o → X.s₀.heap.get? b = some o ∧ X.H₀ b = none
  bsz : X.base.objs.size ≤ X.s₀.heap.objs.size
  noex : ∀ b o, X.base.get? b = some o → b ∉ X.ex
  exfs : ∀ b ∈ X.ex, b ∉ X.fs
  funs : X.s₀.heap.FunFrames X.base X.outer
  frf : ∀ b ∈ X.fs, X.H₀ b = none
structure Inv (X : Cx) (pins : List (Addr × Obj)) (σ : List (Option V)) (H : Hp) (s : Shared) : Prop where
  ok : X.Ok
  os : s.os = X.s₀.os
  bare : AllBare s.gens
  base : Un X.fs X.ex X.H₀ H X.s₀.heap s.heap
  loc : ∃ m, s.heap.Ns X.env.locals m ∧ ∀ (i : Nat) (x : Str) (v : V), X.N[i]? = some x → σ[i]? = some (some v) → Vis X.env.scope x → ∃ u, RelV v u ∧ Look X.env s.heap m x u
  cell : ∀ x c, X.env.cells.lookup x = some c → ∃ v, s.heap.IsCell c v
  free : H X.env.locals = none
  freeC : ∀ x c, X.env.cells.lookup x = some c → H c = none
  pin : ∀ p ∈ X.pn ++ pins, s.heap.get? p.1 = some p.2 ∧ H p.1 = none ∧ p.1 ≠ X.env.locals ∧ p.1 ∉ X.fs ∧ ∀ v, p.2.data ≠ .cell v
  hok : HOk X.prog X.w H s.heap
  len : σ.length = X.N.length
section
variable {X : Cx} {pins : List (Addr × Obj)} {σ : List (Option V)} {H H' : Hp} {s : Shared} {h' : Heap}
theorem Cx.Ok.nofr (ok : X.Ok) {b : Addr} {o : Obj} (e : X.base.get? b = some o) : b ∉ X.fs := fun hb => by
  have := (ok.funs.mem hb).1
  rw [e] at this; cases this
theorem Inv.bs (I : Inv X pins σ H s) : ∀ b o, X.base.get? b = some o → s.heap.get? b = some o ∧ H b = none := fun b o e =>
  ⟨I.base.keep b o (I.ok.bs b o e).1 (I.ok.bs b o e).2 (I.ok.nofr e) (I.ok.noex b o e), I.base.free b o (I.ok.bs b o e).1 (I.ok.bs b o e).2 (I.ok.noex b o e)⟩
theorem Inv.bk (I : Inv X pins σ H s) : ∀ b o, X.base.get? b = some o → s.heap.get? b = some o := fun b o e => (I.bs b o e).1
theorem Inv.mod (I : Inv X pins σ H s) : Mod X.K X.mg X.base := I.ok.mod
theorem Inv.kIn (I : Inv X pins σ H s) : X.K.In s.heap := I.ok.mod.kin.keeps I.bk
theorem Inv.nolimit (I : Inv X pins σ H s) : s.heap.NoLimit := I.ok.mod.nolimit.keeps I.bk
theorem Inv.fr (I : Inv X pins σ H s) : ∃ m, Fr X.base X.env.locals s.heap m :=
  let ⟨m, hn, _⟩ := I.loc
  ⟨m, hn, I.bk, Nat.le_trans I.ok.bsz I.ok.above⟩
theorem Inv.lt (I : Inv X pins σ H s) : X.env.locals < s.heap.objs.size := let ⟨_, hn, _⟩ := I.loc; hn.lt
theorem Inv.sz (I : Inv X pins σ H s) : X.s₀.heap.objs.size ≤ s.heap.objs.size := Nat.le_trans I.ok.above (Nat.le_of_lt I.lt)
theorem Inv.nofs (I : Inv X pins σ H s) {a : Addr} (h : s.heap.objs.size ≤ a) : a ∉ X.fs := fun hb => by
  obtain ⟨_, o, ho, _⟩ := I.ok.funs.mem hb
  exact absurd (Nat.lt_of_lt_of_le (Heap.lt_size ho) (Nat.le_trans I.sz h)) (Nat.lt_irrefl _)
theorem Inv.cne (I : Inv X pins σ H s) : ∀ x c, X.env.cells.lookup x = some c → c ≠ X.env.locals := fun x c e z => by
  obtain ⟨v, o, ho, hd⟩ := I.cell x c e
  obtain ⟨m, ⟨o', es, ep, ho', hd', _⟩, _⟩ := I.loc
  rw [z, ho'] at ho; cases ho; rw [hd'] at hd; cases hd
theorem Inv.funs (I : Inv X pins σ H s) : s.heap.FunFrames X.base X.outer := by
  have all : ∀ (l : List Env), (∀ b ∈ frs l, b ∈ X.fs) → X.s₀.heap.FunFrames X.base l → s.heap.FunFrames X.base l := by
    intro l
    induction l with
    | nil => intro _ _; trivial
    | cons env r ih =>
      intro hs hl
      obtain ⟨hk, ⟨L, o, hf, hn, ho, hd⟩, hr⟩ := hl
      have hL : L ∈ X.fs := hs L (by unfold frs; rw [List.filterMap_cons, hf]; exact List.mem_cons_self)
      obtain ⟨sl, e⟩ := I.base.slot L o ho (I.ok.frf L hL) hL fun z => I.ok.exfs L z hL
      exact ⟨hk, ⟨L, _, hf, hn, e, hd⟩, ih (fun b hb => hs b (by unfold frs; rw [List.filterMap_cons, hf]; exact List.mem_cons_of_mem _ hb)) hr⟩
  exact all X.outer (fun _ hb => hb) I.ok.funs
theorem Inv.stack (I : Inv X pins σ H s) : s.heap.FunFrames X.base X.stack := by
  rcases I.ok.stk with e | ⟨e, hf⟩
  · rw [e]; exact I.funs
  · rw [e]
    obtain ⟨m, hn, _⟩ := I.loc
    refine .cons (by rw [I.ok.kind]; decide) hf hn ?_ I.funs
    exact Heap.get?_none_of_le (Nat.le_trans I.ok.bsz I.ok.above)
theorem Inv.stkSub (I : Inv X pins σ H s) : ∀ b ∈ frs X.stack, b ∈ X.env.locals :: X.fs := fun b hb => by
  rcases I.ok.stk with e | ⟨e, hf⟩
  · rw [e] at hb; exact List.mem_cons_of_mem _ hb
  · rw [e] at hb
    unfold frs at hb
    rw [List.filterMap_cons, hf] at hb
    exact hb
theorem Inv.stkFree (I : Inv X pins σ H s) : ∀ b ∈ frs X.stack, H b = none := fun b hb => by
  rcases List.mem_cons.mp (I.stkSub b hb) with e | hb
  · rw [e]; exact I.free
  · obtain ⟨_, o, ho, _⟩ := I.ok.funs.mem hb
    exact I.base.free b o ho (I.ok.frf b hb) fun z => I.ok.exfs b z hb
theorem Inv.step {g' : Array GenState} {t' : Nat} {d' : Drawn} {ch : List Addr} (I : Inv X pins σ H s)
    (hch : ∀ b ∈ ch, (b ∈ X.ex ∨ X.s₀.heap.objs.size ≤ b) ∧ b ≠ X.env.locals ∧ (∀ x c, X.env.cells.lookup x = some c → c ≠ b) ∧ ∀ p ∈ X.pn ++ pins, p.1 ≠ b)
    (keep : ∀ b o, b ≠ X.env.locals → b ∉ X.fs → b ∉ ch → s.heap.get? b = some o → H b = none → h'.get? b = some o)
    (slot : ∀ b o, b ≠ X.env.locals → b ∈ X.fs → b ∉ ch → s.heap.get? b = some o → H b = none → ∃ sl, h'.get? b = some { o with slots := sl }) (free : ∀ b o, b ∉ ch → s.heap.get? b = some o → H b = none → H' b = none)
    (there : ∀ b o, b ∉ ch → s.heap.get? b = some o → ∃ o', h'.get? b = some o')
    (tups : ∀ b xs, H b = some (.tup xs) → H' b = some (.tup xs)) (frzs : ∀ b o u, H b = some (.frz o u) → H' b = some (.frz o u)) (tbls : ∀ b ps, H b = some (.tbl ps) → ∃ more, H' b = some (.tbl (ps ++ more)))
    (ns : ∀ m, s.heap.Ns X.env.locals m → h'.Ns X.env.locals m) (hok : HOk X.prog X.w H' h') (hg : AllBare g') :
    Inv X pins σ H' { s with heap := h', gens := g', drawn := d', toks := t' } := by
  have neL : ∀ b o, X.s₀.heap.get? b = some o → b ≠ X.env.locals := fun b o e => Nat.ne_of_lt (Nat.lt_of_lt_of_le (Heap.lt_size e) I.ok.above)
  have neC : ∀ b o, X.s₀.heap.get? b = some o → b ∉ X.ex → b ∉ ch := fun b o e hx hb => by
    rcases (hch b hb).1 with z | z
    · exact hx z
    · exact absurd (Nat.lt_of_lt_of_le (Heap.lt_size e) z) (Nat.lt_irrefl _)
  have cellK : ∀ x c, X.env.cells.lookup x = some c → ∀ v, s.heap.IsCell c v → h'.IsCell c v := fun x c e v ⟨o, ho, hd⟩ => by
    have nch : c ∉ ch := fun z => (hch c z).2.2.1 x c e rfl
    by_cases hc : c ∈ X.fs
    · obtain ⟨sl, q⟩ := slot c o (I.cne x c e) hc nch ho (I.freeC x c e)
      exact ⟨_, q, hd⟩
    · exact ⟨o, keep c o (I.cne x c e) hc nch ho (I.freeC x c e), hd⟩
  refine ⟨I.ok, I.os, hg, ⟨fun b o e n hb hx => ?_, fun b o e n hb hx => ?_, fun b o e n hx => ?_, fun b o e hx => ?_, fun b xs e => tups b xs (I.base.tups b xs e), fun b o xs e => frzs b o xs (I.base.frzs b o xs e), fun b ps e => ?_⟩, ?_, fun x c e => ?_, ?_, fun x c e => ?_, fun p hp => ?_, hok, I.len⟩
  · exact keep b o (neL b o e) hb (neC b o e hx) (I.base.keep b o e n hb hx) (I.base.free b o e n hx)
  · obtain ⟨sl, e1⟩ := I.base.slot b o e n hb hx
    obtain ⟨sl', e2⟩ := slot b _ (neL b o e) hb (neC b o e hx) e1 (I.base.free b o e n hx)
    exact ⟨sl', e2⟩
  · obtain ⟨o', e1⟩ := I.base.there b o e hx
    exact free b o' (neC b o e hx) e1 (I.base.free b o e n hx)
  · obtain ⟨o', e1⟩ := I.base.there b o e hx
    exact there b o' (neC b o e hx) e1
  · obtain ⟨m1, e1⟩ := I.base.tbls b ps e
    obtain ⟨m2, e2⟩ := tbls b _ e1
    exact ⟨m1 ++ m2, by rw [e2, Array.append_assoc]⟩
  · obtain ⟨m, hn, hl⟩ := I.loc
    refine ⟨m, ns m hn, fun i x v e1 e2 e3 => ?_⟩
    obtain ⟨u, r, l⟩ := hl i x v e1 e2 e3
    refine ⟨u, r, ?_⟩
    rcases l with l | ⟨k, c, e, z⟩
    · exact .inl l
    · exact .inr ⟨k, c, e, cellK x c e _ z⟩
  · obtain ⟨v, z⟩ := I.cell x c e
    exact ⟨v, cellK x c e v z⟩
  · obtain ⟨m, ⟨o, _, _, ho, _⟩, _⟩ := I.loc
    exact free _ o (fun z => (hch _ z).2.1 rfl) ho I.free
  · obtain ⟨v, o, ho, hd⟩ := I.cell x c e
    exact free c o (fun z => (hch c z).2.2.1 x c e rfl) ho (I.freeC x c e)
  · obtain ⟨e, n, ne, nf, d⟩ := I.pin p hp
    have nch : p.1 ∉ ch := fun z => (hch p.1 z).2.2.2 p hp rfl
    exact ⟨keep p.1 p.2 ne nf nch e n, free p.1 p.2 nch e n, ne, nf, d⟩
theorem Inv.un {t' : Nat} (I : Inv X pins σ H s) (u : Un X.fs [] H H' s.heap h') (hok : HOk X.prog X.w H' h') : Inv X pins σ H' { s with heap := h', toks := t' } := by
  obtain ⟨m, ⟨o, es, ep, ho, r⟩, _⟩ := id I.loc
  obtain ⟨sl, hL⟩ := u.any ho I.free (by simp)
  exact I.step (g' := s.gens) (d' := s.drawn) (ch := []) (fun _ z => nomatch z) (fun b o _ hb _ e n => u.keep b o e n hb (by simp)) (fun b o _ hb _ e n => u.slot b o e n hb (by simp)) (fun b o _ e n => u.free b o e n (by simp)) (fun b o _ e => u.there b o e (by simp)) u.tups u.frzs u.tbls (fun m' hm => by
    obtain ⟨o', es', ep', ho', r'⟩ := hm
    rw [ho] at ho'; cases ho'
    exact ⟨_, es', ep', hL, r'⟩) hok I.bare
theorem Inv.call {g' : Array GenState} {t' : Nat} {d' : Drawn} {ch : List Addr} (I : Inv X pins σ H s) (u : Un (frs X.stack) ch H H' s.heap h') (hok : HOk X.prog X.w H' h') (hg : AllBare g')
    (hch : ∀ b ∈ ch, (b ∈ X.ex ∨ X.s₀.heap.objs.size ≤ b) ∧ b ≠ X.env.locals ∧ (∀ x c, X.env.cells.lookup x = some c → c ≠ b) ∧ ∀ p ∈ X.pn ++ pins, p.1 ≠ b) :
    Inv X pins σ H' { s with heap := h', gens := g', drawn := d', toks := t' } := by
  obtain ⟨m, ⟨o, es, ep, ho, r⟩, _⟩ := id I.loc
  obtain ⟨sl, hL⟩ := u.any ho I.free fun z => (hch _ z).2.1 rfl
  exact I.step (ch := ch) hch (fun b o hL hb hc e n => u.keep b o e n (fun z => (List.mem_cons.mp (I.stkSub b z)).elim hL hb) hc) (fun b o _ _ hc e n => u.any e n hc) (fun b o hc e n => u.free b o e n hc) (fun b o hc e => u.there b o e hc) u.tups u.frzs u.tbls (fun m' hm => by
    obtain ⟨o', es', ep', ho', r'⟩ := hm
    rw [ho] at ho'; cases ho'
    exact ⟨_, es', ep', hL, r'⟩) hok hg
theorem Inv.turned {t' : Nat} {it : Addr} (I : Inv X pins σ H s) (k : ∀ b o, b ≠ it → s.heap.get? b = some o → h'.get? b = some o) (hn : H it = none) (hL : it ≠ X.env.locals)
    (h1 : it ∈ X.ex ∨ X.s₀.heap.objs.size ≤ it) (h2 : ∀ x c, X.env.cells.lookup x = some c → c ≠ it) (h3 : ∀ p ∈ X.pn ++ pins, p.1 ≠ it) : Inv X pins σ H { s with heap := h', toks := t' } := by
  have nit : ∀ b u, H b = some u → b ≠ it := fun b u e z => by rw [z, hn] at e; cases e
  refine I.step (g' := s.gens) (d' := s.drawn) (ch := [it]) (fun b hb => ?_) (fun b o _ _ hc e _ => k b o (fun z => hc (by simp [z])) e) (fun b o _ _ hc e _ => ⟨o.slots, k b o (fun z => hc (by simp [z])) e⟩) (fun _ _ _ _ n => n)
    (fun b o hc e => ⟨o, k b o (fun z => hc (by simp [z])) e⟩) (fun _ _ e => e) (fun _ _ _ e => e) (fun b ps e => ⟨#[], by rw [e]; simp⟩) (fun m hm => ?_) (fun b u e => ?_) I.bare
  · have e : b = it := by simpa using hb
    subst e
    exact ⟨h1, hL, h2, h3⟩
  · obtain ⟨o, es, ep, ho, r⟩ := hm
    exact ⟨o, es, ep, k _ o (Ne.symm hL) ho, r⟩
  · refine (I.hok b u e).stay (fun c v hc q => k c v ?_ q) (fun _ q => q) fun _ _ q => q
    rcases hc with z | z
    · rw [z]; exact nit b u e
    · exact nit c _ z
theorem Inv.tok (I : Inv X pins σ H s) (t : Nat) : Inv X pins σ H { s with toks := t } := I.un (h' := s.heap) (t' := t) Un.refl I.hok
theorem Inv.kept {t' : Nat} (I : Inv X pins σ H s) (k : ∀ b u, s.heap.get? b = some u → h'.get? b = some u) : Inv X pins σ H { s with heap := h', toks := t' } := I.un (Un.kept k) (I.hok.kept k)
theorem Inv.laid {a : Addr} {o : HO} {t' : Nat} (I : Inv X pins σ H s) (k : ∀ b u, s.heap.get? b = some u → h'.get? b = some u) (hp : s.heap.objs.size ≤ a) (new : cA X.prog X.w (upd H a o) h' a o) :
    Inv X pins σ (upd H a o) { s with heap := h', toks := t' } := I.un (Un.laid k hp (I.hok.fresh hp)) (I.hok.laid k hp new)
theorem Inv.write {x e : Addr} {o : HO} {t' : Nat} (I : Inv X pins σ H s) (mu : Mut (H x)) (he : e = x ∨ H e = some (.own x)) (k : ∀ b u, b ≠ e → s.heap.get? b = some u → h'.get? b = some u) (heo : ∃ u, h'.get? e = some u)
    (new : cA X.prog X.w (upd H x o) h' x o) : Inv X pins σ (upd H x o) { s with heap := h', toks := t' } := I.un (Un.write mu he k heo) (I.hok.write mu he k heo new)
theorem Inv.pins_of {pins' : List (Addr × Obj)} (I : Inv X pins σ H s) (h : ∀ p ∈ pins', s.heap.get? p.1 = some p.2 ∧ H p.1 = none ∧ p.1 ≠ X.env.locals ∧ p.1 ∉ X.fs ∧ ∀ v, p.2.data ≠ .cell v) : Inv X pins' σ H s :=
  ⟨I.ok, I.os, I.bare, I.base, I.loc, I.cell, I.free, I.freeC, fun p hp => (List.mem_append.mp hp).elim (fun z => I.pin p (List.mem_append_left _ z)) (h p), I.hok, I.len⟩
theorem oG {N : List Str} (hN : N.Nodup) {i j : Nat} {x : Str} (a : N[i]? = some x) (b : N[j]? = some x) : i = j := by
  obtain ⟨h1, e1⟩ := List.getElem?_eq_some_iff.mp a
  obtain ⟨h2, e2⟩ := List.getElem?_eq_some_iff.mp b
  exact (List.getElem_inj hN).mp (e1.trans e2.symm)
theorem tf {M : Model} {A : Around} {E : Value → Shared → Prop} {i : Nat} {x : Str} {v : V} {u : Value} {Q : Unit → Shared → Prop} (I : Inv X pins σ H s) (hN : X.N.Nodup) (hi : X.N[i]? = some x) (hx : Loc X.env.scope x) (r : RelV v u)
    (h : ∀ s', Inv X pins (σ.set i (some v)) H s' → (∃ a, Heap.SameBut a s.heap s'.heap ∧ (a = X.env.locals ∨ X.env.cells.lookup x = some a)) → Q () s') (hf : X.fn x = true ∨ X.env.scope.names.lookup x = some .local := by first | exact .inl rfl | exact .inr rfl | assumption) : wpAny M A (storeName X.env x u) Q E s := by
  obtain ⟨m, hn, hl⟩ := id I.loc
  have hcls : (X.env.scope.kind == .class || (X.env.scope.kind == .module && X.env.locals != X.env.globals)) = false := by rw [I.ok.kind]; rfl
  have hiσ : i < σ.length := by rw [I.len]; exact (List.getElem?_eq_some_iff.mp hi).1
  have cne := I.cne
  have tracked : ∀ {a : Addr} {h' : Heap}, (∃ o, s.heap.get? a = some o ∧ H a = none) → Heap.SameBut a s.heap h' → HOk X.prog X.w H h' := fun {a h'} ha hs b ob e => by
    obtain ⟨_, _, hfree⟩ := ha
    refine (I.hok b ob e).stay (fun c w' hc q => (hs.2 c ?_).trans q) (fun _ q => q) fun _ _ q => q
    rintro rfl
    rcases hc with rfl | hc
    · rw [hfree] at e; cases e
    · rw [hfree] at hc; cases hc
  rcases hx with hk | hk
  · refine wpAny_storeName_local hk hn (fun h' hn' hs => ?_) hcls
    obtain ⟨oL, _, _, hoL, _⟩ := id hn
    refine h _ ⟨I.ok, I.os, I.bare, ⟨fun b o e n hb hx => ?_, fun b o e n hb hx => ?_, I.base.free, fun b o e hx => ?_, I.base.tups, I.base.frzs, I.base.tbls⟩, ⟨_, hn', fun j y v' e1 e2 e3 => ?_⟩, fun y c e => ?_, I.free, I.freeC, fun p hp => ?_, tracked ⟨oL, hoL, I.free⟩ hs, by simpa using I.len⟩ ⟨_, hs, .inl rfl⟩
    · exact (hs.2 b (Nat.ne_of_lt (Nat.lt_of_lt_of_le (Heap.lt_size e) I.ok.above))).trans (I.base.keep b o e n hb hx)
    · obtain ⟨sl, e1⟩ := I.base.slot b o e n hb hx
      exact ⟨sl, (hs.2 b (Nat.ne_of_lt (Nat.lt_of_lt_of_le (Heap.lt_size e) I.ok.above))).trans e1⟩
    · obtain ⟨o', e1⟩ := I.base.there b o e hx
      exact ⟨o', (hs.2 b (Nat.ne_of_lt (Nat.lt_of_lt_of_le (Heap.lt_size e) I.ok.above))).trans e1⟩
    · by_cases hj : j = i
      · subst hj
        rw [hi] at e1; cases e1
        rw [List.getElem?_set_self hiσ] at e2
        cases e2
        exact ⟨u, r, .inl ⟨hk, by simp⟩⟩
      · rw [List.getElem?_set_ne (Ne.symm hj)] at e2
        obtain ⟨u', r', q⟩ := hl j y v' e1 e2 e3
        refine ⟨u', r', ?_⟩
        rcases q with ⟨k, e⟩ | ⟨k, c, e, z⟩
        · refine .inl ⟨k, ?_⟩
          have : y ≠ x := fun e => hj (oG hN e1 (e ▸ hi))
          simp [this, e]
        · exact .inr ⟨k, c, e, z.sameBut hs (cne y c e)⟩
    · obtain ⟨w', z⟩ := I.cell y c e
      exact ⟨w', z.sameBut hs (cne y c e)⟩
    · obtain ⟨e, n, ne, nf, d⟩ := I.pin p hp
      exact ⟨(hs.2 p.1 ne).trans e, n, ne, nf, d⟩
  · have hfn : X.fn x = true := by
      rcases hf with z | z
      · exact z
      · rw [z] at hk; cases hk
    obtain ⟨c, hc⟩ := I.ok.has x (.inl hk)
    obtain ⟨w', z⟩ := I.cell x c hc
    refine wpAny_storeName_cell I.ok.kind hk hc z (fun h' hc' hs => ?_)
    obtain ⟨oc, hoc, hocd⟩ := id z
    refine h { s with heap := h' } ⟨I.ok, I.os, I.bare, ⟨fun b o e n hb hx => ?_, fun b o e n hb hx => ?_, I.base.free, fun b o e hx => ?_, I.base.tups, I.base.frzs, I.base.tbls⟩, ⟨m, hn.sameBut hs (Ne.symm (cne x c hc)), fun j y v' e1 e2 e3 => ?_⟩, fun y c' e => ?_, I.free, I.freeC, fun p hp => ?_, tracked ⟨oc, hoc, I.freeC x c hc⟩ hs, by simpa using I.len⟩ ⟨c, hs, .inr hc⟩
    · exact (hs.2 b (Nat.ne_of_lt (Nat.lt_of_lt_of_le (Heap.lt_size e) (I.ok.cab x c hfn hc)))).trans (I.base.keep b o e n hb hx)
    · obtain ⟨sl, e1⟩ := I.base.slot b o e n hb hx
      exact ⟨sl, (hs.2 b (Nat.ne_of_lt (Nat.lt_of_lt_of_le (Heap.lt_size e) (I.ok.cab x c hfn hc)))).trans e1⟩
    · obtain ⟨o', e1⟩ := I.base.there b o e hx
      exact ⟨o', (hs.2 b (Nat.ne_of_lt (Nat.lt_of_lt_of_le (Heap.lt_size e) (I.ok.cab x c hfn hc)))).trans e1⟩
    · by_cases hj : j = i
      · subst hj
        rw [hi] at e1; cases e1
        rw [List.getElem?_set_self hiσ] at e2
        cases e2
        exact ⟨u, r, .inr ⟨.inl hk, c, hc, hc'⟩⟩
      · rw [List.getElem?_set_ne (Ne.symm hj)] at e2
        obtain ⟨u', r', q⟩ := hl j y v' e1 e2 e3
        refine ⟨u', r', ?_⟩
        rcases q with q | ⟨k, c', e, z'⟩
        · exact .inl q
        · refine .inr ⟨k, c', e, z'.sameBut hs ?_⟩
          rintro rfl
          exact hj (oG hN e1 (I.ok.inj _ _ _ e hc ▸ hi))
    · by_cases hcc : c' = c
      · subst hcc; exact ⟨_, hc'⟩
      · obtain ⟨w2, z2⟩ := I.cell y c' e
        exact ⟨w2, z2.sameBut hs hcc⟩
    · obtain ⟨e, n, ne, nf, d⟩ := I.pin p hp
      refine ⟨(hs.2 p.1 ?_).trans e, n, ne, nf, d⟩
      intro q
      rw [q, hoc] at e
      have q' : oc = p.2 := Option.some.inj e
      exact d w' (by rw [← q']; exact hocd)
theorem n6 {M : Model} {A : Around} {E : Value → Shared → Prop} {i : Nat} {x : Str} {v : V} {u : Value} {Q : Unit → Shared → Prop} (I : Inv X pins σ H s) (hN : X.N.Nodup) (hi : X.N[i]? = some x) (hx : Loc X.env.scope x) (r : RelV v u)
    (h : ∀ s', Inv X pins (σ.set i (some v)) H s' → Q () s') (hf : X.fn x = true ∨ X.env.scope.names.lookup x = some .local := by first | exact .inl rfl | exact .inr rfl | assumption) : wpAny M A (storeName X.env x u) Q E s :=
  tf I hN hi hx r (fun s' I' _ => h s' I') hf
theorem Inv.call' {s' : Shared} {ch : List Addr} (I : Inv X pins σ H s) (ho : s'.os = s.os) (u : Un (frs X.stack) ch H H' s.heap s'.heap) (hok : HOk X.prog X.w H' s'.heap) (hg : AllBare s'.gens)
    (hch : ∀ b ∈ ch, (b ∈ X.ex ∨ X.s₀.heap.objs.size ≤ b) ∧ b ≠ X.env.locals ∧ (∀ x c, X.env.cells.lookup x = some c → c ≠ b) ∧ ∀ p ∈ X.pn ++ pins, p.1 ≠ b) : Inv X pins σ H' s' := by
  obtain ⟨h', g', d', t', o'⟩ := s'
  have e : o' = s.os := ho
  subst e
  exact I.call (g' := g') (t' := t') (d' := d') u hok hg hch
end
noncomputable abbrev XK := Value → Option Addr → Hp → Prop
noncomputable abbrev St := List (Option V)
noncomputable abbrev VK := V → Hp → Prop
noncomputable abbrev TE := St → Hp → VK → Prop
noncomputable abbrev TT := St → Hp → (Bool → Hp → Prop) → Prop
noncomputable abbrev TA := St → Hp → (List V → Hp → Prop) → Prop
structure Ends where
  nx : St → Hp → Prop
  rt : VK
  bk : St → Hp → Prop := fun _ _ => False
  ct : St → Hp → Prop := fun _ _ => False
noncomputable abbrev TS := Ends → St → Hp → Prop
noncomputable def EP (X : Cx) (pins : List (Addr × Obj)) (σ : St) (Q : VK) (u : Value) (s' : Shared) : Prop := ∃ v H', Inv X pins σ H' s' ∧ RelV v u ∧ Q v H'
noncomputable def TP (X : Cx) (pins : List (Addr × Obj)) (σ : St) (Q : Bool → Hp → Prop) (b : Bool) (s' : Shared) : Prop := ∃ H', Inv X pins σ H' s' ∧ Q b H'
noncomputable def AP (X : Cx) (pins : List (Addr × Obj)) (σ : St) (Q : List V → Hp → Prop) (us : List Value) (s' : Shared) : Prop := ∃ vs H', Inv X pins σ H' s' ∧ Vals vs us ∧ Q vs H'
noncomputable def SP (X : Cx) (pins : List (Addr × Obj)) (D : Ends) (f : Flow) (s' : Shared) : Prop :=
  match f with
  | .next => ∃ σ' H', Inv X pins σ' H' s' ∧ D.nx σ' H'
  | .brk => ∃ σ' H', Inv X pins σ' H' s' ∧ D.bk σ' H'
  | .cont => ∃ σ' H', Inv X pins σ' H' s' ∧ D.ct σ' H'
  | .ret u => ∃ v σ' H', Inv X pins σ' H' s' ∧ RelV v u ∧ D.rt v H'
noncomputable def PE (X : Cx) (e : Expr) (t : TE) : Prop :=
  ∀ (pins : List (Addr × Obj)) (s : Shared) (σ : St) (H : Hp) (Q : VK), Inv X pins σ H s → t σ H Q → wpAny (model X.prog X.w) X.A (eval e X.env) (EP X pins σ Q) X.xe s
noncomputable def PT (X : Cx) (e : Expr) (t : TT) : Prop :=
  ∀ (pins : List (Addr × Obj)) (s : Shared) (σ : St) (H : Hp) (Q : Bool → Hp → Prop), Inv X pins σ H s → t σ H Q → wpAny (model X.prog X.w) X.A (isTrue e X.env (eval e X.env)) (TP X pins σ Q) X.xe s
noncomputable def PW (X : Cx) (e : Expr) (t : TT) : Prop :=
  ∀ (whole : Sem Value) (pins : List (Addr × Obj)) (s : Shared) (σ : St) (H : Hp) (Q : Bool → Hp → Prop), Inv X pins σ H s → t σ H Q → wpAny (model X.prog X.w) X.A (isTrue e X.env whole) (TP X pins σ Q) X.xe s
theorem PW.pt {X : Cx} {e : Expr} {t : TT} (h : PW X e t) : PT X e t := h _
noncomputable def PA (X : Cx) (es : List Expr) (t : TA) : Prop :=
  ∀ (pos : Pos) (pins : List (Addr × Obj)) (s : Shared) (σ : St) (H : Hp) (Q : List V → Hp → Prop), Inv X pins σ H s → t σ H Q → wpAny (model X.prog X.w) X.A (spliced (backTo pos (starEach es X.env))) (AP X pins σ Q) X.xe s
noncomputable def PS (X : Cx) (st : Stmt) (t : TS) : Prop :=
  ∀ (pins : List (Addr × Obj)) (s : Shared) (σ : St) (H : Hp) (D : Ends), Inv X pins σ H s → t D σ H → wpAny (model X.prog X.w) X.A (exec st X.env) (SP X pins D) X.xe s
noncomputable def PSs (X : Cx) (st : List Stmt) (t : TS) : Prop :=
  ∀ (pins : List (Addr × Obj)) (s : Shared) (σ : St) (H : Hp) (D : Ends), Inv X pins σ H s → t D σ H → wpAny (model X.prog X.w) X.A (execs st X.env) (SP X pins D) X.xe s
theorem thn {α : Type} {t : Sem α} {Q Q' : α → Shared → Prop} {M : Model} {A : Around} {E : Value → Shared → Prop} {s : Shared} (h : wpAny M A t Q E s) (hQ : ∀ a s, Q a s → Q' a s) : wpAny M A t Q' E s := wpAny_mono h hQ fun _ _ x => x
end L2
namespace L2
open PySem PySem.Spec PyProof.Rows
section
variable {X : Cx}
noncomputable def nN (i : Nat) : TE := fun σ H Q => ∃ v, σ[i]? = some (some v) ∧ Q v H
noncomputable def tC (v : V) : TE := fun _ H Q => Q v H
theorem A8 {i : Nat} {x : Str} {pos : Pos} (hN : X.N[i]? = some x) (hv : Vis X.env.scope x) (hd : (x == ("__debug__" : Str)) = false := by decide) (hcd : (x == ("__classdict__" : Str)) = false := by decide) : PE X (.Name x pos) (nN i) := by
  intro pins s σ H Q I h
  obtain ⟨v, e, h⟩ := h
  obtain ⟨m, hn, hl⟩ := I.loc
  obtain ⟨u, r, l⟩ := hl i x v hN e hv
  have fin : EP X pins σ Q u s := ⟨v, H, I, r, h⟩
  rcases l with ⟨hk, hm⟩ | ⟨hk, c, hc, hcell⟩
  · exact wpAny_Name (wpAny_loadName_local I.ok.kind hk hn hm fin) hd
  · rcases hk with hk | hk
    · exact wpAny_Name (wpAny_loadName_cell I.ok.kind hk hc hcell fin) hd
    · exact wpAny_Name (wpAny_loadName_free I.ok.kind hk hc hcell fin hcd) hd
theorem si {i j pos} : PE X (.Constant (.int i) j pos) (tC (.int i)) := fun _ _ _ H _ I h => wpAny_Constant_int ⟨.int i, H, I.tok _, ⟨_, rfl⟩, h⟩
theorem BB {b j pos} : PE X (.Constant (.bool b) j pos) (tC (.bl b)) := fun _ _ _ H _ I h => Constant_bool ⟨.bl b, H, I, rfl, h⟩
theorem yg {j pos} : PE X (.Constant .none j pos) (tC .non) := fun _ _ _ H _ I h => Constant_none ⟨.non, H, I, rfl, h⟩
theorem vq {x j pos} : PE X (.Constant (.str x) j pos) (tC (.str x)) := fun _ _ _ H _ I h => Calls.Constant_str ⟨.str x, H, I.tok _, ⟨_, rfl⟩, h⟩
noncomputable def Gl (X : Cx) (x : Str) : Prop := X.env.kindOf x = some .globalImplicit
theorem ji {E : Value → Shared → Prop} {pins : List (Addr × Obj)} {s : Shared} {σ : St} {H : Hp} {x : Str} {u : Value} {pos : Pos} {Q : Value → Shared → Prop} (I : Inv X pins σ H s) (hg : Gl X x) (hm : X.mg x = some u) (h : Q u s)
    (hd : (x == ("__debug__" : Str)) = false := by decide) : wpAny (model X.prog X.w) X.A (eval (.Name x pos) X.env) Q E s :=
  Calls.Name_function_global I.ok.kind hg (Calls.loadGlobal_global (by rw [I.ok.glob]; exact I.mod.glob.keeps I.bk) hm h) hd
theorem gy {E : Value → Shared → Prop} {pins : List (Addr × Obj)} {s : Shared} {σ : St} {H : Hp} {x : Str} {u : Value} {pos : Pos} {Q : Value → Shared → Prop} (I : Inv X pins σ H s) (hg : Gl X x) (hm : X.mg x = none) (hv : bootBuiltins x = some u) (h : Q u s)
    (hn : x ≠ "__name__" := by decide) (hd : (x == ("__debug__" : Str)) = false := by decide) : wpAny (model X.prog X.w) X.A (eval (.Name x pos) X.env) Q E s := by
  obtain ⟨mb, h1, h2⟩ := I.mod.blt
  exact Calls.Name_function_global I.ok.kind hg (Calls.loadGlobal_builtin (by rw [I.ok.glob]; exact I.mod.glob.keeps I.bk) hm (by rw [I.ok.blt]; exact h1.keeps I.bk) ((h2 x hn).trans hv) h) hd
theorem hV {x : Str} {v : V} {u : Value} {pos : Pos} (hg : Gl X x) (hm : X.mg x = some u) (r : RelV v u) (hd : (x == ("__debug__" : Str)) = false := by decide) : PE X (.Name x pos) (tC v) :=
  fun _ _ _ H _ I h => ji I hg hm ⟨v, H, I, r, h⟩ hd
theorem oM {x : Str} {v : V} {u : Value} {pos : Pos} (hg : Gl X x) (hm : X.mg x = none) (hv : bootBuiltins x = some u) (r : RelV v u) (hn : x ≠ "__name__" := by decide) (hd : (x == ("__debug__" : Str)) = false := by decide) : PE X (.Name x pos) (tC v) :=
  fun _ _ _ H _ I h => gy I hg hm hv ⟨v, H, I, r, h⟩ hn hd
variable {a b : Expr} {ta tb : TE} {pos : Pos}
noncomputable def tB (t : TE) : TT := fun σ H Q => t σ H fun x H1 => ∃ c, x = .bl c ∧ Q c H1
theorem Ao {e : Expr} {t : TE} (h : PE X e t) (he : ∀ whole, isTrue e X.env whole = (do let v ← whole; standAt e.pos; holding [v] (truthy v)) := by intro _; rfl) : PT X e (tB t) := by
  intro pins s σ H Q I hw
  refine isTrue_plain (thn (h pins s σ H _ I hw) fun v s1 ⟨x, H1, I1, r1, q1⟩ => ?_) (he _)
  obtain ⟨d, rfl, q⟩ := q1
  cases r1
  exact wpAny_truthy_bool ⟨H1, I1, q⟩
variable {tA tB' : TT} {rest : List Expr}
noncomputable def qj (t u : TT) : TT := fun σ H Q => t σ H fun c H1 => if c = true then u σ H1 Q else Q false H1
noncomputable def tOr (t u : TT) : TT := fun σ H Q => t σ H fun c H1 => if c = true then Q true H1 else u σ H1 Q
noncomputable def uO (t : TT) : TT := fun σ H Q => t σ H fun c H1 => Q (!c) H1
theorem DF (ha : PT X a tA) : PW X (.BoolOp .And [a] pos) tA := by
  intro wh pins s σ H Q I h
  refine isTrue_and (thn (ha pins s σ H Q I h) fun c s1 e => ?_)
  cases c with
  | true => exact isTrue_and_nil e
  | false => exact e
theorem Dy (ha : PT X a tA) : PW X (.BoolOp .Or [a] pos) tA := by
  intro wh pins s σ H Q I h
  refine isTrue_or (thn (ha pins s σ H Q I h) fun c s1 e => ?_)
  cases c with
  | false => exact isTrue_or_nil e
  | true => exact e
theorem Ba (ha : PT X a tA) (hb : PW X (.BoolOp .And (b :: rest) pos) tB') : PW X (.BoolOp .And (a :: b :: rest) pos) (qj tA tB') := by
  intro wh pins s σ H Q I h
  refine isTrue_and (thn (ha pins s σ H _ I h) fun c s1 ⟨H1, I1, q1⟩ => ?_)
  cases c with
  | true => exact hb wh pins s1 σ H1 Q I1 q1
  | false => exact ⟨H1, I1, q1⟩
theorem Ds (ha : PT X a tA) (hb : PW X (.BoolOp .Or (b :: rest) pos) tB') : PW X (.BoolOp .Or (a :: b :: rest) pos) (tOr tA tB') := by
  intro wh pins s σ H Q I h
  refine isTrue_or (thn (ha pins s σ H _ I h) fun c s1 ⟨H1, I1, q1⟩ => ?_)
  cases c with
  | true => exact ⟨H1, I1, q1⟩
  | false => exact hb wh pins s1 σ H1 Q I1 q1
theorem Bz (ha : PT X a tA) : PT X (.UnaryOp .Not a pos) (uO tA) := by
  intro pins s σ H Q I h
  exact isTrue_not (ha pins s σ H (fun c H1 => Q (!c) H1) I h)
noncomputable def va (ta tb : TE) : TE := fun σ H Q => ta σ H fun x H1 => ∃ c, x = .bl c ∧ if c = true then tb σ H1 Q else Q (.bl false) H1
noncomputable def rz (ta : TE) : TE := fun σ H Q => ta σ H fun x H1 => ∃ c, x = .bl c ∧ Q (.bl (!c)) H1
theorem Df {op} {t : TE} (h : PE X a t) : PE X (.BoolOp op [a] pos) t := fun pins s σ H Q I hw => BoolOp_one (h pins s σ H Q I hw)
theorem xD (ha : PE X a ta) (hb : PE X (.BoolOp .And (b :: rest) pos) tb) : PE X (.BoolOp .And (a :: b :: rest) pos) (va ta tb) := by
  intro pins s σ H Q I h
  refine BoolOp_and (thn (ha pins s σ H _ I h) fun v s1 ⟨x, H1, I1, r1, q1⟩ => ?_)
  obtain ⟨c, rfl, q1⟩ := q1
  cases r1
  refine wpAny_truthy_bool ?_
  cases c with
  | true => exact hb pins s1 σ H1 Q I1 q1
  | false => exact ⟨.bl false, H1, I1, rfl, q1⟩
theorem BS (ha : PE X a ta) : PE X (.UnaryOp .Not a pos) (rz ta) := by
  intro pins s σ H Q I h
  refine UnaryOp_ (thn (ha pins s σ H _ I h) fun v s1 ⟨x, H1, I1, r1, q1⟩ => ?_)
  obtain ⟨c, rfl, q1⟩ := q1
  cases r1
  exact not_of (wpAny_truthy_bool ⟨.bl (!c), H1, I1, rfl, q1⟩)
noncomputable def tIf (t : TT) (ta tb : TE) : TE := fun σ H Q => t σ H fun c H1 => if c = true then ta σ H1 Q else tb σ H1 Q
theorem zv {c : Expr} (hc : PT X c tA) (ha : PE X a ta) (hb : PE X b tb) : PE X (.IfExp c a b pos) (tIf tA ta tb) := by
  intro pins s σ H Q I h
  refine wpAny_IfExp (thn (hc pins s σ H _ I h) fun d s1 ⟨H1, I1, q1⟩ => ?_)
  cases d with
  | true => exact ha pins s1 σ H1 Q I1 q1
  | false => exact hb pins s1 σ H1 Q I1 q1
end
end L2
namespace L2
open PySem PySem.Spec PyProof.Rows
noncomputable def SqL (K : PySem.W.Frag) (H : Hp) (a : Addr) (xs : List V) : Prop :=
  Rd H a (.lst xs) ∨
    ∃ (o : Obj) (its : Array Value) (n : Nat), K.lookup a = some o ∧ o.cls = .type "list" ∧ o.dict = none ∧ o.data = .seq its n ∧ its.size ≤ sizeLine ∧ Vals xs its.toList
noncomputable def SqT (K : PySem.W.Frag) (H : Hp) (a : Addr) (xs : List V) : Prop :=
  Rd H a (.tup xs) ∨
    ∃ (o : Obj) (its : Array Value) (n : Nat), K.lookup a = some o ∧ o.cls = .type "tuple" ∧ o.data = .seq its n ∧ its.size ≤ sizeLine ∧ Vals xs its.toList
noncomputable def B8 : Value → Option V
  | .none => some .non
  | .bool b => some (.bl b)
  | .int i _ => some (.int i)
  | .str x _ => some (.str x)
  | .bytes b _ => some (.byt b)
  | .float b _ => some (.flt b)
  | .ref a => some (.ref a)
  | .type n => some (.ty n)
  | _ => none
theorem RelV.abs {x : V} {u : Value} (r : RelV x u) : B8 u = some x := by
  cases x with
  | non => cases r; rfl
  | bl _ => cases r; rfl
  | int _ => obtain ⟨t, rfl⟩ := r; rfl
  | str _ => obtain ⟨t, rfl⟩ := r; rfl
  | byt _ => obtain ⟨t, rfl⟩ := r; rfl
  | flt _ => obtain ⟨t, rfl⟩ := r; rfl
  | ref _ => cases r; rfl
  | ty _ => cases r; rfl
theorem RelV.inj {x y : V} {u : Value} (r : RelV x u) (q : RelV y u) : x = y := Option.some.inj (r.abs.symm.trans q.abs)
theorem Vals.inj : ∀ {xs ys : List V} {us : List Value}, Vals xs us → Vals ys us → xs = ys
  | _, _, _, .nil, .nil => rfl
  | _, _, _, .cons r t, .cons r' t' => by rw [r.inj r', Vals.inj t t']
section
variable {X : Cx} {pins : List (Addr × Obj)} {σ : St} {H : Hp} {s : Shared} {a : Addr} {xs ys : List V}
theorem SqL.of {K : PySem.W.Frag} (h : H a = some (.lst xs)) : SqL K H a xs := .inl (.inl h)
theorem SqT.of {K : PySem.W.Frag} (h : H a = some (.tup xs)) : SqT K H a xs := .inl (.inl h)
theorem Inv.list (I : Inv X pins σ H s) (h : SqL X.K H a xs) : ∃ its : List Value, Vals xs its ∧ PlainL s.heap a its.toArray ∧ xs.length ≤ sizeLine := by
  rcases h with h | ⟨o, its, n, hk, hc, hd, hs, hz, r⟩
  · obtain ⟨z, its, n, r, e⟩ := h.ok I.hok
    exact ⟨its, r, ⟨_, n, e, rfl, rfl, rfl⟩, z⟩
  · refine ⟨its.toList, r, ⟨o, n, I.kIn a o hk, hc, hd, by simpa using hs⟩, ?_⟩
    have e := r.length
    simp only [Array.length_toList] at e
    omega
theorem Inv.tuple (I : Inv X pins σ H s) (h : SqT X.K H a xs) : ∃ its : List Value, Vals xs its ∧ IsTup s.heap a its.toArray ∧ xs.length ≤ sizeLine := by
  rcases h with h | ⟨o, its, n, hk, hc, hs, hz, r⟩
  · obtain ⟨z, its, r, p⟩ := h.ok I.hok
    exact ⟨its, r, p, z⟩
  · refine ⟨its.toList, r, ⟨o, I.kIn a o hk, hc, n, by simpa using hs⟩, ?_⟩
    have e := r.length
    simp only [Array.length_toList] at e
    omega
theorem Inv.list_inj (I : Inv X pins σ H s) (h : SqL X.K H a xs) (h' : SqL X.K H a ys) : xs = ys := by
  obtain ⟨its, r, ⟨o, n, e, _, _, d⟩, _⟩ := I.list h
  obtain ⟨its', r', ⟨o', n', e', _, _, d'⟩, _⟩ := I.list h'
  rw [e] at e'; cases e'
  rw [d] at d'
  injection d' with d1 _
  have : its = its' := by simpa using congrArg Array.toList d1
  subst this
  exact r.inj r'
end
noncomputable abbrev Cx.wish (X : Cx) (E : Value → Shared → Prop) : Cx := { X with xe := E }
noncomputable abbrev Cx.nox (X : Cx) : Cx := X.wish fun _ _ => False
theorem Cx.Ok.wish {X : Cx} (ok : X.Ok) (E : Value → Shared → Prop) : (X.wish E).Ok :=
  ⟨ok.mod, ok.kind, ok.glob, ok.blt, ok.above, ok.inj, ok.has, ok.cab, ok.hd, ok.frames, ok.stk, ok.exf, ok.bs, ok.bsz, ok.noex, ok.exfs, ok.funs, ok.frf⟩
theorem Cx.Ok.unwish {X : Cx} {E : Value → Shared → Prop} (ok : (X.wish E).Ok) : X.Ok :=
  ⟨ok.mod, ok.kind, ok.glob, ok.blt, ok.above, ok.inj, ok.has, ok.cab, ok.hd, ok.frames, ok.stk, ok.exf, ok.bs, ok.bsz, ok.noex, ok.exfs, ok.funs, ok.frf⟩
section
variable {X : Cx} {pins : List (Addr × Obj)} {σ : St} {H : Hp} {s : Shared} {E : Value → Shared → Prop}
theorem Inv.wish (I : Inv X pins σ H s) (E : Value → Shared → Prop) : Inv (X.wish E) pins σ H s := ⟨I.ok.wish E, I.os, I.bare, I.base, I.loc, I.cell, I.free, I.freeC, I.pin, I.hok, I.len⟩
theorem Inv.unwish (I : Inv (X.wish E) pins σ H s) : Inv X pins σ H s := ⟨I.ok.unwish, I.os, I.bare, I.base, I.loc, I.cell, I.free, I.freeC, I.pin, I.hok, I.len⟩
theorem SP.unwish {D : Ends} {f : Flow} {s' : Shared} (h : SP (X.wish E) pins D f s') : SP X pins D f s' := by
  cases f with
  | next => obtain ⟨σ', H', I, q⟩ := h; exact ⟨σ', H', I.unwish, q⟩
  | brk => obtain ⟨σ', H', I, q⟩ := h; exact ⟨σ', H', I.unwish, q⟩
  | cont => obtain ⟨σ', H', I, q⟩ := h; exact ⟨σ', H', I.unwish, q⟩
  | ret u => obtain ⟨v, σ', H', I, r, q⟩ := h; exact ⟨v, σ', H', I.unwish, r, q⟩
theorem PSs.nox {st : List Stmt} {t : TS} (h : PSs X.nox st t) : PSs X st t := fun pins s σ H D I hw =>
  wpAny_mono (h pins s σ H D (I.wish _) hw) (fun _ _ q => q.unwish) fun _ _ z => False.elim z
end
section
variable {X : Cx} {st : Stmt} {rest : List Stmt} {t u : TS} {e : Expr} {te : TE} {pos : Pos}
noncomputable def vF : TS := fun D σ H => D.nx σ H
noncomputable def uv (t u : TS) : TS := fun D σ H => t { D with nx := u D } σ H
theorem zy : PSs X [] vF := fun _ _ σ H _ I h => wpAny_execs_nil ⟨σ, H, I, h⟩
theorem BZ (h1 : PS X st t) (h2 : PSs X rest u) : PSs X (st :: rest) (uv t u) := by
  intro pins s σ H D I h
  refine wpAny_execs_cons (thn (h1 pins s σ H { D with nx := u D } I h) fun f s1 q => ?_)
  cases f with
  | next =>
    obtain ⟨σ', H', I', q⟩ := q
    exact h2 pins s1 σ' H' D I' q
  | ret v => exact q
  | brk => exact q
  | cont => exact q
theorem vS (h1 : PS X st t) : PSs X [st] t := by
  intro pins s σ H D I h
  refine wpAny_execs_cons (thn (h1 pins s σ H D I h) fun f s1 q => ?_)
  cases f with
  | next => exact wpAny_execs_nil q
  | ret v => exact q
  | brk => exact q
  | cont => exact q
theorem Inv.quiet {pins : List (Addr × Obj)} {σ : St} {H : Hp} {s : Shared} (I : Inv X pins σ H s) : interactive X.env = false := by simp [interactive, I.ok.kind]
noncomputable def pZ (te : TE) : TS := fun D σ H => te σ H fun _ H1 => D.nx σ H1
theorem me (he : PE X e te) (hs : swapsWith e none pos.line X.env = pure false := by rfl) : PS X (.Expr e pos) (pZ te) := by
  intro pins s σ H D I h
  exact wpAny_Expr_any (thn (he pins s σ H _ I h) fun v s1 ⟨x, H1, I1, r1, q1⟩ => ⟨σ, H1, I1, q1⟩) I.quiet hs
noncomputable def rq (te : TE) : TS := fun D σ H => te σ H D.rt
theorem xA (he : PE X e te) : PS X (.Return (some e) pos) (rq te) := by
  intro pins s σ H D I h
  exact wpAny_Return_some (thn (he pins s σ H _ I h) fun v s1 ⟨x, H1, I1, r1, q1⟩ => ⟨x, σ, H1, I1, r1, q1⟩)
noncomputable def tH (c : TT) (t u : TS) : TS := fun D σ H => c σ H fun b H1 => if b = true then t D σ H1 else u D σ H1
theorem vX {c : Expr} {a b : List Stmt} {tc : TT} (hc : PT X c tc) (ha : PSs X a t) (hb : PSs X b u) : PS X (.If c a b pos) (tH tc t u) := by
  intro pins s σ H D I h
  refine wpAny_If (thn (hc pins s σ H _ I h) fun d s1 ⟨H1, I1, q1⟩ => ?_)
  cases d with
  | true => exact ha pins s1 σ H1 D I1 q1
  | false => exact hb pins s1 σ H1 D I1 q1
end
noncomputable abbrev TG := V → St → Hp → (St → Hp → Prop) → Prop
noncomputable abbrev TGs := List V → St → Hp → (St → Hp → Prop) → Prop
noncomputable def PG (X : Cx) (target : Expr) (t : TG) : Prop :=
  ∀ (pins : List (Addr × Obj)) (s : Shared) (σ : St) (H : Hp) (v : V) (u : Value) (Q : St → Hp → Prop), Inv X pins σ H s → RelV v u → t v σ H Q →
    wpAny (model X.prog X.w) X.A (assign target X.env u) (fun _ s' => ∃ σ' H', Inv X pins σ' H' s' ∧ Q σ' H') X.xe s
noncomputable def PGs (X : Cx) (ts : List Expr) (t : TGs) : Prop :=
  ∀ (pins : List (Addr × Obj)) (s : Shared) (σ : St) (H : Hp) (vs : List V) (us : List Value) (Q : St → Hp → Prop), Inv X pins σ H s → Vals vs us → t vs σ H Q →
    wpAny (model X.prog X.w) X.A (assignInOrder ((assignEach ts X.env).map (·.2)) us) (fun _ s' => ∃ σ' H', Inv X pins σ' H' s' ∧ Q σ' H') X.xe s
noncomputable abbrev wK := V → V → V → Hp → (Hp → Prop) → Prop
section
variable {X : Cx} {pos : Pos}
noncomputable def iq (i : Nat) : TG := fun v σ H Q => Q (σ.set i (some v)) H
theorem jZ {i : Nat} {x : Str} (hN : X.N.Nodup) (hi : X.N[i]? = some x) (hx : Loc X.env.scope x) (hf : X.fn x = true ∨ X.env.scope.names.lookup x = some .local := by first | exact .inl rfl | exact .inr rfl | assumption) : PG X (.Name x pos) (iq i) := by
  intro pins s σ H v u Q I r h
  exact wpAny_assign_Name (n6 I hN hi hx r (fun s' I' => ⟨_, H, I', h⟩) hf)
noncomputable def tJ : TGs := fun vs σ H Q => vs = [] ∧ Q σ H
noncomputable def sI (t : TG) (u : TGs) : TGs := fun vs σ H Q => ∃ v r, vs = v :: r ∧ t v σ H fun σ' H' => u r σ' H' Q
theorem tj : PGs X [] tJ := by
  intro pins s σ H vs us Q I r h
  obtain ⟨e, h⟩ := h
  subst e
  cases r
  exact assignInOrder_nil ⟨σ, H, I, h⟩
theorem kS {e : Expr} {es : List Expr} {t : TG} {u : TGs} (h1 : PG X e t) (h2 : PGs X es u)
    (hs : (assignEach (e :: es) X.env).map (·.2) = assign e X.env :: (assignEach es X.env).map (·.2) := by rfl) : PGs X (e :: es) (sI t u) := by
  intro pins s σ H vs us Q I r h
  obtain ⟨v, vr, e1, h⟩ := h
  subst e1
  cases r with
  | cons r rr =>
    rw [hs]
    refine assignInOrder_cons (thn (h1 pins s σ H _ _ _ I r h) fun _ s1 ⟨σ1, H1, I1, q1⟩ => ?_)
    exact h2 pins s1 σ1 H1 _ _ Q I1 rr q1
noncomputable def rf (K : PySem.W.Frag) (n : Nat) (t : TGs) : TG := fun v σ H Q => ∃ a xs, v = .ref a ∧ SqT K H a xs ∧ xs.length = n ∧ t xs σ H Q
theorem rG {es : List Expr} {k : Nat} {t : TGs} {n : Nat} (hc : X.calm = true) (h : PGs X es t)
    (hn : (assignEach es X.env).length = n := by rfl) (hst : (assignEach es X.env).findIdx? (·.1) = none := by rfl) : PG X (.Tuple es k pos) (rf X.K n t) := by
  intro pins s σ H v u Q I r hw
  obtain ⟨a, xs, e1, hq, hl, hw⟩ := hw
  subst e1
  cases r
  obtain ⟨its, rv, ht, hz⟩ := I.tuple hq
  refine assign_Tuple_tuple (I.ok.hd hc) ht (by simp [hn, ← hl, rv.length]) hst fun h' hx => ?_
  have I1 : Inv X pins σ H { s with heap := h' } := I.kept (t' := s.toks) fun b o e => hx b o (Nat.ne_of_lt (Heap.lt_size e)) e
  exact h pins _ σ H xs _ Q I1 (by simpa using rv) hw
noncomputable def cu (to ti : TE) (t : wK) : TG := fun v σ H Q => to σ H fun o H1 => ti σ H1 fun i H2 => t o i v H2 fun H3 => Q σ H3
noncomputable def kO (te : TE) (g : TG) : TS := fun D σ H => te σ H fun x H1 => g x σ H1 D.nx
theorem qJ {i : Nat} {x : Str} {e : Expr} {te : TE} {pos' : Pos} (hN : X.N.Nodup) (hi : X.N[i]? = some x) (hx : Loc X.env.scope x) (he : PE X e te) (hs : swapsWith e (some (.Name x pos')) pos.line X.env = pure false := by rfl) (hf : X.fn x = true ∨ X.env.scope.names.lookup x = some .local := by first | exact .inl rfl | exact .inr rfl | assumption) :
    PS X (.Assign [.Name x pos'] e pos) (kO te (iq i)) := by
  intro pins s σ H D I h
  refine wpAny_Assign_Name (thn (he pins s σ H _ I h) fun v s1 ⟨y, H1, I1, r1, q1⟩ => ?_) hs
  exact n6 I1 hN hi hx r1 (fun s2 I2 => ⟨_, H1, I2, q1⟩) hf
end
section
variable {X : Cx} {pos : Pos}
noncomputable def vJ (c : TT) (tb : TS) : TS := fun D σ H => ∃ W : Nat → St → Hp → Prop, (∃ m, W m σ H) ∧ ∀ m σ H, W m σ H →
  c σ H fun b H1 => if b = true then ∃ N : St → Hp → Prop, (∀ σ' H', N σ' H' → ∃ m', m' < m ∧ W m' σ' H') ∧ tb { D with nx := N, ct := N, bk := D.nx } σ H1 else D.nx σ H1
theorem yt {c : Expr} {body : List Stmt} {tc : TT} {tb : TS} (hp : PassesOwn (model X.prog X.w) X.A X.env X.xe) (hc : PT X c tc) (hb : PSs X body tb) : PS X (.While c body [] pos) (vJ tc tb) := by
  intro pins s σ H D I h
  obtain ⟨W, ⟨m0, w0⟩, turn⟩ := h
  refine wpAny_While (codeAny_whileLoop (fun n s' => ∃ σ' H', Inv X pins σ' H' s' ∧ W n σ' H') ?_ m0 ⟨σ, H, I, w0⟩)
  rintro n s1 ⟨σ1, H1, I1, w1⟩
  refine wpAny_passesOwn hp (thn (hc pins s1 σ1 H1 _ I1 (turn n σ1 H1 w1)) fun b s2 ⟨H2, I2, q2⟩ => ?_)
  cases b with
  | true =>
    obtain ⟨N, hN, q2⟩ := q2
    rw [if_pos rfl]
    refine wpAny_passesOwn hp (thn (hb pins s2 σ1 H2 _ I2 q2) fun f s3 q3 => ?_)
    cases f with
    | next =>
      obtain ⟨σ3, H3, I3, n3⟩ := q3
      obtain ⟨m', hm, w3⟩ := hN σ3 H3 n3
      exact ⟨m', hm, σ3, H3, I3, w3⟩
    | cont =>
      obtain ⟨σ3, H3, I3, n3⟩ := q3
      obtain ⟨m', hm, w3⟩ := hN σ3 H3 n3
      exact ⟨m', hm, σ3, H3, I3, w3⟩
    | brk => exact q3
    | ret v => exact q3
  | false =>
    rw [if_neg Bool.false_ne_true]
    exact wpAny_execs_nil ⟨σ1, H2, I2, q2⟩
end
structure It where
  go : Nat → Hp → Prop
  yld : Nat → Hp → V → Hp → Prop
  stop : Nat → Hp → Prop
noncomputable def dq (X : Cx) (pins : List (Addr × Obj)) (H : Hp) (b : Addr) : Prop :=
  H b = none ∧ b ≠ X.env.locals ∧ b ∉ X.fs ∧ (b ∈ X.ex ∨ X.s₀.heap.objs.size ≤ b) ∧ (∀ x c, X.env.cells.lookup x = some c → c ≠ b) ∧ ∀ p ∈ X.pn ++ pins, p.1 ≠ b
theorem Inv.fpOk {X : Cx} {pins : List (Addr × Obj)} {σ : St} {H H' : Hp} {s : Shared} {b : Addr} (I : Inv X pins σ H s) (hb : s.heap.objs.size ≤ b) (hn : H' b = none) : dq X pins H' b := by
  refine ⟨hn, Nat.ne_of_gt (Nat.lt_of_lt_of_le I.lt hb), I.nofs hb, .inr (Nat.le_trans I.sz hb), fun x c e z => ?_, fun p hp z => ?_⟩
  · obtain ⟨v, q⟩ := I.cell x c e
    exact absurd (Nat.lt_of_lt_of_le q.lt (by rw [z]; exact hb)) (Nat.lt_irrefl _)
  · exact absurd (Nat.lt_of_lt_of_le (Heap.lt_size (I.pin p hp).1) (by rw [z]; exact hb)) (Nat.lt_irrefl _)
structure Turn (P : Program) (w : World) (K : PySem.W.Frag) (tg : Expr) (J : It) (fp : List Addr) (it : Addr) (tn : Nat → Heap → Prop) : Prop where
  mem : it ∈ fp
  obj : ∀ i h, tn i h → ∀ b ∈ fp, ∃ o, h.get? b = some o ∧ ∀ v, o.data ≠ .cell v
  keep : ∀ i h h', tn i h → (∀ b ∈ fp, ∀ o, h.get? b = some o → h'.get? b = some o) → tn i h'
  item : ∀ (X : Cx), X.prog = P → X.w = w → X.K = K → X.calm = true → ∀ (i : Nat) (pins : List (Addr × Obj)) (s : Shared) (σ : St) (H : Hp) (E : Value → Shared → Prop), Inv X pins σ H s → (∀ b ∈ fp, dq X pins H b) → tn i s.heap → J.go i H →
    wpAny (model P w) X.A (pyNext (.ref it)) (fun r s1 => ∃ u, r = some u ∧
      wpAny (model P w) X.A (letOwnedTupleGo tg (.ref it) u) (fun _ s2 => ∃ x H', Inv X pins σ H' s2 ∧ RelV x u ∧ J.yld i H x H' ∧ tn (i + 1) s2.heap ∧ ∀ b ∈ fp, H' b = none) E s1) E s
  done : ∀ (X : Cx), X.prog = P → X.w = w → X.K = K → X.calm = true → ∀ (i : Nat) (pins : List (Addr × Obj)) (s : Shared) (σ : St) (H : Hp) (E : Value → Shared → Prop), Inv X pins σ H s → (∀ b ∈ fp, dq X pins H b) → tn i s.heap → J.stop i H →
    wpAny (model P w) X.A (pyNext (.ref it)) (fun r s1 => r = none ∧ Inv X pins σ H s1) E s
  self : ∀ (A : Around) (i : Nat) (s : Shared) (Q : Value → Shared → Prop) (E : Value → Shared → Prop), tn i s.heap → Q (.ref it) s → wpAny (model P w) A (pyIter (.ref it)) Q E s
noncomputable abbrev TI := St → Hp → (It → Hp → Prop) → Prop
noncomputable def PIE (X : Cx) (pins : List (Addr × Obj)) (σ : St) (tg : Expr) (R : It → Hp → Prop) (itv : Value) (s2 : Shared) : Prop :=
  ∃ (it : Addr) (fp : List Addr) (tn : Nat → Heap → Prop) (J : It) (H' : Hp), itv = .ref it ∧ Inv X pins σ H' s2 ∧ Turn X.prog X.w X.K tg J fp it tn ∧ tn 0 s2.heap ∧ (∀ b ∈ fp, dq X pins H' b) ∧ R J H'
noncomputable def PI (X : Cx) (tg iter : Expr) (wi : TI) : Prop :=
  ∀ (pins : List (Addr × Obj)) (s : Shared) (σ : St) (H : Hp) (R : It → Hp → Prop), Inv X pins σ H s → wi σ H R →
    wpAny (model X.prog X.w) X.A (eval iter X.env) (fun v s1 => wpAny (model X.prog X.w) X.A (pyIter v) (PIE X pins σ tg R) X.xe s1) X.xe s
theorem kT {M : Model} {A : Around} {E : Value → Shared → Prop} {s : Shared} {tg : Expr} {it : Addr} {u : Value} {o : Obj} {n : String} {vs : Array Value} {Q : Unit → Shared → Prop} (ho : s.heap.get? it = some o) (hc : o.cls = .type n) (hd : o.data = .fields vs)
    (hn : ["enumerate", "zip", "dict_itemiterator", "dict_reverseitemiterator", "odict_iterator", "itertools.zip_longest", "itertools.pairwise"].contains n = false) (hQ : Q () s) : wpAny M A (letOwnedTupleGo tg (.ref it) u) Q E s := by
  unfold letOwnedTupleGo
  cases tg <;> first
    | exact wpAny_pure hQ
    | (cases u <;> first
        | exact wpAny_pure hQ
        | (refine wpAny_bind (wpAny_load ho ?_)
           rw [hc, hd]
           show wpAny M A (if (["enumerate", "zip", "dict_itemiterator", "dict_reverseitemiterator", "odict_iterator", "itertools.zip_longest", "itertools.pairwise"].contains n && vs[0]? == some (rawInt _)) = true then _ else _) Q E s
           rw [if_neg (by intro h; rw [hn, Bool.false_and] at h; cases h)]
           exact wpAny_pure hQ))
noncomputable def Itl (K : PySem.W.Frag) (a : Addr) : It :=
  ⟨fun i H => ∃ xs x, SqL K H a xs ∧ xs[i]? = some x, fun i H x H' => H' = H ∧ ∀ xs, SqL K H a xs → xs[i]? = some x, fun i H => ∃ xs, SqL K H a xs ∧ xs.length ≤ i⟩
noncomputable def Itr (lo : Int) (n : Nat) : It := ⟨fun i _ => i < n, fun i H x H' => H' = H ∧ x = .int (lo + i), fun i _ => n ≤ i⟩
theorem AQ {P : Program} {w : World} {K : PySem.W.Frag} {tg : Expr} (a it : Addr) : Turn P w K tg (Itl K a) [it] it (fun i h => h.IsListIter it a i) where
  mem := by simp
  obj := fun i h st b hb => by
    have e : b = it := by simpa using hb
    subst e
    obtain ⟨o, e, c, d⟩ := st
    exact ⟨o, e, fun v z => by rw [d] at z; cases z⟩
  keep := fun i h h' st k => st.at fun o e => k it (by simp) o e
  item := by
    intro X hP hw hK hc i pins s σ H E I hf st hg
    subst hP hw hK
    obtain ⟨xs, x, hq, hx⟩ := hg
    obtain ⟨its, rv, p, hz⟩ := I.list hq
    obtain ⟨u, hu, ru⟩ := rv.get hx
    obtain ⟨f0, f1, f2, f3, f4, f5⟩ := hf it (by simp)
    refine wpAny_pyNext_list_item st p.isList (x := u) (by simpa using hu) fun h' st' sb => ?_
    have I1 : Inv X pins σ H { s with heap := h' } := I.turned (t' := s.toks) (fun b o hb e => (sb.2 b hb).trans e) f0 f1 f3 f4 f5
    obtain ⟨o, e, c, d⟩ := id st'
    exact ⟨u, rfl, kT (s := { s with heap := h' }) e c d (by decide) ⟨x, H, I1, ru, ⟨rfl, fun ys hy => by rw [I.list_inj hy hq]; exact hx⟩, st', fun b hb => (hf b hb).1⟩⟩
  done := by
    intro X hP hw hK hc i pins s σ H E I hf st hg
    subst hP hw hK
    obtain ⟨xs, hq, hx⟩ := hg
    obtain ⟨its, rv, p, hz⟩ := I.list hq
    obtain ⟨f0, f1, f2, f3, f4, f5⟩ := hf it (by simp)
    have hl := rv.length
    exact wpAny_pyNext_list_end (I.ok.hd hc) st p.isList (by simp; omega) fun h' eb => ⟨rfl, I.turned (t' := s.toks) (fun b o hb e => eb b o hb e) f0 f1 f3 f4 f5⟩
  self := fun _ _ _ _ _ st h => wpAny_pyIter_listiter st h
theorem BV {P : Program} {w : World} {K : PySem.W.Frag} {tg : Expr} (it : Addr) (lo : Int) (n : Nat) : Turn P w K tg (Itr lo n) [it] it (fun i h => IsRangeIter h it (lo + (i : Nat) * 1) ((n : Int) - (i : Nat)) 1) where
  mem := by simp
  obj := fun i h st b hb => by
    have e : b = it := by simpa using hb
    subst e
    exact ⟨_, st, fun v z => by
      have z' : Data.fields _ = Data.cell v := z
      cases z'⟩
  keep := fun i h h' st k => k it (by simp) _ st
  item := by
    intro X hP hw hK hc i pins s σ H E I hf st hg
    subst hP hw hK
    obtain ⟨f0, f1, f2, f3, f4, f5⟩ := hf it (by simp)
    have W := Walks.range (prog := X.prog) (w := X.w) (I.ok.hd hc) it lo 1 n
    refine W.item i s _ _ hg st fun v h' tk hv st' kk => ?_
    obtain ⟨t, rfl⟩ := hv
    have I1 : Inv X pins σ H { s with heap := h', toks := tk } := I.turned (fun b o hb e => kk b o (by simpa using hb) e) f0 f1 f3 f4 f5
    refine ⟨_, rfl, kT (s := { s with heap := h', toks := tk }) (n := "range_iterator") st' rfl rfl (by decide) ⟨.int (lo + i), H, I1, ⟨t, ?_⟩, ⟨rfl, rfl⟩, st', fun b hb => (hf b hb).1⟩⟩
    rw [Int.mul_one]
  done := by
    intro X hP hw hK hc i pins s σ H E I hf st hg
    subst hP hw hK
    obtain ⟨f0, f1, f2, f3, f4, f5⟩ := hf it (by simp)
    exact wpAny_pyNext_range_end (I.ok.hd hc) st (by have : n ≤ i := hg; omega) fun h' eb => ⟨rfl, I.turned (t' := s.toks) (fun b o hb e => eb b o hb e) f0 f1 f3 f4 f5⟩
  self := fun _ _ _ _ _ st h => wpAny_pyIter_rangeiter st h
end L2
namespace L2
open PySem PySem.Spec PyProof.Rows
section
variable {X : Cx} {tg : Expr}
noncomputable def tM (K : PySem.W.Frag) (tl : TE) : TI := fun σ H R => tl σ H fun x H1 => ∃ a, x = .ref a ∧ (∃ xs, SqL K H1 a xs) ∧ R (Itl K a) H1
theorem zb {l : Expr} {tl : TE} (hl : PE X l tl) : PI X tg l (tM X.K tl) := by
  intro pins s σ H R I h
  refine thn (hl pins s σ H _ I h) fun v s1 ⟨x, H1, I1, r1, q1⟩ => ?_
  obtain ⟨a, e, ⟨xs, hq⟩, q⟩ := q1
  subst e
  cases r1
  obtain ⟨its, rv, p, hz⟩ := I1.list hq
  refine wpAny_pyIter_list p.isList ?_
  refine ⟨s1.heap.objs.size, [s1.heap.objs.size], _, _, H1, rfl, I1.kept (t' := s1.toks) fun b o e => Heap.get?_push_of_some _ e, AQ a _, ⟨_, Heap.get?_push_size _ rfl, rfl, rfl⟩, fun b hb => ?_, q⟩
  have e : b = s1.heap.objs.size := by simpa using hb
  subst e
  exact I1.fpOk (Nat.le_refl _) (I1.hok.fresh (Nat.le_refl _))
theorem C9 {pins : List (Addr × Obj)} {σ : St} {H : Hp} {s : Shared} {R : It → Hp → Prop} {E : Value → Shared → Prop} {lo hi : Int} {t u v : Tok} {tk : Nat} (I : Inv X pins σ H s) (h1 : -(2 ^ 62) ≤ lo) (h2 : lo < 2 ^ 62) (h3 : -(2 ^ 62) ≤ hi) (h4 : hi < 2 ^ 62)
    (q : R (Itr lo (hi - lo).toNat) H) : wpAny (model X.prog X.w) X.A (pyIter (.ref s.heap.objs.size)) (PIE X pins σ tg R) E { s with heap := s.heap.push { cls := .type "range", data := .fields #[.int lo t, .int hi u, .int 1 v] }, toks := tk } := by
  refine wpAny_pyIter_range (IsRange.new ..) (small_one h1 h2 h3 h4) ?_
  have I1 : Inv X pins σ H { s with heap := s.heap.push { cls := .type "range", data := .fields #[.int lo t, .int hi u, .int 1 v] }, toks := tk } := I.kept fun b o e => Heap.get?_push_of_some _ e
  refine ⟨(s.heap.push { cls := .type "range", data := .fields #[.int lo t, .int hi u, .int 1 v] }).objs.size, [(s.heap.push { cls := .type "range", data := .fields #[.int lo t, .int hi u, .int 1 v] }).objs.size], _, _, H, rfl,
    I1.kept (t' := tk) fun b o e => Heap.get?_push_of_some _ e, BV _ lo (hi - lo).toNat, ?_, fun b hb => ?_, q⟩
  · have e1 : lo + ((0 : Nat) : Int) * 1 = lo := by simp
    have e2 : (((hi - lo).toNat : Nat) : Int) - ((0 : Nat) : Int) = Builtin.Range.rangeSize lo hi 1 := by rw [rangeSize_one]; split <;> omega
    show IsRangeIter _ _ (lo + ((0 : Nat) : Int) * 1) ((((hi - lo).toNat : Nat) : Int) - ((0 : Nat) : Int)) 1
    rw [e1, e2]
    exact Heap.get?_push_size _ rfl
  · have e : b = (s.heap.push { cls := .type "range", data := .fields #[.int lo t, .int hi u, .int 1 v] }).objs.size := by simpa using hb
    subst e
    exact I1.fpOk (Nat.le_refl _) (I1.hok.fresh (Nat.le_refl _))
noncomputable def qA (ta : TA) : TI := fun σ H R => ta σ H fun vs H1 => ∃ j : Int, vs = [.int j] ∧ -(2 ^ 62) ≤ j ∧ j < 2 ^ 62 ∧ R (Itr 0 j.toNat) H1
theorem vT {a : Expr} {ta : TA} {p pos : Pos} (hg : Gl X "range") (hm : X.mg "range" = none) (ha : PA X [a] ta) (hs : starEach [a] X.env = [(false, eval a X.env)] := by rfl) : PI X tg (.Call (.Name "range" p) [a] [] pos) (qA ta) := by
  intro pins s σ H R I h
  refine Call_ (gy I hg hm boot_range (PyProof.Rows.callWith_type1 (thn (ha pos pins s σ H _ I h) fun us s1 ⟨vs, H1, I1, r1, q1⟩ => ?_) hs rfl))
  obtain ⟨j, e, q1, q2, q⟩ := q1
  subst e
  cases r1 with
  | cons r rr =>
    cases rr
    obtain ⟨t, rfl⟩ := r
    exact call_range_1 (C9 I1 (by omega) (by omega) q1 q2 (by simpa using q))
noncomputable def uK (wi : TI) (g : TG) (tb : TS) : TS := fun D σ H => wi σ H fun J H1 => ∃ W : Nat → Nat → St → Hp → Prop, (∃ m, W 0 m σ H1) ∧ ∀ i m σ H, W i m σ H →
  (J.stop i H ∧ D.nx σ H) ∨ (J.go i H ∧ ∃ N : St → Hp → Prop, (∀ σ' H', N σ' H' → ∃ m', m' < m ∧ W (i + 1) m' σ' H') ∧ ∀ x H', J.yld i H x H' → g x σ H' fun σ2 H2 => tb { D with nx := N, ct := N, bk := D.nx } σ2 H2)
noncomputable def lU (fp : List Addr) (h : Heap) : List (Addr × Obj) := fp.filterMap fun b => (h.get? b).map fun o => (b, o)
theorem mP {fp : List Addr} {h : Heap} {b : Addr} {o : Obj} (hb : b ∈ fp) (e : h.get? b = some o) : (b, o) ∈ lU fp h := List.mem_filterMap.mpr ⟨b, hb, by rw [e]; rfl⟩
theorem zi {fp : List Addr} {h : Heap} {p : Addr × Obj} (hp : p ∈ lU fp h) : p.1 ∈ fp ∧ h.get? p.1 = some p.2 := by
  obtain ⟨b, hb, e⟩ := List.mem_filterMap.mp hp
  cases q : h.get? b with
  | none => rw [q] at e; cases e
  | some o =>
    rw [q] at e
    have e' : (b, o) = p := Option.some.inj e
    subst e'
    exact ⟨hb, q⟩
theorem Inv.pinned {pins : List (Addr × Obj)} {σ : St} {H : Hp} {s : Shared} {fp : List Addr} (I : Inv X pins σ H s) (hf : ∀ b ∈ fp, dq X pins H b) (ho : ∀ b ∈ fp, ∃ o, s.heap.get? b = some o ∧ ∀ v, o.data ≠ .cell v) : Inv X (pins ++ lU fp s.heap) σ H s :=
  I.pins_of fun p hp => (List.mem_append.mp hp).elim (fun z => I.pin p (List.mem_append_right _ z)) fun z => by
    obtain ⟨hb, e⟩ := zi z
    obtain ⟨f0, f1, f2, _⟩ := hf p.1 hb
    obtain ⟨o, e', d⟩ := ho p.1 hb
    rw [e] at e'; cases e'
    exact ⟨e, f0, f1, f2, d⟩
theorem Inv.unpinned {pins pl : List (Addr × Obj)} {σ : St} {H : Hp} {s : Shared} (I : Inv X (pins ++ pl) σ H s) : Inv X pins σ H s := I.pins_of fun p hp => I.pin p (List.mem_append_right _ (List.mem_append_left _ hp))
theorem Cc {iter : Expr} {body : List Stmt} {wi : TI} {g : TG} {tb : TS} {pos : Pos} (hp : PassesOwn (model X.prog X.w) X.A X.env X.xe) (hc : X.calm = true) (hi : PI X tg iter wi) (hg : PG X tg g) (hb : PSs X body tb)
    (hs : ∀ x, foldedSetIterable iter X.env x = pure x := by intro _; rfl) : PS X (.For tg iter body [] pos) (uK wi g tb) := by
  intro pins s σ H D I h
  refine wpAny_For (thn (hi pins s σ H _ I h) fun v s1 h1 => thn h1 fun itv s2 h2 => ?_) hs
  obtain ⟨it, fp, tn, J, H2, e, I2, T, st2, f2, W, ⟨m0, w0⟩, turn⟩ := h2
  subst e
  have stat : ∀ {H' : Hp}, (∀ b ∈ fp, H' b = none) → ∀ b ∈ fp, dq X pins H' b := fun hn b hb => ⟨hn b hb, (f2 b hb).2⟩
  refine codeAny_forLoop_any (fun n s' => ∃ i σ' H', Inv X pins σ' H' s' ∧ tn i s'.heap ∧ (∀ b ∈ fp, H' b = none) ∧ W i n σ' H') ?_ m0 ⟨0, σ, H2, I2, st2, fun b hb => (f2 b hb).1, w0⟩
  rintro n s3 ⟨i, σ3, H3, I3, st3, fr3, w3⟩
  rcases turn i n σ3 H3 w3 with ⟨stop, qn⟩ | ⟨go, N, hN, step⟩
  · refine wpAny_passesOwn hp (thn (T.done X rfl rfl rfl hc i pins s3 σ3 H3 X.xe I3 (stat fr3) st3 stop) fun r s4 ⟨hr, I4⟩ => ?_)
    subst hr
    exact wpAny_execs_nil ⟨σ3, H3, I4, qn⟩
  · refine wpAny_passesOwn hp (thn (T.item X rfl rfl rfl hc i pins s3 σ3 H3 X.xe I3 (stat fr3) st3 go) fun r s4 ⟨u, hr, h4⟩ => ?_)
    subst hr
    refine wpAny_passesOwn hp (thn h4 fun _ s5 ⟨x, H5, I5, r5, y5, st5, fr5⟩ => ?_)
    have I5' := I5.pinned (stat fr5) (T.obj _ _ st5)
    refine wpAny_passesOwn hp (thn (hg _ s5 σ3 H5 x u _ I5' r5 (step x H5 y5)) fun _ s6 ⟨σ6, H6, I6, q6⟩ => ?_)
    refine wpAny_passesOwn hp (thn (hb _ s6 σ6 H6 _ I6 q6) fun f s7 q7 => ?_)
    have again : ∀ {σ7 : St} {H7 : Hp}, Inv X (pins ++ lU fp s5.heap) σ7 H7 s7 → N σ7 H7 → ∃ m, m < n ∧ ∃ i σ' H', Inv X pins σ' H' s7 ∧ tn i s7.heap ∧ (∀ b ∈ fp, H' b = none) ∧ W i m σ' H' := fun {σ7 H7} I7 n7 => by
      obtain ⟨m', hm, w7⟩ := hN σ7 H7 n7
      refine ⟨m', hm, i + 1, σ7, H7, I7.unpinned, T.keep _ _ _ st5 fun b hb o e => (I7.pin (b, o) (List.mem_append_right _ (List.mem_append_right _ (mP hb e)))).1, fun b hb => ?_, w7⟩
      obtain ⟨o, e, d⟩ := T.obj _ _ st5 b hb
      exact (I7.pin (b, o) (List.mem_append_right _ (List.mem_append_right _ (mP hb e)))).2.1
    cases f with
    | next => obtain ⟨σ7, H7, I7, n7⟩ := q7; exact again I7 n7
    | cont => obtain ⟨σ7, H7, I7, n7⟩ := q7; exact again I7 n7
    | brk => obtain ⟨σ7, H7, I7, q7⟩ := q7; exact ⟨σ7, H7, I7.unpinned, q7⟩
    | ret v => obtain ⟨x7, σ7, H7, I7, r7, q7⟩ := q7; exact ⟨x7, σ7, H7, I7.unpinned, r7, q7⟩
end
end L2
namespace L2
open PySem PySem.Spec PyProof.Rows
noncomputable abbrev R2 := V → V → Hp → VK → Prop
noncomputable def OpR (X : Cx) (f : Value → Value → Sem Value) (r : R2) : Prop :=
  ∀ (pins : List (Addr × Obj)) (s : Shared) (σ : St) (H : Hp) (x y : V) (v u : Value) (Q : VK), Inv X pins σ H s → RelV x v → RelV y u → r x y H Q →
    wpAny (model X.prog X.w) X.A (f v u) (EP X pins σ Q) X.xe s
noncomputable def UnR (X : Cx) (f : Value → Sem Value) (r : V → Hp → VK → Prop) : Prop :=
  ∀ (pins : List (Addr × Obj)) (s : Shared) (σ : St) (H : Hp) (x : V) (v : Value) (Q : VK), Inv X pins σ H s → RelV x v → r x H Q →
    wpAny (model X.prog X.w) X.A (f v) (EP X pins σ Q) X.xe s
noncomputable def eA (X : Cx) (f : Value) (r : List V → Hp → VK → Prop) : Prop :=
  ∀ (pins : List (Addr × Obj)) (s : Shared) (σ : St) (H : Hp) (xs : List V) (us : List Value) (Q : VK), Inv X pins σ H s → Vals xs us → r xs H Q →
    wpAny (model X.prog X.w) X.A (call f us) (EP X pins σ Q) X.xe s
noncomputable def tOp (r : R2) (ta tb : TE) : TE := fun σ H Q => ta σ H fun x H1 => tb σ H1 fun y H2 => r x y H2 Q
noncomputable def tUn (r : V → Hp → VK → Prop) (ta : TE) : TE := fun σ H Q => ta σ H fun x H1 => r x H1 Q
noncomputable def rI (C : Int → Int → Prop) (g : Int → Int → V) : R2 := fun x y H Q => ∃ i j, x = .int i ∧ y = .int j ∧ C i j ∧ Q (g i j) H
noncomputable def rI0 (g : Int → Int → V) : R2 := fun x y H Q => ∃ i j, x = .int i ∧ y = .int j ∧ Q (g i j) H
noncomputable def rU (g : Int → V) : V → Hp → VK → Prop := fun x H Q => ∃ i, x = .int i ∧ Q (g i) H
section
variable {X : Cx} {a b c : Expr} {ta tb tc : TE} {pos : Pos}
theorem n9 (ha : PE X a ta) (hb : PE X b tb) {pins : List (Addr × Obj)} {s : Shared} {σ : St} {H : Hp} {R : V → V → Hp → Prop} (I : Inv X pins σ H s)
    (h : ta σ H fun x H1 => tb σ H1 fun y H2 => R x y H2) {Q : Value → Shared → Prop} {f : Value → Value → Sem Value}
    (hf : ∀ v u s2 x y H2, Inv X pins σ H2 s2 → RelV x v → RelV y u → R x y H2 → wpAny (model X.prog X.w) X.A (f v u) Q X.xe s2) :
    wpAny (model X.prog X.w) X.A (eval a X.env) (fun v s₁ => wpAny (model X.prog X.w) X.A (eval b X.env) (fun u s₂ => wpAny (model X.prog X.w) X.A (f v u) Q X.xe s₂) X.xe s₁) X.xe s := by
  refine thn (ha pins s σ H _ I h) fun v s1 ⟨x, H1, I1, r1, q1⟩ => ?_
  refine thn (hb pins s1 σ H1 _ I1 q1) fun u s2 ⟨y, H2, I2, r2, q2⟩ => ?_
  exact hf v u s2 x y H2 I2 r1 r2 q2
theorem wI {op : Operator} {r : R2} (ho : OpR X (binaryOp op) r) (ha : PE X a ta) (hb : PE X b tb) : PE X (.BinOp a op b pos) (tOp r ta tb) := by
  intro pins s σ H Q I h
  exact wpAny_BinOp (n9 ha hb I h fun v u s2 x y H2 I2 rx ry q => ho pins s2 σ H2 x y v u Q I2 rx ry q)
theorem Cr {op : UnaryOp} {r : V → Hp → VK → Prop} (ho : UnR X (unaryOp op) r) (ha : PE X a ta) : PE X (.UnaryOp op a pos) (tUn r ta) := by
  intro pins s σ H Q I h
  exact UnaryOp_ (thn (ha pins s σ H _ I h) fun v s1 ⟨x, H1, I1, r1, q1⟩ => ho pins s1 σ H1 x v Q I1 r1 q1)
theorem opI {f : Value → Value → Sem Value} {C : Int → Int → Prop} {g : Int → Int → Int}
    (rule : ∀ (i j : Int) (t u : Tok) (s : Shared) (Q : Value → Shared → Prop) (E : Value → Shared → Prop), C i j → Q (.int (g i j) s.toks) { s with toks := s.toks + 1 } → wpAny (model X.prog X.w) X.A (f (.int i t) (.int j u)) Q E s) :
    OpR X f (rI C fun i j => .int (g i j)) := by
  intro pins s σ H x y v u Q I rx ry h
  obtain ⟨i, j, rfl, rfl, hc, q⟩ := h
  obtain ⟨t, rfl⟩ := rx
  obtain ⟨t', rfl⟩ := ry
  exact rule i j t t' s _ _ hc ⟨.int (g i j), H, I.tok _, ⟨_, rfl⟩, q⟩
theorem sM {f : Value → Value → Sem Value} {g : Int → Int → Int}
    (rule : ∀ (i j : Int) (t u : Tok) (s : Shared) (Q : Value → Shared → Prop) (E : Value → Shared → Prop), Q (.int (g i j) s.toks) { s with toks := s.toks + 1 } → wpAny (model X.prog X.w) X.A (f (.int i t) (.int j u)) Q E s) :
    OpR X f (rI0 fun i j => .int (g i j)) := by
  intro pins s σ H x y v u Q I rx ry h
  obtain ⟨i, j, rfl, rfl, q⟩ := h
  obtain ⟨t, rfl⟩ := rx
  obtain ⟨t', rfl⟩ := ry
  exact rule i j t t' s _ _ ⟨.int (g i j), H, I.tok _, ⟨_, rfl⟩, q⟩
theorem oE {f : Value → Value → Sem Value} {g : Int → Int → Bool}
    (rule : ∀ (i j : Int) (t u : Tok) (s : Shared) (Q : Value → Shared → Prop) (E : Value → Shared → Prop), Q (.bool (g i j)) s → wpAny (model X.prog X.w) X.A (f (.int i t) (.int j u)) Q E s) :
    OpR X f (rI0 fun i j => .bl (g i j)) := by
  intro pins s σ H x y v u Q I rx ry h
  obtain ⟨i, j, rfl, rfl, q⟩ := h
  obtain ⟨t, rfl⟩ := rx
  obtain ⟨t', rfl⟩ := ry
  exact rule i j t t' s _ _ ⟨.bl (g i j), H, I, rfl, q⟩
noncomputable def CH (i j : Int) : Prop := 0 < j ∧ j < 1073741824
noncomputable def lK (i j : Int) : Prop := (-(2 ^ 64) < i ∧ i < 2 ^ 64) ∨ (-(2 ^ 64) < j ∧ j < 2 ^ 64)
theorem lK.ok {i j : Int} (h : lK i j) : IntMulOk i j := by
  rcases h with ⟨h1, h2⟩ | ⟨h1, h2⟩
  · exact .of_left (intBits_le_64 h1 h2)
  · exact .of_right (intBits_le_64 h1 h2)
theorem Ct : OpR X (binaryOp .Add) (rI0 fun i j => .int (i + j)) := sM fun _ _ _ _ _ _ _ q => add_int q
theorem AB : OpR X (binaryOp .Sub) (rI0 fun i j => .int (i - j)) := sM fun _ _ _ _ _ _ _ q => sub_int q
theorem vQ : OpR X (binaryOp .Mult) (rI lK fun i j => .int (i * j)) := opI fun _ _ _ _ _ _ _ hc q => mul_int q hc.ok
theorem B7 : OpR X (binaryOp .FloorDiv) (rI CH fun i j => .int (i / j)) := opI fun i j _ _ _ _ _ hc q => by
  have h1 : (0 : Int) < j := hc.1
  have h2 : j < 1073741824 := hc.2
  exact floordiv_int (by omega) (by rw [Int.fdiv_eq_ediv_of_nonneg i (by omega)]; exact q) (.inl (PyProof.noPylong_small (by omega)))
theorem wo : OpR X (binaryOp .Mod) (rI (fun _ j => 0 < j) fun i j => .int (i % j)) := opI fun i j _ _ _ _ _ hc q => by
  have h1 : (0 : Int) < j := hc
  exact mod_int' (by omega) (by rw [Int.fmod_eq_emod_of_nonneg i (by omega)]; exact q)
theorem unI {f : Value → Sem Value} {g : Int → Int}
    (rule : ∀ (i : Int) (t : Tok) (s : Shared) (Q : Value → Shared → Prop) (E : Value → Shared → Prop), Q (.int (g i) s.toks) { s with toks := s.toks + 1 } → wpAny (model X.prog X.w) X.A (f (.int i t)) Q E s) :
    UnR X f (rU fun i => .int (g i)) := by
  intro pins s σ H x v Q I rx h
  obtain ⟨i, rfl, q⟩ := h
  obtain ⟨t, rfl⟩ := rx
  exact rule i t s _ _ ⟨.int (g i), H, I.tok _, ⟨_, rfl⟩, q⟩
theorem CP : UnR X (unaryOp .USub) (rU fun i => .int (-i)) := unI fun _ _ _ _ _ q => neg_int q
end
section
variable {X : Cx} {a b c : Expr} {ta tb tc : TE} {pos : Pos}
theorem uC {pins : List (Addr × Obj)} {σ : St} {H : Hp} {s : Shared} {Q : VK} {k k' : Bool} (I : Inv X pins σ H s) (q : Q (.bl k) H) (e : k = k') : EP X pins σ Q (.bool k') s := by
  subst e
  exact ⟨.bl k, H, I, rfl, q⟩
theorem Dv : OpR X (compareOp .Lt) (rI0 fun i j => .bl (decide (i < j))) := oE fun _ _ _ _ _ _ _ q => lt_int q
theorem w5 : OpR X (compareOp .LtE) (rI0 fun i j => .bl (decide (i ≤ j))) := oE fun _ _ _ _ _ _ _ q => le_int q
theorem zN : OpR X (compareOp .Gt) (rI0 fun i j => .bl (decide (j < i))) := oE fun _ _ _ _ _ _ _ q => gt_int q
theorem Dj : OpR X (compareOp .Is) (fun x y H Q => y = .non ∧ Q (.bl (decide (x = .non))) H) := by
  intro pins s σ H x y v u Q I rx ry h
  obtain ⟨rfl, q⟩ := h
  cases ry
  refine is_none_gen (uC I q ?_)
  cases x <;> first
    | (cases rx; rfl)
    | (obtain ⟨t, rfl⟩ := rx; rfl)
theorem As : OpR X (compareOp .IsNot) (fun x y H Q => y = .non ∧ Q (.bl (!decide (x = .non))) H) := by
  intro pins s σ H x y v u Q I rx ry h
  obtain ⟨rfl, q⟩ := h
  cases ry
  refine isnot_none_gen (uC I q ?_)
  cases x <;> first
    | (cases rx; rfl)
    | (obtain ⟨t, rfl⟩ := rx; rfl)
theorem OpR.or {f : Value → Value → Sem Value} {r r' : R2} (h : OpR X f r) (h' : OpR X f r') : OpR X f (fun x y H Q => r x y H Q ∨ r' x y H Q) := by
  intro pins s σ H x y v u Q I rx ry q
  rcases q with q | q
  · exact h pins s σ H x y v u Q I rx ry q
  · exact h' pins s σ H x y v u Q I rx ry q
theorem aS (b : Expr) {op : CmpOp} (h : op ≠ .In := by decide) (h2 : op ≠ .NotIn := by decide) : behindInMarks op b = false := by
  have e1 : (op == CmpOp.In) = false := by cases op <;> first | rfl | exact absurd rfl h
  have e2 : (op == CmpOp.NotIn) = false := by cases op <;> first | rfl | exact absurd rfl h2
  cases b <;> simp [behindInMarks, e1, e2]
theorem zw {op : CmpOp} {r : R2} (ho : OpR X (compareOp op) r) (ha : PE X a ta) (hb : PE X b tb) (hm : behindInMarks op b = false) : PE X (.Compare a [op] [b] pos) (tOp r ta tb) := by
  intro pins s σ H Q I h
  exact wpAny_Compare1 (n9 ha hb I h fun v u s2 x y H2 I2 rx ry q => ho pins s2 σ H2 x y v u Q I2 rx ry q) hm
noncomputable def p8 (t : TE) : TT := fun σ H Q => t σ H fun x H' => ∃ k, x = .bl k ∧ Q k H'
theorem yG {op : CmpOp} {r : R2} (ho : OpR X (compareOp op) r) (ha : PE X a ta) (hb : PE X b tb) (hm : behindInMarks op b = false) : PT X (.Compare a [op] [b] pos) (p8 (tOp r ta tb)) := by
  intro pins s σ H Q I h
  refine wpAny_isTrue_Compare1 (thn (ha pins s σ H _ I h) fun v s1 ⟨x, H1, I1, r1, q1⟩ => thn (hb pins s1 σ H1 _ I1 q1) fun u s2 ⟨y, H2, I2, r2, q2⟩ =>
    thn (ho pins s2 σ H2 x y v u _ I2 r1 r2 q2) fun c s3 ⟨z, H3, I3, r3, k, e, q3⟩ => ?_) hm
  subst e
  cases r3
  exact wpAny_truthy_bool ⟨H3, I3, q3⟩
theorem nC : (sizeLine : Nat) < 2 ^ 63 := by rw [sizeLine_eq]; decide
theorem zl : OpR X (binaryOp .Add) (fun x y H Q => ∃ i j, x = .str i ∧ y = .str j ∧ i.length + j.length ≤ sizeLine ∧ Q (.str (i ++ j)) H) := by
  intro pins s σ H x y v u Q I rx ry h
  obtain ⟨i, j, rfl, rfl, hz, q⟩ := h
  obtain ⟨t, rfl⟩ := rx
  obtain ⟨t', rfl⟩ := ry
  exact add_str (fun t' tk => ⟨.str (i ++ j), H, I.tok _, ⟨_, rfl⟩, q⟩) hz
theorem vals1 {x : V} {us : List Value} (r : Vals [x] us) : ∃ u, us = [u] ∧ RelV x u := by
  cases r with
  | cons r1 r2 => cases r2; exact ⟨_, rfl, r1⟩
theorem vals2 {x y : V} {us : List Value} (r : Vals [x, y] us) : ∃ u w', us = [u, w'] ∧ RelV x u ∧ RelV y w' := by
  cases r with
  | cons r1 r2 =>
    cases r2 with
    | cons r3 r4 => cases r4; exact ⟨_, _, rfl, r1, r3⟩
theorem zI (hc : X.calm = true) : eA X (.builtin "max") (fun xs H Q => ∃ i j, xs = [.int i, .int j] ∧ Q (.int (if j > i then j else i)) H) := by
  intro pins s σ H xs us Q I r h
  obtain ⟨i, j, rfl, q⟩ := h
  obtain ⟨u, w', rfl, ⟨t, rfl⟩, ⟨t', rfl⟩⟩ := vals2 r
  refine max_two_ints (I.ok.hd hc) fun h' tk k => ⟨_, H, I.kept k, ?_, q⟩
  by_cases hj : j > i
  · rw [if_pos hj, if_pos hj]; exact ⟨_, rfl⟩
  · rw [if_neg hj, if_neg hj]; exact ⟨_, rfl⟩
theorem Co (hc : X.calm = true) : eA X (.builtin "min") (fun xs H Q => ∃ i j, xs = [.int i, .int j] ∧ Q (.int (if j < i then j else i)) H) := by
  intro pins s σ H xs us Q I r h
  obtain ⟨i, j, rfl, q⟩ := h
  obtain ⟨u, w', rfl, ⟨t, rfl⟩, ⟨t', rfl⟩⟩ := vals2 r
  refine min_two_ints (I.ok.hd hc) fun h' tk k => ⟨_, H, I.kept k, ?_, q⟩
  by_cases hj : j < i
  · rw [if_pos hj, if_pos hj]; exact ⟨_, rfl⟩
  · rw [if_neg hj, if_neg hj]; exact ⟨_, rfl⟩
noncomputable def Ar (K : PySem.W.Frag) (x : V) (H : Hp) (n : Nat) : Prop :=
  match x with
  | .str y => y.length ≤ sizeLine ∧ n = y.length
  | .byt y => y.size ≤ sizeLine ∧ n = y.size
  | .ref p => (∃ xs, SqL K H p xs ∧ n = xs.length) ∨ ∃ xs, SqT K H p xs ∧ n = xs.length
  | _ => False
theorem xT : eA X (.builtin "len") (fun xs H Q => ∃ x n, xs = [x] ∧ Ar X.K x H n ∧ Q (.int n) H) := by
  intro pins s σ H xs us Q I r h
  obtain ⟨x, n, rfl, e, q⟩ := h
  obtain ⟨u, rfl, rx⟩ := vals1 r
  have hl := nC
  have hs : sizeLine = 16777216 := sizeLine_eq
  cases x with
  | str y =>
    obtain ⟨t, rfl⟩ := rx
    obtain ⟨hy, e'⟩ : y.length ≤ sizeLine ∧ n = y.length := e
    subst e'
    exact len_str (by omega) ⟨.int _, H, I.tok _, ⟨_, rfl⟩, q⟩
  | byt y =>
    obtain ⟨t, rfl⟩ := rx
    obtain ⟨hy, e'⟩ : y.size ≤ sizeLine ∧ n = y.size := e
    subst e'
    exact PySem.W.len_bytes (by omega) ⟨.int _, H, I.tok _, ⟨_, rfl⟩, q⟩
  | ref p =>
    cases rx
    have e' : (∃ xs, SqL X.K H p xs ∧ n = xs.length) ∨ ∃ xs, SqT X.K H p xs ∧ n = xs.length := e
    rcases e' with ⟨xs, hx, e'⟩ | ⟨xs, hx, e'⟩
    · subst e'
      obtain ⟨its, r', pl, hz⟩ := I.list hx
      have hlen := r'.length
      exact Calls.call_len_list pl.isList (by simp only [List.size_toArray]; omega) ⟨.int xs.length, H, I.tok _, ⟨_, by simp only [List.size_toArray]; rw [hlen]⟩, q⟩
    · subst e'
      obtain ⟨its, r', pl, hz⟩ := I.tuple hx
      have hlen := r'.length
      exact len_tuple pl (by simp only [List.size_toArray]; omega) ⟨.int xs.length, H, I.tok _, ⟨_, by simp only [List.size_toArray]; rw [hlen]⟩, q⟩
  | _ => exact (show False from e).elim
end
end L2
namespace L2
open PySem PySem.Spec PyProof.Rows
structure DJ (h : Heap) (x dx C : Addr) (mA : Str → Option Value) : Prop where
  obj : h.get? x = some (PySem.W.instObj C dx)
  ns : h.Ns1 dx mA
  ne : dx ≠ x
section
variable {prog : Program} {w : World} {A : Around} {E : Value → Shared → Prop} {s : Shared} {K : PySem.W.Frag} {x dx C f : Addr} {mA : Str → Option Value} {name : Str} {v : Value}
end
section
variable {P : Program} {w : World} {H H' : Hp} {h h' : Heap} {a C dx : Addr} {fs fs' : List (Str × V)}
end
structure Cls (K : PySem.W.Frag) (C : Addr) : Prop where
  pg : PySem.W.plainGet K C Str.empty = true
  hd : PySem.W.hasDictIn K C = true
  po : PySem.W.plainOver K C = true
  sa : PySem.W.findIn K (.ref C) "__setattr__" = some (some (.builtin "object.__setattr__"))
theorem Cls.get {K : PySem.W.Frag} {C : Addr} (c : Cls K C) (f : Str) : PySem.W.plainGet K C f = true := c.pg
structure Con (K : PySem.W.Frag) (C : Addr) (f : Str) (v : V) (u : Value) : Prop where
  at_ : PySem.W.findIn K (.ref C) f = some (some u)
  rel : RelV v u
  get : PySem.W.specialIn K u "__get__" = some none
  cp : PySem.W.copiedNames.contains f = false
structure Meth (K : PySem.W.Frag) (C : Addr) (m : Str) (f : Addr) : Prop where
  at_ : PySem.W.findIn K (.ref C) m = some (some (.ref f))
  fn : PySem.W.isFn K (.ref f) = true
  kp : PySem.W.keepIn K (.ref f) = true
section
variable {X : Cx} {pins : List (Addr × Obj)} {σ : St} {H : Hp} {s : Shared} {a C dx : Addr} {fs : List (Str × V)} {f : Str} {v : V} {A : Around} {E : Value → Shared → Prop}
end
section
variable {X : Cx} {o e value : Expr} {f : Str} {pos pos' tpos : Pos} {ta tv : TE}
end
section
variable {X : Cx} {pins : List (Addr × Obj)} {σ : St} {H : Hp} {s : Shared} {A : Around} {E : Value → Shared → Prop} {Q : Value → Shared → Prop} {c : Value} {b : Bool}
inductive eV (K : PySem.W.Frag) (H : Hp) : V → Value → Prop where
  | non : eV K H .non (.type "NoneType")
  | bl (x : Bool) : eV K H (.bl x) (.type "bool")
  | int (i : Int) : eV K H (.int i) (.type "int")
  | str (x : Str) : eV K H (.str x) (.type "str")
  | flt (x : UInt64) : eV K H (.flt x) (.type "float")
  | lst {a : Addr} {xs : List V} (e : H a = some (.lst xs)) : eV K H (.ref a) (.type "list")
  | frz {a : Addr} {o : Obj} {xs : List V} (e : H a = some (.frz o (.lst xs))) : eV K H (.ref a) (.type "list")
  | tup {a : Addr} {xs : List V} (e : H a = some (.tup xs)) : eV K H (.ref a) (.type "tuple")
  | dK {a : Addr} {kvs : List (Key × V)} (e : H a = some (.dK kvs)) : eV K H (.ref a) (.type "dict")
  | dT {a : Addr} {kvs : List (List Key × V)} (e : H a = some (.dT kvs)) : eV K H (.ref a) (.type "dict")
  | ins {a C dx : Addr} {fs : List (Str × V)} (e : H a = some (.ins C dx fs)) (cl : Cls K C) (ha : PySem.W.findIn K (.ref C) "__class__" = some (some (.builtin "object.__class__")))
      (hn : PySem.W.specialIn K (.builtin "object.__class__") "__get__" = some (some (.builtin "getset_descriptor.__get__"))) (htk : PySem.W.takesIn K (.builtin "object.__class__") = some true)
      (hm : PySem.W.mroIn K C (.type "object") = some true) : eV K H (.ref a) (.ref C)
end
end L2
namespace L2
open PySem PySem.Spec PyProof.Rows
structure bN (k : Nat) (A : Around) : Prop where
  hd : A.handled = none
  dp : A.depth + 3 * k + 5 < recursionLimit
  un : A.units + 16 * k + 200 < cLine
  gd : A.guards = some []
theorem bN.mono {j k : Nat} {A : Around} (r : bN k A) (h : j ≤ k) : bN j A := ⟨r.hd, by have := r.dp; omega, by have := r.un; omega, r.gd⟩
theorem bN.deeper {k : Nat} {A : Around} (r : bN (k + 1) A) (env : Env) : bN k (A.deeper env) :=
  ⟨r.hd, by have := r.dp; show A.depth + 1 + 3 * k + 5 < _; omega, by have := r.un; show A.units + 3 + 16 * k + 200 < _; omega, r.gd⟩
theorem bN.depth {k : Nat} {A : Around} (r : bN k A) : A.depth < recursionLimit := by have := r.dp; omega
theorem bN.units {k : Nat} {A : Around} (r : bN k A) : A.units + 64 < cLine := by have := r.un; omega
noncomputable def mT : TA := fun _ H Q => Q [] H
noncomputable def ma (ta : TE) (tr : TA) : TA := fun σ H Q => ta σ H fun x H1 => tr σ H1 fun xs H2 => Q (x :: xs) H2
section
variable {X : Cx} {e : Expr} {es : List Expr} {te : TE} {t : TA} {pos : Pos}
theorem ic : PA X [] mT := fun _ _ _ _ H Q I h => Calls.spliced_nil ⟨[], H, I, .nil, h⟩
theorem fA (ha : PE X e te) (hr : PA X es t) (hs : starEach (e :: es) X.env = (false, eval e X.env) :: starEach es X.env := by rfl) : PA X (e :: es) (ma te t) := by
  intro pos pins s σ H Q I h
  rw [hs]
  show wpAny _ _ (spliced ((false, eval e X.env) :: backTo pos (starEach es X.env))) _ _ s
  refine Calls.spliced_cons (thn (ha pins s σ H _ I h) fun u s1 ⟨x, H1, I1, r1, q1⟩ => ?_)
  exact thn (hr pos pins s1 σ H1 _ I1 q1) fun us s2 ⟨xs, H2, I2, r2, q2⟩ => ⟨x :: xs, H2, I2, .cons r1 r2, q2⟩
noncomputable def sk (t : TA) : TE := fun σ H Q => t σ H fun xs H1 => xs.length ≤ sizeLine ∧ ∀ p, H1 p = none → Q (.ref p) (upd H1 p (.tup xs))
noncomputable def tL (t : TA) : TE := fun σ H Q => t σ H fun xs H1 => xs.length ≤ sizeLine ∧ ∀ p, H1 p = none → Q (.ref p) (upd H1 p (.lst xs))
theorem BW {x1} (h : PA X es t) : PE X (.Tuple es x1 pos) (sk t) := by
  intro pins s σ H Q I hq
  refine wpAny_Tuple_spliced (thn (h pos pins s σ H _ I hq) fun us s1 ⟨xs, H1, I1, r, z, q⟩ => ⟨by rw [← r.length]; exact z, ?_⟩)
  have hf : H1 s1.heap.objs.size = none := I1.hok.fresh (Nat.le_refl _)
  refine ⟨.ref s1.heap.objs.size, upd H1 s1.heap.objs.size (.tup xs), I1.laid (t' := s1.toks) (fun b u e => Heap.get?_push_of_some _ e) (Nat.le_refl _) ?_, rfl, q _ hf⟩
  exact ⟨z, us, r, ⟨_, Heap.get?_push_size _ rfl, rfl, _, rfl⟩⟩
theorem vO (h : PA X es t) : PE X (.List es pos) (tL t) := by
  intro pins s σ H Q I hq
  refine wpAny_List_spliced (thn (h pos pins s σ H _ I hq) fun us s1 ⟨xs, H1, I1, r, z, q⟩ => ⟨by rw [← r.length]; exact z, ?_⟩)
  have hf : H1 s1.heap.objs.size = none := I1.hok.fresh (Nat.le_refl _)
  refine ⟨.ref s1.heap.objs.size, upd H1 s1.heap.objs.size (.lst xs), I1.laid (t' := s1.toks) (fun b u e => Heap.get?_push_of_some _ e) (Nat.le_refl _) ?_, rfl, q _ hf⟩
  exact ⟨z, us, 0, r, Heap.get?_push_size _ rfl⟩
end
noncomputable abbrev Sp := List V → Hp → VK → XK → Prop
noncomputable abbrev CXT := List Env → Hp → Shared → XK → Value → Shared → Prop
structure mR (P : Program) (w : World) (K : PySem.W.Frag) (mg : Str → Option Value) (base : Heap) (A : Around) (outer : List Env) (s : Shared) (H : Hp) : Prop where
  frames : A.frames = some outer
  mod : Mod K mg base
  bs : ∀ b o, base.get? b = some o → s.heap.get? b = some o ∧ H b = none
  bsz : base.objs.size ≤ s.heap.objs.size
  funs : s.heap.FunFrames base outer
  frf : ∀ b ∈ frs outer, H b = none
  hok : HOk P w H s.heap
  bare : AllBare s.gens
noncomputable def CE (outer : List Env) (P : Program) (w : World) (H : Hp) (s : Shared) (Q : VK) (u : Value) (s' : Shared) : Prop :=
  ∃ v H', s'.os = s.os ∧ AllBare s'.gens ∧ Un (frs outer) [] H H' s.heap s'.heap ∧ HOk P w H' s'.heap ∧ RelV v u ∧ Q v H'
noncomputable def CR (CX : CXT) (outer : List Env) (P : Program) (w : World) (H : Hp) (s : Shared) (Q : VK) (E : XK) (r : Result) (s' : Shared) : Prop :=
  match r with
  | .ok (.ret u) => CE outer P w H s Q u s'
  | .ok _ => False
  | .error e => CX outer H s E e s'
structure aW (P : Program) (w : World) (K : PySem.W.Frag) (mg : Str → Option Value) (base : Heap) (CX : CXT) (k : Nat) (f : Addr) (fd : FuncData) (ps : List Str) (sp : Sp) : Prop where
  len : ∀ vs H Q E, sp vs H Q E → vs.length = ps.length
  run : ∀ (A : Around) (outer : List Env) (s : Shared) (H : Hp) (args : Args) (us : List Value) (vs : List V) (Q : VK) (E : XK), bN k A → mR P w K mg base A outer s H → BindsTo s fd args (ps.zip us) → Vals vs us → sp vs H Q E →
    codeAny (model P w) A (.call (.ref f) args) (CR CX outer P w H s Q E) s
theorem aW.imp {P : Program} {w : World} {K : PySem.W.Frag} {mg : Str → Option Value} {base : Heap} {CX : CXT} {k : Nat} {f : Addr} {fd : FuncData} {ps : List Str} {sp sp' : Sp} (F : aW P w K mg base CX k f fd ps sp)
    (h : ∀ vs H Q E, sp' vs H Q E → sp vs H Q E) : aW P w K mg base CX k f fd ps sp' :=
  ⟨fun vs H Q E q => F.len vs H Q E (h _ _ _ _ q), fun A outer s H args us vs Q E hr he hb hv hs => F.run A outer s H args us vs Q E hr he hb hv (h _ _ _ _ hs)⟩
section
variable {X : Cx} {pins : List (Addr × Obj)} {σ : St} {H : Hp} {s s' : Shared}
theorem Inv.env0 (I : Inv X pins σ H s) : mR X.prog X.w X.K X.mg X.base X.A X.stack s H :=
  ⟨I.ok.frames, I.ok.mod, I.bs, Nat.le_trans I.ok.bsz I.sz, I.stack, I.stkFree, I.hok, I.bare⟩
theorem Inv.after {Q : VK} {u : Value} (I : Inv X pins σ H s) (h : CE X.stack X.prog X.w H s Q u s') : EP X pins σ Q u s' := by
  obtain ⟨v, H', os, bare, un, hok, r, q⟩ := h
  obtain ⟨hh, g, d, t, os'⟩ := s'
  obtain rfl : os' = s.os := os
  exact ⟨v, H', I.call (h' := hh) (g' := g) (d' := d) (t' := t) (ch := []) un hok bare (fun b z => absurd z (by simp)), r, q⟩
end
noncomputable def nB (sp : Sp) (dvs : List V) (E : XK) (t : TA) : TE := fun σ H Q => t σ H fun vs H1 => sp (vs ++ dvs) H1 Q E
noncomputable def Binds (K : PySem.W.Frag) (fd : FuncData) (ps : List Str) (ds : List Value) : Prop :=
  ∀ (s : Shared) (us : List Value), K.In s.heap → (us ++ ds).length = ps.length → BindsTo s fd ⟨us, []⟩ (ps.zip (us ++ ds))
theorem Binds.all {K : PySem.W.Frag} {fd : FuncData} {ps : List Str} (h : ∀ us : List Value, us.length = ps.length → bindArgs fd ⟨us, []⟩ = pure (ps.zip us)) : Binds K fd ps [] := fun s us _ hl => by
  rw [List.append_nil] at hl ⊢
  exact .of_eq (h us hl)
noncomputable def Passes (CX : CXT) (X : Cx) (E : XK) : Prop := ∀ (pins : List (Addr × Obj)) (σ : St) (H : Hp) (s : Shared) (e : Value) (s' : Shared), Inv X pins σ H s → CX X.stack H s E e s' → X.xe e s'
section
variable {X : Cx} {CX : CXT} {k : Nat} {f C : Addr} {fd : FuncData} {ps : List Str} {sp : Sp} {dvs : List V} {ds : List Value} {E : XK} {x m : Str} {p pos apos : Pos} {e o : Expr} {es : List Expr} {ta : TE} {t : TA}
theorem Ck {pins : List (Addr × Obj)} {σ : St} {H : Hp} {s : Shared} {Q : VK} {us : List Value} {vs : List V} (F : aW X.prog X.w X.K X.mg X.base CX k f fd ps sp) (hr : bN k X.A) (hb : Binds X.K fd ps ds) (hd : Vals dvs ds) (hx : Passes CX X E)
    (I : Inv X pins σ H s) (r : Vals vs us) (h : sp (vs ++ dvs) H Q E) : wpAny (model X.prog X.w) X.A (call (.ref f) us) (EP X pins σ Q) X.xe s := by
  have r2 : Vals (vs ++ dvs) (us ++ ds) := r.append hd
  have hl : (us ++ ds).length = ps.length := by rw [← r2.length]; exact F.len _ _ _ _ h
  refine wpAny_call (codeAny_mono (F.run X.A X.stack s H ⟨us, []⟩ (us ++ ds) (vs ++ dvs) Q E hr I.env0 (hb s us I.kIn hl) r2 h) fun r s' hq => ?_)
  cases r with
  | error e => exact hx pins σ H s e s' I hq
  | ok fl =>
    cases fl with
    | ret u => exact I.after hq
    | next => exact False.elim hq
    | brk => exact False.elim hq
    | cont => exact False.elim hq
theorem jh (F : aW X.prog X.w X.K X.mg X.base CX k f fd ps sp) (hr : bN k X.A) (hg : Gl X x) (hm : X.mg x = some (.ref f)) (hk : PySem.W.keepIn X.K (.ref f) = true) (hb : Binds X.K fd ps ds) (hd : Vals dvs ds) (hx : Passes CX X E)
    (ha : PA X (e :: es) t) (hdb : (x == ("__debug__" : Str)) = false := by decide) (he : starEach (e :: es) X.env = (false, eval e X.env) :: starEach es X.env := by rfl) (hpl : (backTo pos (starEach es X.env)).any (·.1) = false := by rfl) :
    PE X (.Call (.Name x p) (e :: es) [] pos) (nB sp dvs E t) := by
  intro pins s σ H Q I h
  refine wpAny_Call_Name_kw (ji I hg hm ?_ hdb)
  refine PySem.W.callWith_K (h₀ := X.base) I.ok.mod.kin hk (thn (ha pos pins s σ H _ I h) fun us s1 ⟨vs, H1, I1, r, q⟩ => ⟨I1.kIn, ?_⟩) he hpl
  exact Ck F hr hb hd hx I1 r q
structure Mk (K : PySem.W.Frag) (C f : Addr) : Prop where
  makes : PySem.W.makesIn K C = true
  init : PySem.W.findIn K (.ref C) "__init__" = some (some (.ref f))
  fn : PySem.W.isFn K (.ref f) = true
  kp : PySem.W.keepIn K (.ref C) = true
end
section
variable {X : Cx} {CX : CXT} {k : Nat} {f C : Addr} {fd : FuncData} {ps ks : List Str} {sp : Sp} {E : XK} {x m : Str} {p pos apos kpos : Pos} {e o : Expr} {es : List Expr} {kws : List Keyword} {te ta : TE} {t tk : TA} {nm : Option Str}
structure DK (K : PySem.W.Frag) (fd : FuncData) (ps ks : List Str) (g : List Value → List Value → List Value) (gV : List V → List V → List V) : Prop where
  to : ∀ (s : Shared) (us ws : List Value), K.In s.heap → (g us ws).length = ps.length → BindsTo s fd ⟨us, ks.zip ws⟩ (ps.zip (g us ws))
  rel : ∀ {vs : List V} {us : List Value} {zs : List V} {ws : List Value}, Vals vs us → Vals zs ws → Vals (gV vs zs) (g us ws)
variable {g : List Value → List Value → List Value} {gV : List V → List V → List V}
end
structure bu (N P : List Str) (sc : Scope) : Prop where
  kind : sc.kind = .function
  co : sc.isCoroutine = false
  gen : sc.isGenerator = false
  nd : N.Nodup
  pre : N.take P.length = P
  par : ∀ x ∈ P, sc.names.lookup x = some .local ∨ sc.names.lookup x = some .cell
  nofree : ∀ y ∈ sc.names, y.2 ≠ .free
theorem pV {kindOf : Str → Option NameKind} {x : Str} : ∀ {binds : List (Str × Value)} {m : Str → Option Value}, (∀ v, (x, v) ∉ binds) → bindL kindOf binds m x = m x
  | [], _, _ => rfl
  | (n, v) :: r, m, h => by
    unfold bindL
    rw [pV fun w hw => h w (List.mem_cons_of_mem _ hw)]
    split
    · have : x ≠ n := by rintro rfl; exact h v List.mem_cons_self
      simp [this]
    · rfl
theorem qu {kindOf : Str → Option NameKind} {x : Str} : ∀ {binds : List (Str × Value)} {m : Str → Option Value}, (∀ v, (x, v) ∉ binds) → bindC kindOf binds m x = m x
  | [], _, _ => rfl
  | (n, v) :: r, m, h => by
    unfold bindC
    rw [qu fun w hw => h w (List.mem_cons_of_mem _ hw)]
    split
    · rfl
    · have : x ≠ n := by rintro rfl; exact h v List.mem_cons_self
      simp [this]
theorem vE {kindOf : Str → Option NameKind} {x : Str} {v : Value} : ∀ {P : List Str} {vs : List Value} {i : Nat} {m : Str → Option Value}, P.Nodup → P[i]? = some x → vs[i]? = some v → kindOf x = some .local →
    bindL kindOf (P.zip vs) m x = some v
  | [], _, _, _, _, h, _, _ => by simp at h
  | _ :: _, [], _, _, _, _, h, _ => by simp at h
  | p :: P, w :: vs, 0, m, nd, h1, h2, hk => by
    simp at h1 h2; subst h1; subst h2
    show bindL kindOf ((p, w) :: P.zip vs) m p = _
    unfold bindL
    rw [pV fun v hv => (List.nodup_cons.mp nd).1 (List.of_mem_zip hv).1, if_pos hk]
    simp
  | p :: P, w :: vs, i + 1, m, nd, h1, h2, hk => by
    show bindL kindOf ((p, w) :: P.zip vs) m x = _
    unfold bindL
    exact vE (i := i) (List.nodup_cons.mp nd).2 (by simpa using h1) (by simpa using h2) hk
theorem rM {kindOf : Str → Option NameKind} {x : Str} {v : Value} : ∀ {P : List Str} {vs : List Value} {i : Nat} {m : Str → Option Value}, P.Nodup → P[i]? = some x → vs[i]? = some v → kindOf x ≠ some .local →
    bindC kindOf (P.zip vs) m x = some v
  | [], _, _, _, _, h, _, _ => by simp at h
  | _ :: _, [], _, _, _, _, h, _ => by simp at h
  | p :: P, w :: vs, 0, m, nd, h1, h2, hk => by
    simp at h1 h2; subst h1; subst h2
    show bindC kindOf ((p, w) :: P.zip vs) m p = _
    unfold bindC
    rw [qu fun v hv => (List.nodup_cons.mp nd).1 (List.of_mem_zip hv).1, if_neg hk]
    simp
  | p :: P, w :: vs, i + 1, m, nd, h1, h2, hk => by
    show bindC kindOf ((p, w) :: P.zip vs) m x = _
    unfold bindC
    exact rM (i := i) (List.nodup_cons.mp nd).2 (by simpa using h1) (by simpa using h2) hk
noncomputable def start (N : List Str) (vs : List V) : St := vs.map some ++ List.replicate (N.length - vs.length) none
noncomputable def bU (CX : CXT) (P : Program) (w : World) (K : PySem.W.Frag) (mg : Str → Option Value) (base : Heap) (N : List Str) (qual : Str) (scope : Scope) (f : Addr) (cd : Value) (A : Around) (outer : List Env) (s : Shared) (H : Hp) (E : XK) : Cx where
  prog := P
  w := w
  K := K
  mg := mg
  base := base
  A := A.deeper (envOfC qual scope s.heap.objs.size f cd)
  N := N
  s₀ := s
  H₀ := H
  env := envOfC qual scope s.heap.objs.size f cd
  outer := outer
  stack := envOfC qual scope s.heap.objs.size f cd :: outer
  ex := []
  calm := true
  fn := fun _ => true
  pn := []
  xe := fun e s' => wpAny (model P w) (A.deeper (envOfC qual scope s.heap.objs.size f cd)) (leaving (envOfC qual scope s.heap.objs.size f cd) e) (fun _ s'' => CX outer H s E e s'') (fun e' s'' => CX outer H s E e' s'') s'
theorem rF {sc : Scope} {n : Nat} {x : Str} (h : sc.names.lookup x = some .cell) : ∃ c, (cellsFrom n sc.names []).lookup x = some c := by
  have q := PySem.W.cellsFrom_some sc.names n [] (.inl h)
  exact Option.isSome_iff_exists.mp q
theorem Bm {CX : CXT} {P : Program} {w : World} {K : PySem.W.Frag} {mg : Str → Option Value} {base : Heap} {N ps : List Str} {qual : Str} {scope : Scope} {f : Addr} {cd : Value} {A : Around} {outer : List Env} {s s1 : Shared} {H : Hp} {E : XK} {us : List Value} {vs : List V}
    (S : bu N ps scope) (hd : A.handled = none) (e0 : mR P w K mg base A outer s H) (hl : vs.length = ps.length) (r : Vals vs us)
    (x : InCallC s s.heap.objs.size (bindL (envOfC qual scope s.heap.objs.size f cd).kindOf (ps.zip us) fun _ => none) (cellsFrom (s.heap.objs.size + 1) scope.names []) (bindC (envOfC qual scope s.heap.objs.size f cd).kindOf (ps.zip us) fun _ => none) s1) :
    Inv (bU CX P w K mg base N qual scope f cd A outer s H E) [] (start N vs) H s1 := by
  have hpl : ps.length ≤ N.length := by have := congrArg List.length S.pre; rw [List.length_take] at this; omega
  obtain ⟨h1, tk, rfl, hk⟩ := x.done
  have noA : ∀ b : Addr, b ∉ (bU CX P w K mg base N qual scope f cd A outer s H E).ex := fun b z => absurd (show b ∈ ([] : List Addr) from z) (by simp)
  refine ⟨⟨e0.mod, S.kind, rfl, rfl, Nat.le_refl _, fun y z c h1 h2 => ?_, fun y hy => ?_, fun y c _ h => ?_, fun _ => hd, Around.frames_deeper e0.frames, .inr ⟨rfl, rfl⟩, fun b z => absurd z (noA b), e0.bs, e0.bsz, fun b _ _ => noA b, fun b z => absurd z (noA b), e0.funs, e0.frf⟩,
    rfl, e0.bare, Un.kept hk, ⟨_, x.toInCall.ns, fun i y v h1 h2 h3 => ?_⟩, fun y c h => ⟨_, x.cell y c h⟩, e0.hok.fresh (Nat.le_refl _), fun y c h => ?_, fun p hp => absurd (show p ∈ ([] : List (Addr × Obj)) from hp) (by simp), e0.hok.kept hk, ?_⟩
  · exact name_of_addr x.apart (PySem.mem_of_lookup h1) (PySem.mem_of_lookup h2)
  · have hy : scope.names.lookup y = some .cell ∨ scope.names.lookup y = some .free := hy
    rcases hy with hy | hy
    · exact rF hy
    · exact absurd rfl (S.nofree _ (PySem.mem_of_lookup hy))
  · exact Nat.le_of_lt (x.above y c (PySem.mem_of_lookup h))
  · have hi : i < vs.length := by
      unfold start at h2
      by_cases hi : i < vs.length
      · exact hi
      · rw [List.getElem?_append_right (by simpa using hi)] at h2
        rw [List.getElem?_replicate] at h2
        split at h2 <;> cases h2
    have ha : vs[i]? = some v := by
      unfold start at h2
      rw [List.getElem?_append_left (by simpa using hi), List.getElem?_map] at h2
      cases e : vs[i]? with
      | none => rw [e] at h2; cases h2
      | some a => rw [e] at h2; cases h2; rfl
    obtain ⟨u, hu, rv⟩ := r.get ha
    have hp : ps[i]? = some y := by
      rw [← S.pre, List.getElem?_take_of_lt (by omega)]; exact h1
    have ndP : ps.Nodup := by rw [← S.pre]; exact S.nd.sublist (List.take_sublist _ _)
    refine ⟨u, rv, ?_⟩
    rcases S.par y (List.mem_of_getElem? hp) with k | k
    · exact .inl ⟨k, vE ndP hp hu k⟩
    · obtain ⟨c, e⟩ := rF (n := s.heap.objs.size + 1) k
      refine .inr ⟨.inl k, c, e, ?_⟩
      have q := x.cell y c e
      rw [rM ndP hp hu (by show scope.names.lookup y ≠ _; rw [k]; decide)] at q
      exact q
  · exact e0.hok.fresh (Nat.le_of_lt (x.above y c (PySem.mem_of_lookup h)))
  · unfold start
    show _ = N.length
    rw [List.length_append, List.length_map, List.length_replicate]
    omega
theorem tm {CX : CXT} {P : Program} {w : World} {K : PySem.W.Frag} {mg : Str → Option Value} {base : Heap} {k : Nat} {f : Addr} {name qual : Str} {params : Arguments} {body : List Stmt} {scope : Scope} {dV kV doc pm cdv ct oc : Value} {an od : Option Addr}
    {osl : Array (Option Value)} {N ps : List Str} {sp : Sp} (lk : K.lookup f = some ⟨oc, od, .func (PySem.W.fnOf name qual params body scope dV kV doc pm an cdv ct), osl⟩) (hcd : PySem.W.codeIn K cdv qual = true) (S : bu N ps scope)
    (len : ∀ vs H Q E, sp vs H Q E → vs.length = ps.length)
    (hbody : ∀ (A : Around) (outer : List Env) (s : Shared) (H : Hp) (vs : List V) (Q : VK) (E : XK), bN k (A.deeper (envOfC qual scope s.heap.objs.size f cdv)) → sp vs H Q E →
      ∃ t, PSs (bU CX P w K mg base N qual scope f cdv A outer s H E) body t ∧ t { nx := fun _ H' => Q .non H', rt := Q } (start N vs) H) :
    aW P w K mg base CX (k + 1) f (PySem.W.fnOf name qual params body scope dV kV doc pm an cdv ct) ps sp := by
  refine ⟨len, fun A outer s H args us vs Q E hr e0 hb r hsp => ?_⟩
  have hl := len _ _ _ _ hsp
  have KX : K.In s.heap := e0.mod.kin.keeps fun b o e => (e0.bs b o e).1
  have lim : s.heap.NoLimit := e0.mod.nolimit.keeps fun b o e => (e0.bs b o e).1
  have hkind : ∀ y ∈ ps.zip us, scope.names.lookup y.1 = some .local ∨ (scope.names.lookup y.1 = some .cell ∧ ((cellsFrom (s.heap.objs.size + 1) scope.names []).lookup y.1).isSome = true) := fun ⟨n, v⟩ hy => by
    rcases S.par n (List.of_mem_zip hy).1 with q | q
    · exact .inl q
    · exact .inr ⟨q, PySem.W.cellsFrom_some _ _ _ (.inl q)⟩
  refine codeAny_call_function hr.depth (KX _ _ lk) rfl S.co S.gen rfl (PySem.W.codeRec_of KX hcd) (hb _ _ _ _ ?_)
  refine wpAny_newFunctionEnv_cells S.kind hkind fun env he s1 x => ?_
  subst he
  refine ⟨lim.keeps x.toInCall.keep, codeAny_func ?_⟩
  obtain ⟨t, ht, hq⟩ := hbody A outer s H vs Q E (hr.deeper _) hsp
  have I : Inv (bU CX P w K mg base N qual scope f cdv A outer s H E) [] (start N vs) H s1 := Bm S hr.hd e0 hl r x
  refine wpAny_mono (ht [] s1 (start N vs) H _ I hq) (fun fl s' hs => ?_) fun e s' hs => hs
  have fin : ∀ {σ' : St} {H' : Hp} {v : V} {u : Value}, Inv (bU CX P w K mg base N qual scope f cdv A outer s H E) [] σ' H' s' → RelV v u → Q v H' → CE outer P w H s Q u s' :=
    fun {σ' H' v u} J rv q => ⟨v, H', J.os, J.bare, J.base, J.hok, rv, q⟩
  cases fl with
  | ret u =>
    obtain ⟨v, σ', H', J, rv, q⟩ := hs
    exact fin J rv q
  | next =>
    obtain ⟨σ', H', J, q⟩ := hs
    exact fin (v := V.non) (u := Value.none) J rfl q
  | brk =>
    obtain ⟨_, _, _, q⟩ := hs
    exact False.elim q
  | cont =>
    obtain ⟨_, _, _, q⟩ := hs
    exact False.elim q
end L2
namespace L2
open PySem PySem.Spec PyProof.Rows
section
variable {X : Cx} {x : Str} {p pos : Pos} {e : Expr} {es : List Expr} {t : TA} {id T : String} {r : List V → Hp → VK → Prop}
noncomputable def tCB (r : List V → Hp → VK → Prop) (t : TA) : TE := fun σ H Q => t σ H fun vs H1 => r vs H1 Q
theorem pq (hc : eA X (.builtin id) r) (hg : Gl X x) (hm : X.mg x = none) (hv : bootBuiltins x = some (.builtin id)) (ha : PA X (e :: es) t) (hn : x ≠ "__name__" := by decide) (hdb : (x == ("__debug__" : Str)) = false := by decide)
    (he : starEach (e :: es) X.env = (false, eval e X.env) :: starEach es X.env := by rfl) (hpl : (backTo pos (starEach es X.env)).any (·.1) = false := by rfl) : PE X (.Call (.Name x p) (e :: es) [] pos) (tCB r t) := by
  intro pins s σ H Q I h
  refine wpAny_Call_Name_kw (gy I hg hm hv ?_ hn hdb)
  exact PyProof.Rows.callWith_builtin1 (thn (ha pos pins s σ H _ I h) fun us s1 ⟨vs, H1, I1, r1, q1⟩ => hc pins s1 σ H1 vs us Q I1 r1 q1) he hpl
theorem yf (hc : eA X (.type T) r) (hg : Gl X x) (hm : X.mg x = none) (hv : bootBuiltins x = some (.type T)) (ha : PA X (e :: es) t) (hn : x ≠ "__name__" := by decide) (hdb : (x == ("__debug__" : Str)) = false := by decide)
    (he : starEach (e :: es) X.env = (false, eval e X.env) :: starEach es X.env := by rfl) (hpl : (backTo pos (starEach es X.env)).any (·.1) = false := by rfl) : PE X (.Call (.Name x p) (e :: es) [] pos) (tCB r t) := by
  intro pins s σ H Q I h
  refine wpAny_Call_Name_kw (gy I hg hm hv ?_ hn hdb)
  exact PyProof.Rows.callWith_type1 (thn (ha pos pins s σ H _ I h) fun us s1 ⟨vs, H1, I1, r1, q1⟩ => hc pins s1 σ H1 vs us Q I1 r1 q1) he hpl
end
end L2
namespace HT
open PySem PyProof.Rows
section
open PySem.SeqAt
open PySem.AutoSeq1 (wpAny_loadPart')
open PySem.MeetsSeq PySem.MeetsSeq2 PySem.MeetsSeq3
end
section
variable {prog : Program} {w : World} {A : Around} {E : Value → Shared → Prop} {s : Shared}
noncomputable def sIx (n d : Nat) : Option Int → Nat
  | none => d
  | some v => if v < 0 then (v + (n : Int)).toNat else min v.toNat n
theorem kR (n d : Nat) : sIx n d none = d := rfl
theorem gb (n d k : Nat) : sIx n d (some (k : Int)) = min k n := by
  show (if (k : Int) < 0 then ((k : Int) + (n : Int)).toNat else min (k : Int).toNat n) = min k n
  rw [if_neg (by omega), Int.toNat_natCast]
end
end HT
namespace L2
open PySem PySem.Spec PyProof.Rows
noncomputable abbrev TO := St → Hp → (Option Int → Hp → Prop) → Prop
noncomputable def PO (X : Cx) (e : Option Expr) (t : TO) : Prop :=
  ∀ (pins : List (Addr × Obj)) (s : Shared) (σ : St) (H : Hp) (Q : Option Int → Hp → Prop), Inv X pins σ H s → t σ H Q →
    wpAny (model X.prog X.w) X.A (evalPart e X.env) (fun u s' => ∃ o H', Inv X pins σ H' s' ∧ IsPart u o ∧ Q o H') X.xe s
noncomputable def AJ : TO := fun _ H Q => Q none H
noncomputable def Cv (t : TE) : TO := fun σ H Q => t σ H fun x H1 => ∃ i, x = .int i ∧ Q (some i) H1
section
variable {X : Cx} {e : Expr} {te : TE} {lo hi : Option Expr} {tl th : TO} {pos p2 : Pos}
theorem yc : PO X none AJ := by
  intro pins s σ H Q I h
  rw [evalPart_none]
  exact wpAny_pure ⟨none, H, I, .none, h⟩
theorem zQ (h : PE X e te) : PO X (some e) (Cv te) := by
  intro pins s σ H Q I hw
  rw [evalPart_some]
  refine thn (h pins s σ H _ I hw) fun u s1 ⟨x, H1, I1, r1, q1⟩ => ?_
  obtain ⟨i, rfl, q⟩ := q1
  obtain ⟨t, rfl⟩ := r1
  exact ⟨some i, H1, I1, .int i t, q⟩
noncomputable def SlR (X : Cx) (r : V → Option Int → Option Int → Hp → VK → Prop) : Prop :=
  ∀ (pins : List (Addr × Obj)) (s : Shared) (σ : St) (H : Hp) (x : V) (v vl vu : Value) (lo hi : Option Int) (sl : Addr) (Q : VK), Inv X pins σ H s → RelV x v → s.heap.IsSliceOf sl vl vu .none → IsPart vl lo → IsPart vu hi → r x lo hi H Q →
    ∃ T id, typeLookup (.type T) "__getitem__" = pure (some (.builtin id)) ∧ s.TypeIs v T ∧ wpAny (model X.prog X.w) X.A (getItem v (.ref sl)) (EP X pins σ Q) X.xe s
theorem SlR.or {r r' : V → Option Int → Option Int → Hp → VK → Prop} (h : SlR X r) (h' : SlR X r') : SlR X (fun x lo hi H Q => r x lo hi H Q ∨ r' x lo hi H Q) := by
  intro pins s σ H x v vl vu lo hi sl Q I rx hs pl pu q
  rcases q with q | q
  · exact h pins s σ H x v vl vu lo hi sl Q I rx hs pl pu q
  · exact h' pins s σ H x v vl vu lo hi sl Q I rx hs pl pu q
noncomputable def tSl (r : V → Option Int → Option Int → Hp → VK → Prop) (te : TE) (tl th : TO) : TE := fun σ H Q => te σ H fun x H1 => tl σ H1 fun l H2 => th σ H2 fun u H3 => r x l u H3 Q
theorem Bl {r : V → Option Int → Option Int → Hp → VK → Prop} (hr : SlR X r) (he : PE X e te) (hl : PO X lo tl) (hu : PO X hi th) : PE X (.Subscript e (.Slice lo hi none p2) pos) (tSl r te tl th) := by
  intro pins s σ H Q I h
  refine Subscript_ (thn (he pins s σ H _ I h) fun v s1 ⟨x, H1, I1, r1, q1⟩ => ?_)
  refine wpAny_Slice (thn (hl pins s1 σ H1 _ I1 q1) fun vl s2 ⟨l, H2, I2, pl, q2⟩ => thn (hu pins s2 σ H2 _ I2 q2) fun vu s3 ⟨u, H3, I3, pu, q3⟩ => ?_)
  rw [evalPart_none]
  refine wpAny_pure ?_
  have I4 : Inv X pins σ H3 { s3 with heap := s3.heap.push { cls := .type "slice", data := .fields #[vl, vu, .none] } } := I3.kept (t' := s3.toks) fun b ob q => Heap.get?_push_of_some _ q
  obtain ⟨T, id, hT, ht, hg⟩ := hr pins { s3 with heap := s3.heap.push { cls := .type "slice", data := .fields #[vl, vu, .none] } } σ H3 x v vl vu l u s3.heap.objs.size Q I4 r1 (Heap.IsSliceOf.new ..) pl pu q3
  show wpAny (model X.prog X.w) X.A (subscriptTail e (.Slice lo hi none p2) v (.ref s3.heap.objs.size)) (EP X pins σ Q) X.xe { s3 with heap := s3.heap.push { cls := .type "slice", data := .fields #[vl, vu, .none] } }
  exact tail_any (ops := [.ref s3.heap.objs.size, v]) ht hT hg (by with_unfolding_all rfl)
noncomputable def jL (xs : List V) (lo hi : Option Int) : List V := (xs.drop (HT.sIx xs.length 0 lo)).take (HT.sIx xs.length xs.length hi - HT.sIx xs.length 0 lo)
theorem Bt (xs : List V) (lo hi : Option Int) : (jL xs lo hi).length ≤ xs.length := by
  unfold jL
  rw [List.length_take, List.length_drop]
  omega
end
end L2
namespace L2
open PySem PySem.Spec PyProof.Rows
noncomputable def ixN (n : Nat) (i : Int) : Option Nat := if 0 ≤ i then (if i < n then some i.toNat else none) else if -(n : Int) ≤ i then some (i + n).toNat else none
noncomputable def atI {α : Type} (xs : List α) (i : Int) : Option α := (ixN xs.length i).bind fun j => xs[j]?
theorem Dm {n : Nat} {i : Int} {j : Nat} (h : ixN n i = some j) : seqIndex? i n = some j ∧ j < n ∧ -(n : Int) ≤ i ∧ i < n := by
  unfold ixN at h
  by_cases h0 : 0 ≤ i
  · rw [if_pos h0] at h
    by_cases h1 : i < n
    · rw [if_pos h1] at h
      have e : i.toNat = j := Option.some.inj h
      exact ⟨by rw [seqIndex_of h0 h1, e], by omega, by omega, h1⟩
    · rw [if_neg h1] at h; cases h
  · rw [if_neg h0] at h
    by_cases h1 : -(n : Int) ≤ i
    · rw [if_pos h1] at h
      have e : (i + n).toNat = j := Option.some.inj h
      exact ⟨by rw [seqIndex_neg (by omega) h1, e], by omega, h1, by omega⟩
    · rw [if_neg h1] at h; cases h
theorem nU {α : Type} {xs : List α} {i : Int} {v : α} (h : atI xs i = some v) : ∃ j, seqIndex? i xs.length = some j ∧ xs[j]? = some v ∧ j < xs.length ∧ -(xs.length : Int) ≤ i ∧ i < xs.length := by
  unfold atI at h
  cases e : ixN xs.length i with
  | none => rw [e] at h; cases h
  | some j =>
    rw [e] at h
    obtain ⟨h1, h2, h3, h4⟩ := Dm e
    exact ⟨j, h1, h, h2, h3, h4⟩
noncomputable def oV (b : Expr) : Prop := ∀ o i, subscripted b false o i = operate [o, i] (getItem o i)
noncomputable def IxR (X : Cx) (r : R2) : Prop :=
  ∀ (value slice : Expr) (pins : List (Addr × Obj)) (s : Shared) (σ : St) (H : Hp) (x y : V) (v u : Value) (Q : VK), Inv X pins σ H s → RelV x v → RelV y u → r x y H Q →
    subscripted slice false v u = operate [v, u] (getItem v u) → wpAny (model X.prog X.w) X.A (subscriptTail value slice v u) (EP X pins σ Q) X.xe s
noncomputable def MtR (X : Cx) (id : String) (r : V → List V → Hp → VK → Prop) : Prop :=
  ∀ (pins : List (Addr × Obj)) (s : Shared) (σ : St) (H : Hp) (x : V) (xs : List V) (v : Value) (us : List Value) (Q : VK), Inv X pins σ H s → RelV x v → Vals xs us → r x xs H Q →
    wpAny (model X.prog X.w) X.A (call (.builtin id) (v :: us)) (EP X pins σ Q) X.xe s
section
variable {X : Cx} {a b : Expr} {ta tb : TE} {pos : Pos}
theorem IxR.or {r r' : R2} (h : IxR X r) (h' : IxR X r') : IxR X (fun x y H Q => r x y H Q ∨ r' x y H Q) := by
  intro value slice pins s σ H x y v u Q I rx ry q hs
  rcases q with q | q
  · exact h value slice pins s σ H x y v u Q I rx ry q hs
  · exact h' value slice pins s σ H x y v u Q I rx ry q hs
theorem rd {r : R2} (hr : IxR X r) (ha : PE X a ta) (hb : PE X b tb) (hs : oV b) : PE X (.Subscript a b pos) (tOp r ta tb) := by
  intro pins s σ H Q I h
  exact Subscript_ (n9 ha hb I h fun v u s2 x y H2 I2 rx ry q => hr a b pins s2 σ H2 x y v u Q I2 rx ry q (hs _ _))
noncomputable def ug (K : PySem.W.Frag) : R2 := fun x y H Q => ∃ p xs i v, x = .ref p ∧ y = .int i ∧ SqL K H p xs ∧ atI xs i = some v ∧ Q v H
noncomputable def tK (K : PySem.W.Frag) : R2 := fun x y H Q => ∃ p xs i v, x = .ref p ∧ y = .int i ∧ SqT K H p xs ∧ atI xs i = some v ∧ Q v H
noncomputable def uR : R2 := fun x y H Q => ∃ z i c, x = .str z ∧ y = .int i ∧ z.length ≤ sizeLine ∧ atI z.cps.toList i = some c ∧ Q (.str ⟨#[c]⟩) H
theorem Bu : IxR X (ug X.K) := by
  intro value slice pins s σ H x y v u Q I rx ry h hs
  obtain ⟨p, xs, i, z, rfl, rfl, hq, he, q⟩ := h
  cases rx
  obtain ⟨t, rfl⟩ := ry
  obtain ⟨its, r, pl, hz⟩ := I.list hq
  obtain ⟨j, h1, h2, h3, h4, h5⟩ := nU he
  obtain ⟨w, ew, rw'⟩ := r.get h2
  have hl := r.length
  have hn := nC
  have fin : EP X pins σ Q w s := ⟨z, H, I, rw', q⟩
  by_cases h0 : 0 ≤ i
  · have hj : i.toNat = j := by
      rw [seqIndex_of h0 h5] at h1
      exact Option.some.inj h1
    exact item_listR pl.isList h0 (by omega) (by rw [hj]; simpa using ew) fin hs
  · have hj : (i + (its.toArray.size : Int)).toNat = j := by
      rw [seqIndex_neg (by omega) h4] at h1
      rw [List.size_toArray, ← hl]
      exact Option.some.inj h1
    exact subscriptTail_builtinR (x := w) pl.isList.typeIs slot_list_getitem.lookup
      (wpAny_getItem_list_neg (Q := fun r s' => r = w ∧ EP X pins σ Q r s') pl.isList (by omega) (by rw [List.size_toArray] <;> omega) (by omega) (by rw [hj]; simpa using ew) ⟨rfl, fin⟩) hs
theorem w8 : IxR X (tK X.K) := by
  intro value slice pins s σ H x y v u Q I rx ry h hs
  obtain ⟨p, xs, i, z, rfl, rfl, hq, he, q⟩ := h
  cases rx
  obtain ⟨t, rfl⟩ := ry
  obtain ⟨its, r, pl, hz⟩ := I.tuple hq
  obtain ⟨j, h1, h2, h3, h4, h5⟩ := nU he
  obtain ⟨w, ew, rw'⟩ := r.get h2
  have hl := r.length
  have hn := nC
  have fin : EP X pins σ Q w s := ⟨z, H, I, rw', q⟩
  exact subscriptTail_builtinR (x := w) pl.typeIs slot_tuple_getitem.lookup
    (getItem_tuple (j := j) (Q := fun r s' => r = w ∧ EP X pins σ Q r s') pl (by omega) (by omega) (by rw [List.size_toArray, ← hl]; exact h1) (by simpa using ew) ⟨rfl, fin⟩) hs
theorem Bw : IxR X uR := by
  intro value slice pins s σ H x y v u Q I rx ry h hs
  obtain ⟨z, i, c, rfl, rfl, hz, he, q⟩ := h
  obtain ⟨t, rfl⟩ := rx
  obtain ⟨t', rfl⟩ := ry
  obtain ⟨j, h1, h2, h3, h4, h5⟩ := nU he
  have hl : z.cps.toList.length = z.length := by simp [Str.length]
  rw [hl] at h1 h4 h5
  have hn := nC
  exact tail_any (typeIs_str s z t) slot_str_getitem.lookup (getItem_str (c := c) (by
    have e1 : decide (i < -(2 ^ 63 : Int)) = false := decide_eq_false (by omega)
    have e2 : decide (i ≥ 2 ^ 63) = false := decide_eq_false (by omega)
    rw [e1, e2, Bool.or_false]) (by rw [h1]; simpa using h2) ⟨.str ⟨#[c]⟩, H, I.tok _, ⟨_, rfl⟩, q⟩) hs
noncomputable def rIx (K : PySem.W.Frag) : R2 := fun x y H Q => ug K x y H Q ∨ tK K x y H Q ∨ uR x y H Q
theorem Ad : IxR X (rIx X.K) := Bu.or (w8.or Bw)
theorem Inv.lst {pins : List (Addr × Obj)} {σ : St} {H : Hp} {s : Shared} {p : Addr} {xs : List V} (I : Inv X pins σ H s) (h : H p = some (.lst xs)) :
    ∃ (its : List Value) (n : Nat), Vals xs its ∧ s.heap.get? p = some { cls := .type "list", data := .seq its.toArray n } ∧ xs.length ≤ sizeLine := by
  obtain ⟨z, its, n, r, e⟩ := I.hok p _ h
  exact ⟨its, n, r, e, z⟩
theorem BF (lo hi : Option Int) (n : Nat) : (sliceBounds lo hi none n).1 = ((HT.sIx n 0 lo : Nat) : Int) ∧ (sliceBounds lo hi none n).2.1 = ((HT.sIx n n hi : Nat) : Int) ∧ (sliceBounds lo hi none n).2.2 = 1 := by
  refine ⟨?_, ?_, rfl⟩
  · cases lo with
    | none => simp [sliceBounds, HT.sIx]
    | some i =>
      simp only [sliceBounds, HT.sIx, Option.getD_none, show (1 : Int) > 0 by decide, if_true]
      by_cases h : i < 0
      · simp only [h, if_true] <;> omega
      · simp only [h, if_false] <;> omega
  · cases hi with
    | none => simp [sliceBounds, HT.sIx]
    | some i =>
      simp only [sliceBounds, HT.sIx, Option.getD_none, show (1 : Int) > 0 by decide, if_true]
      by_cases h : i < 0
      · simp only [h, if_true] <;> omega
      · simp only [h, if_false] <;> omega
theorem xo (its : List Value) (lo hi : Option Int) : slicePick its.toArray lo hi none = ((its.drop (HT.sIx its.length 0 lo)).take (HT.sIx its.length its.length hi - HT.sIx its.length 0 lo)).toArray := by
  obtain ⟨h1, h2, h3⟩ := BF lo hi its.toArray.size
  unfold slicePick
  rw [h1, h2, h3]
  simp only [sliceRange_one, pick_run, List.size_toArray] <;> rfl
noncomputable def yr (K : PySem.W.Frag) : V → Option Int → Option Int → Hp → VK → Prop := fun x lo hi H Q => ∃ a xs, x = .ref a ∧ SqL K H a xs ∧ ∀ p, H p = none → Q (.ref p) (upd H p (.lst (jL xs lo hi)))
theorem AM : SlR X (yr X.K) := by
  intro pins s σ H x v vl vu lo hi sl Q I rx hs pl pu h
  obtain ⟨a, xs, rfl, hx, q⟩ := h
  cases rx
  obtain ⟨its, r, ht, hz⟩ := I.list hx
  have hlen := r.length
  refine ⟨"list", _, slot_list_getitem.lookup, ht.isList.typeIs, ?_⟩
  refine wpAny_getItem_list_slice ht.isList hs pl pu .none (by simp) ?_ (by rw [List.size_toArray] <;> omega)
  rw [xo, ← hlen]
  refine ⟨.ref s.heap.objs.size, _, I.laid (t' := s.toks) (o := .lst (jL xs lo hi)) (fun b ob q => Heap.get?_push_of_some _ q) (Nat.le_refl _) ?_, rfl, q _ (I.hok.fresh (Nat.le_refl _))⟩
  exact ⟨Nat.le_trans (Bt xs lo hi) hz, _, 0, (r.drop (HT.sIx xs.length 0 lo)).take (HT.sIx xs.length xs.length hi - HT.sIx xs.length 0 lo), Heap.get?_push_size _ rfl⟩
noncomputable def fO : V → Bool
  | .non => true
  | .bl _ => true
  | .int _ => true
  | .str _ => true
  | _ => false
noncomputable def eqV : V → V → Bool
  | .non, .non => true
  | .bl a, .bl b => a == b
  | .bl a, .int b => (if a then 1 else 0) == b
  | .int a, .bl b => a == (if b then 1 else 0)
  | .int a, .int b => a == b
  | .str a, .str b => a == b
  | _, _ => false
theorem yx {A : Around} {s : Shared} {y x : V} {u v : Value} (ry : RelV y u) (rx : RelV x v) (fy : fO y = true) (fx : fO x = true) : SeqAt.EqAt A s u v (eqV y x) := by
  cases y with
  | non =>
    cases ry
    cases x with
    | non => cases rx; exact SeqAt.EqAt.same _
    | bl b => cases rx; exact SeqAt.EqAt.none_bool b
    | int b => obtain ⟨t, rfl⟩ := rx; exact SeqAt.EqAt.none_int b t
    | str b => obtain ⟨t, rfl⟩ := rx; exact SeqAt.EqAt.none_str b t
    | _ => exact absurd (show false = true from fx) Bool.false_ne_true
  | bl a =>
    cases ry
    cases x with
    | non => cases rx; exact SeqAt.EqAt.bool_none a
    | bl b => cases rx; exact SeqAt.EqAt.bool_bool a b
    | int b => obtain ⟨t, rfl⟩ := rx; exact SeqAt.EqAt.bool_int a b t
    | str b => obtain ⟨t, rfl⟩ := rx; exact SeqAt.EqAt.bool_str a b t
    | _ => exact absurd (show false = true from fx) Bool.false_ne_true
  | int a =>
    obtain ⟨t', rfl⟩ := ry
    cases x with
    | non => cases rx; exact SeqAt.EqAt.int_none a t'
    | bl b => cases rx; exact SeqAt.EqAt.int_bool a t' b
    | int b => obtain ⟨t, rfl⟩ := rx; exact SeqAt.EqAt.int_int a t' b t
    | str b => obtain ⟨t, rfl⟩ := rx; exact SeqAt.EqAt.int_str a t' b t
    | _ => exact absurd (show false = true from fx) Bool.false_ne_true
  | str a =>
    obtain ⟨t', rfl⟩ := ry
    cases x with
    | non => cases rx; exact SeqAt.EqAt.str_none a t'
    | bl b => cases rx; exact SeqAt.EqAt.str_bool a t' b
    | int b => obtain ⟨t, rfl⟩ := rx; exact SeqAt.EqAt.str_int a t' b t
    | str b => obtain ⟨t, rfl⟩ := rx; exact SeqAt.EqAt.str_str a t' b t
    | _ => exact absurd (show false = true from fx) Bool.false_ne_true
  | _ => exact absurd (show false = true from fy) Bool.false_ne_true
noncomputable def eqU (x : V) (u : Value) : Bool := match u with
  | .none => eqV .non x
  | .bool b => eqV (.bl b) x
  | .int i _ => eqV (.int i) x
  | .str z _ => eqV (.str z) x
  | _ => false
theorem qR {x y : V} {u : Value} (r : RelV y u) (f : fO y = true) : eqU x u = eqV y x := by
  cases y with
  | non => cases r; rfl
  | bl b => cases r; rfl
  | int i => obtain ⟨t, rfl⟩ := r; rfl
  | str z => obtain ⟨t, rfl⟩ := r; rfl
  | _ => exact absurd (show false = true from f) Bool.false_ne_true
theorem oB {x : V} : ∀ {xs : List V} {us : List Value}, Vals xs us → xs.all fO = true → us.any (eqU x) = xs.any fun y => eqV y x
  | _, _, .nil, _ => rfl
  | y :: xs, u :: us, .cons r t, f => by
    rw [List.all_cons, Bool.and_eq_true] at f
    rw [List.any_cons, List.any_cons, qR r f.1, oB t f.2]
theorem pC {A : Around} {s : Shared} {x : V} {v : Value} (rx : RelV x v) (fx : fO x = true) : ∀ {xs : List V} {us : List Value}, Vals xs us → xs.all fO = true → ∀ u ∈ us, SeqAt.EqAt A s u v (eqU x u)
  | _, _, .nil, _ => fun u hu => by cases hu
  | y :: xs, u :: us, .cons r t, f => fun u' hu => by
    rw [List.all_cons, Bool.and_eq_true] at f
    rcases List.mem_cons.mp hu with rfl | hu
    · rw [qR r f.1]; exact yx r rx f.1 fx
    · exact pC rx fx t f.2 u' hu
noncomputable def inV (x : V) (xs : List V) : Bool := xs.any fun y => eqV y x
noncomputable def rIn (K : PySem.W.Frag) (neg : Bool) : R2 := fun x y H Q => ∃ p xs, y = .ref p ∧ (SqL K H p xs ∨ SqT K H p xs) ∧ fO x = true ∧ xs.all fO = true ∧ Q (.bl (if neg then !inV x xs else inV x xs)) H
theorem xP : OpR X (compareOp .In) (rIn X.K false) := by
  intro pins s σ H x y v u Q I rx ry h
  obtain ⟨p, xs, rfl, hq, fx, fs, q⟩ := h
  cases ry
  rcases hq with hq | hq
  · obtain ⟨its, r, pl, hz⟩ := I.list hq
    refine SeqAt.in_listAt (eqU x) pl.isList (fun w hw => pC rx fx r fs w (by simpa using hw)) ⟨.bl _, H, I, rfl, ?_⟩
    rw [show its.toArray.any (eqU x) = its.any (eqU x) by simp, oB r fs]
    exact q
  · obtain ⟨its, r, pl, hz⟩ := I.tuple hq
    refine SeqAt.in_tupleAt (eqU x) pl (fun w hw => pC rx fx r fs w (by simpa using hw)) ⟨.bl _, H, I, rfl, ?_⟩
    rw [show its.toArray.any (eqU x) = its.any (eqU x) by simp, oB r fs]
    exact q
theorem yh : eA X (.type "list") (fun xs H Q => ∃ p ys, xs = [.ref p] ∧ (SqL X.K H p ys ∨ SqT X.K H p ys) ∧ ∀ l, H l = none → Q (.ref l) (upd H l (.lst ys))) := by
  intro pins s σ H xs us Q I r h
  obtain ⟨p, ys, rfl, hq, q⟩ := h
  obtain ⟨u, rfl, rx⟩ := vals1 r
  cases rx
  have fin : ∀ (its : List Value), Vals ys its → ys.length ≤ sizeLine → ∀ (h' : Heap) (c' : Nat), (∀ b o', s.heap.get? b = some o' → h'.get? b = some o') →
      h'.get? s.heap.objs.size = some { cls := .type "list", dict := none, data := .seq its.toArray c', slots := #[] } → EP X pins σ Q (.ref s.heap.objs.size) { s with heap := h' } := fun its r' hz h' c' kp e =>
    ⟨.ref s.heap.objs.size, _, I.laid (t' := s.toks) kp (Nat.le_refl _) (show cA X.prog X.w _ h' _ (.lst ys) from ⟨hz, its, c', r', e⟩), rfl, q _ (I.hok.fresh (Nat.le_refl _))⟩
  rcases hq with hq | hq
  · obtain ⟨its, r', pl, hz⟩ := I.list hq
    have hlen := r'.length
    obtain ⟨o, ho, hc, n, hd⟩ := pl.isList
    exact call_list_seq p (.inl rfl) ho hc hd (fun h' c' kp e => fin its r' hz h' c' kp e) (by simp only [List.size_toArray] <;> omega)
  · obtain ⟨its, r', pl, hz⟩ := I.tuple hq
    have hlen := r'.length
    obtain ⟨o, ho, hc, n, hd⟩ := pl
    exact call_list_seq p (.inr rfl) ho hc hd (fun h' c' kp e => fin its r' hz h' c' kp e) (by simp only [List.size_toArray] <;> omega)
theorem wZ : eA X (.type "tuple") (fun xs H Q => ∃ p ys, xs = [.ref p] ∧ ((SqL X.K H p ys ∧ ∀ l, H l = none → Q (.ref l) (upd H l (.tup ys))) ∨ (SqT X.K H p ys ∧ Q (.ref p) H))) := by
  intro pins s σ H xs us Q I r h
  obtain ⟨p, ys, rfl, h⟩ := h
  obtain ⟨u, rfl, rx⟩ := vals1 r
  cases rx
  rcases h with ⟨hq, q⟩ | ⟨hq, q⟩
  · obtain ⟨its, r', pl, hz⟩ := I.list hq
    have hlen := r'.length
    refine call_tuple_list pl.isList (fun h' kp => ?_) (by simp only [List.size_toArray] <;> omega)
    have I1 : Inv X pins σ H { s with heap := h' } := I.kept (t' := s.toks) kp
    have I2 : Inv X pins σ (upd H h'.objs.size (.tup ys)) { s with heap := h'.push { cls := .type "tuple", data := .seq its.toArray } } :=
      I1.laid (t' := s.toks) (fun b o e => Heap.get?_push_of_some _ e) (Nat.le_refl _) (show cA X.prog X.w _ _ _ (.tup ys) from ⟨hz, its, r', IsTup.new _ _⟩)
    exact ⟨.ref h'.objs.size, _, I2, rfl, q _ (I1.hok.fresh (Nat.le_refl _))⟩
  · obtain ⟨its, r', pl, hz⟩ := I.tuple hq
    exact call_tuple_same pl ⟨.ref p, H, I, rfl, q⟩
noncomputable def tyV (K : PySem.W.Frag) (T : String) (x : V) (H : Hp) : Prop := match x with
  | .str _ => T = "str"
  | .int _ => T = "int"
  | .ref p => (T = "list" ∧ ∃ xs, SqL K H p xs) ∨ (T = "tuple" ∧ ∃ o, K.lookup p = some o ∧ o.cls = .type "tuple" ∧ o.dict = none) ∨
      (T = "dict" ∧ ((∃ kvs, H p = some (.dK kvs)) ∨ ∃ kvs, H p = some (.dT kvs))) ∨ (T = "set" ∧ ∃ S n, H p = some (.set S n))
  | _ => False
theorem rP {pins : List (Addr × Obj)} {σ : St} {H : Hp} {s : Shared} {T : String} {x : V} {v : Value} (I : Inv X pins σ H s) (r : RelV x v) (ty : tyV X.K T x H) :
    s.TypeIs v T ∧ ∀ a, v = .ref a → ∃ ob, s.heap.get? a = some ob ∧ ob.dict = none := by
  cases x with
  | str z =>
    obtain ⟨t, rfl⟩ := r
    cases (show T = "str" from ty)
    exact ⟨typeIs_str s z t, fun _ e => nomatch e⟩
  | int i =>
    obtain ⟨t, rfl⟩ := r
    cases (show T = "int" from ty)
    exact ⟨typeIs_int s i t, fun _ e => nomatch e⟩
  | ref p =>
    cases r
    rcases ty with ⟨rfl, xs, hq⟩ | ⟨rfl, o, hk, hc, hd⟩ | ⟨rfl, hk⟩ | ⟨rfl, S, n, hk⟩
    · obtain ⟨its, _, pl, _⟩ := I.list hq
      refine ⟨pl.isList.typeIs, fun a e => ?_⟩
      cases e
      obtain ⟨o, n, e, c, hd, _⟩ := pl
      exact ⟨o, e, hd⟩
    · refine ⟨⟨o, I.kIn p o hk, hc⟩, fun a e => ?_⟩
      cases e
      exact ⟨o, I.kIn _ o hk, hd⟩
    · have z : ∃ o, s.heap.get? p = some o ∧ o.ExactDict := by
        rcases hk with ⟨kvs, hk⟩ | ⟨kvs, hk⟩
        · obtain ⟨_, _, _, _, o, _, _, e, ex, _⟩ := I.hok p _ hk
          exact ⟨o, e, ex⟩
        · obtain ⟨_, _, _, _, o, _, _, e, ex, _⟩ := I.hok p _ hk
          exact ⟨o, e, ex⟩
      obtain ⟨o, e, ex⟩ := z
      refine ⟨⟨o, e, ex.1⟩, fun a e2 => ?_⟩
      cases e2
      exact ⟨o, e, ex.2.1⟩
    · obtain ⟨o, _, _, _, e, ex, _⟩ := I.hok p _ hk
      refine ⟨⟨o, e, ex.1⟩, fun a e2 => ?_⟩
      cases e2
      exact ⟨o, e, ex.2.1⟩
  | _ => exact False.elim ty
noncomputable def xV (K : PySem.W.Frag) (T : String) (r : V → List V → Hp → VK → Prop) (to : TE) : TE := fun σ H Q => to σ H fun x H1 => tyV K T x H1 ∧ r x [] H1 Q
noncomputable def tBM (K : PySem.W.Frag) (T : String) (r : V → List V → Hp → VK → Prop) (to : TE) (t : TA) : TE := fun σ H Q => to σ H fun x H1 => tyV K T x H1 ∧ t σ H1 fun xs H2 => r x xs H2 Q
variable {o e : Expr} {es : List Expr} {to : TE} {t : TA} {name : Str} {apos cpos : Pos} {T id : String} {r : V → List V → Hp → VK → Prop}
theorem zt (pa : PlainAttrs T) (slot : Slot T name id) (hty : typeOf (.builtin id) = pure (.type "method_descriptor")) (hm : MtR X id r) (ho : PE X o to)
    (hbase : attributeBase o name X.env (eval o X.env) = eval o X.env := by rfl) (hline : (apos.endLine == cpos.line) = true := by rfl) : PE X (.Call (.Attribute o name apos) [] [] cpos) (xV X.K T r to) := by
  intro pins s σ H Q I h
  refine wpAny_Call_method0_late hbase hline (thn (ho pins s σ H _ I h) fun v s1 ⟨x, H1, I1, r1, ty, q1⟩ => ?_)
  obtain ⟨h1, h2⟩ := rP I1 r1 ty
  exact ⟨T, id, pa, slot, hty, h1, h2, Calls.callWith_builtin rfl (PySem.evalArgs_none (hm pins s1 σ H1 x [] v [] Q I1 r1 .nil q1))⟩
theorem pk (pa : PlainAttrs T) (slot : Slot T name id) (hty : typeOf (.builtin id) = pure (.type "method_descriptor")) (hm : MtR X id r) (ho : PE X o to) (ha : PA X (e :: es) t)
    (hbase : attributeBase o name X.env (eval o X.env) = eval o X.env := by rfl)
    (hfew : ((backTo cpos (starEach (e :: es) X.env)).all (fun x => !x.1) && (backToKw cpos (keywordEach [] X.env)).all (fun x => x.1.isSome)
      && decide ((e :: es).length + ([] : List Keyword).length + (if ([] : List Keyword).isEmpty then 0 else 1) < 30)) = true := by rfl)
    (hline : (apos.endLine == cpos.line) = true := by rfl) (hs : starEach (e :: es) X.env = (false, eval e X.env) :: starEach es X.env := by rfl) (hplain : (backTo cpos (starEach es X.env)).any (·.1) = false := by rfl) :
    PE X (.Call (.Attribute o name apos) (e :: es) [] cpos) (tBM X.K T r to t) := by
  intro pins s σ H Q I h
  refine wpAny_Call_method_late hbase hfew hline rfl (thn (ho pins s σ H _ I h) fun v s1 ⟨x, H1, I1, r1, ty, q1⟩ => ?_)
  obtain ⟨h1, h2⟩ := rP I1 r1 ty
  refine ⟨T, id, pa, slot, hty, h1, h2, ?_⟩
  have hA := ha cpos pins s1 σ H1 _ I1 q1
  rw [hs] at hA ⊢
  refine Calls.callWith_builtin (by show (false || (backTo cpos (starEach es X.env)).any (·.1)) = false; rw [hplain] <;> rfl) (Calls.evalArgs_plain ?_)
  exact thn hA fun us s2 ⟨vs, H2, I2, r2, q2⟩ => hm pins s2 σ H2 x vs v us Q I2 r1 r2 q2
end
end L2
namespace L2
open PySem PySem.Spec PyProof.Rows
noncomputable def MtM (X : Cx) (id : String) (r : V → List V → Hp → VK → Prop) : Prop :=
  ∀ (pins : List (Addr × Obj)) (s : Shared) (σ : St) (H : Hp) (x : V) (xs : List V) (v : Value) (us : List Value) (Q : VK), Inv X pins σ H s → RelV x v → Vals xs us → r x xs H Q →
    wpAny (model X.prog X.w) X.A (call (.builtin id) (v :: us)) (EP X pins σ Q) X.xe s
theorem Vals.one : ∀ {x : V} {us : List Value}, Vals [x] us → ∃ u, us = [u] ∧ RelV x u
  | _, _, .cons r .nil => ⟨_, rfl, r⟩
theorem Vals.zero : ∀ {us : List Value}, Vals [] us → us = []
  | _, .nil => rfl
theorem Vals.reverse {xs : List V} {us : List Value} (h : Vals xs us) : Vals xs.reverse us.reverse := by
  induction h with
  | nil => exact .nil
  | cons r t ih => rw [List.reverse_cons, List.reverse_cons]; exact Vals.append ih (.cons r .nil)
theorem Vals.rep {xs : List V} {us : List Value} (h : Vals xs us) : ∀ k : Nat, Vals (List.replicate k xs).flatten (List.replicate k us).flatten
  | 0 => .nil
  | k + 1 => by
    rw [List.replicate_succ, List.replicate_succ, List.flatten_cons, List.flatten_cons]
    exact Vals.append h (Vals.rep h k)
theorem foldl_rep (its : List Value) : ∀ (k : Nat) (acc : List Value),
    List.foldl (fun x1 x2 => x1 ++ x2) acc.toArray (List.replicate k its.toArray) = (acc ++ (List.replicate k its).flatten).toArray
  | 0, acc => by simp
  | k + 1, acc => by
    have e : acc.toArray ++ its.toArray = (acc ++ its).toArray := by simp
    have e2 : (acc ++ its) ++ (List.replicate k its).flatten = acc ++ (List.replicate (k + 1) its).flatten := by
      rw [List.replicate_succ, List.flatten_cons, List.append_assoc]
    rw [← e2, ← foldl_rep its k (acc ++ its), ← e, List.replicate_succ, List.foldl_cons]
section
variable {X : Cx} {pins : List (Addr × Obj)} {σ : St} {H : Hp} {s : Shared} {l b : Addr} {xs ys zs : List V}
theorem Inv.lset {its its' : List Value} {n : Nat} {f : Array Value → Array Value} {t' : Nat} (I : Inv X pins σ H s) (hH : H l = some (.lst xs))
    (e : s.heap.get? l = some { cls := .type "list", data := .seq its.toArray n }) (hf : f its.toArray = its'.toArray) (hv : Vals ys its') (hz : ys.length ≤ sizeLine) :
    Inv X pins σ (upd H l (.lst ys)) { s with heap := s.heap.update l (Obj.mapSeq f), toks := t' } := by
  have q := PySem.IsL.update e f
  rw [hf] at q
  refine I.write (x := l) (e := l) (by rw [hH]; exact trivial) (.inl rfl) (fun b' u hb hu => (Heap.get?_update_other s.heap (Obj.mapSeq f) (Ne.symm hb)).trans hu) ⟨_, q⟩ ?_
  exact ⟨hz, its', _, hv, q⟩
theorem Inv.lnew {its : List Value} {t' : Nat} (I : Inv X pins σ H s) (hv : Vals ys its) (hz : ys.length ≤ sizeLine) :
    Inv X pins σ (upd H s.heap.objs.size (.lst ys)) { s with heap := s.heap.push { cls := .type "list", data := .seq its.toArray }, toks := t' } :=
  I.laid (fun _ _ q => Heap.get?_push_of_some _ q) (Nat.le_refl _) ⟨hz, its, 0, hv, Heap.get?_push_size _ rfl⟩
theorem Inv.fresh (I : Inv X pins σ H s) : H s.heap.objs.size = none := I.hok.fresh (Nat.le_refl _)
theorem Inv.lstM (I : Inv X pins σ H s) (hH : H l = some (.lst xs)) : xs.length ≤ sizeLine ∧ ∃ (its : List Value) (n : Nat), Vals xs its ∧ xs.length = its.length ∧ s.heap.get? l = some { cls := .type "list", data := .seq its.toArray n } := by
  obtain ⟨z, its, n, r, e⟩ := I.hok l _ hH
  exact ⟨z, its, n, r, r.length, e⟩
theorem tG {n : Nat} (h : n ≤ sizeLine) : Builtin.List.listTooLong n = false := by
  unfold Builtin.List.listTooLong
  exact decide_eq_false (by omega)
end
section
variable {X : Cx}
noncomputable def zW : V → List V → Hp → VK → Prop := fun x vs H Q => ∃ l xs y, x = .ref l ∧ vs = [y] ∧ H l = some (.lst xs) ∧ xs.length < sizeLine ∧ Q .non (upd H l (.lst (xs ++ [y])))
theorem sS : MtM X "list.append" zW := by
  intro pins s σ H x vs v us Q I rx rv h
  obtain ⟨l, xs, y, rfl, rfl, hH, hz, q⟩ := h
  cases rx
  obtain ⟨u, rfl, ru⟩ := rv.one
  obtain ⟨z, its, n, r, hl, e⟩ := I.lstM hH
  refine call_meets F.slot_list_append ⟨_, e, rfl⟩ F.entry_list_append (F.args_list_append_2 _ _) (PySem.list_append l its.toArray n u (by rw [List.size_toArray]; omega)) ⟨e, ?_⟩
  refine ⟨.non, _, I.lset (its' := its ++ [u]) hH e (by simp) (r.append (.cons ru .nil)) ?_, rfl, q⟩
  rw [List.length_append, List.length_singleton]
  omega
noncomputable def yJ : V → List V → Hp → VK → Prop := fun x vs H Q => ∃ l xs, x = .ref l ∧ vs = [] ∧ H l = some (.lst xs) ∧ Q .non (upd H l (.lst xs.reverse))
theorem ya : MtM X "list.reverse" yJ := by
  intro pins s σ H x vs v us Q I rx rv h
  obtain ⟨l, xs, rfl, rfl, hH, q⟩ := h
  cases rx
  have hus := rv.zero
  subst hus
  obtain ⟨z, its, n, r, hl, e⟩ := I.lstM hH
  refine call_meets F.slot_list_reverse ⟨_, e, rfl⟩ F.entry_list_reverse (F.args_list_reverse_1 _) (AutoSeq1.list_reverse_list_0 l its.toArray n (by rw [List.size_toArray]; omega)) ⟨e, ?_⟩
  refine ⟨.non, _, I.lset (its' := its.reverse) hH e (by simp) r.reverse ?_, rfl, q⟩
  rw [List.length_reverse]
  omega
theorem len_rep {α : Type} (xs : List α) (k : Nat) : (List.replicate k xs).flatten.length = k * xs.length := by
  induction k with
  | zero => simp
  | succ k ih => rw [List.replicate_succ, List.flatten_cons, List.length_append, ih, Nat.succ_mul, Nat.add_comm]
end
section
variable {prog : Program} {w : World} {A : Around} {E : Value → Shared → Prop} {s : Shared}
end
section
variable {X : Cx}
end
end L2
namespace Att
open PySem PySem.W PySem.Calls PyProof.Rows
theorem xx {P : Params} {h : Heap} : ∀ (ns : List Int) (vs : List Value), WellAll P h vs (ns.map WData.int) → IntsAre vs ns := by
  intro ns
  induction ns with
  | nil =>
    intro vs w
    rw [List.map_nil] at w
    cases w
    exact .nil
  | cons n ns ih =>
    intro vs w
    rw [List.map_cons] at w
    cases w with
    | cons a b =>
      cases a
      exact .cons _ _ (ih _ b)
theorem Ap {l : OpenLaw} {n : Nat} (hn : l.most = some n) {P : Params} {h : Heap} {args : List WData} {vals : List Value}
    (hpre : l.row.toRowW.claim.pre args = true) (hwl : WellAll P h vals args) :
    ∃ a vs ns, vals = [Value.ref a] ∧ args = [WData.list (ns.map WData.int)] ∧ h.get? a = some { cls := .type "list", data := .seq vs.toArray } ∧ IntsAre vs ns ∧ ns.length ≤ n := by
  have hsh : WShape.hasAll [] args [.list .int] = true := (pre_splitW hpre).1
  have hc : l.pre.holds [] { args := args } = true := (pre_splitW hpre).2
  obtain ⟨d, r, rfl, h1, h2⟩ := hasAllW_cons hsh
  obtain rfl := hasAllW_nil h2
  obtain ⟨xs, rfl, h3⟩ := hasW_list h1
  obtain ⟨ns, rfl⟩ := items_int h3
  have hlen : ns.length ≤ n := by
    unfold OpenLaw.pre at hc
    have h4 : (WTm.not (.lt (.lit (.int (n : Int))) (.len (.arg 0)))).holds [] { args := [.list (ns.map .int)] } = true := by
      have h4 := (holds_andW hc).1
      rw [hn] at h4
      exact h4
    have h5 := condW_of h4 (w_not (w_lt w_lit (w_len_list (w_arg rfl))))
    rw [List.length_map] at h5
    refine Nat.le_of_not_lt fun q => ?_
    have q' : (n : Int) < ((ns.length : Nat) : Int) := by omega
    first
      | (rw [decide_eq_true q'] at h5; exact absurd h5 (by decide))
      | (simp at h5; omega)
  cases hwl with
  | cons w1 w2 =>
    cases w2
    cases w1 with
    | list ho hall => exact ⟨_, _, ns, rfl, rfl, ho, xx ns _ hall, hlen⟩
theorem AZ (l : OpenLaw) (args : List WData) : l.row.toRowW.claim.post args (.bool true) args = true :=
  postW_of (r := l.row.toRowW) (X := (true == true))
    (show WShape.has [] (.bool true) .bool = true by first | rfl | decide | simp [WShape.has, WShape.arms, WShape.armsAll])
    (show (WTm.eq .res (.lit (.bool true))).value [] { args := args, res := some (.bool true), after := args } = some (.bool (true == true)) from w_eq_bool (w_res rfl) w_lit) rfl
theorem x9 {l : OpenLaw} {n : Nat} {q : Program} {loose : List Str} {XP : (Str → Option Value) → Heap → Prop} {YP : World → Heap → Prop} {d : DefRec}
    (hn : l.most = some n) (hdf : d.params.defaults = [])
    (call : ∀ (w : World) (s₀ s₁ : Shared) (mg mb : Str → Option Value) (fa : Addr) (o : Obj) (pm cd doc : Value) (a : Addr) (vs : List Value) (ns : List Int),
      Ground q loose [] XP w s₀ mg mb s₁.heap → YP w s₁.heap →
      s₁.heap.get? fa = some o → o.data = .func (docDef d.name d.params d.body d.scope pm cd doc) → s₁.heap.CodeRec cd d.name → mg d.name = some (.ref fa) →
      s₁.heap.get? a = some { cls := .type "list", data := .seq vs.toArray } → IntsAre vs ns → ns.length ≤ n → s₁.gens = #[] →
      codeAny (model l.prog w) callerA (.call (.ref fa) ⟨[.ref a], []⟩) (fun r s' => r = .ok (.ret (.bool true)) ∧ OldK s₁.heap s'.heap ∧ s'.os = s₁.os ∧ AllBare s'.gens) s₁) :
    WalkO q loose XP YP l.row.toRowW d [] (fun f vs => PySem.call f vs) := by
  intro w s₀ s₁ mg mb G Y fa o pm cd doc dV kV ho hd hcd hD hmg hg args vals as hpre hlay hrd hwl hlo
  obtain rfl : dV = .none := Dflts.none hD hdf
  obtain rfl : kV = .none := Dflts.noKw hD
  obtain ⟨a, vs, ns, rfl, rfl, hobj, hints, hlen⟩ := Ap hn hpre hwl
  refine enter_call (codeAny_mono (call w s₀ s₁ mg mb fa o pm cd doc a vs ns G Y ho (fd_plain hd) hcd hmg hobj hints hlen hg) fun r s' hq => ?_)
  obtain ⟨rfl, h2, h3, h4⟩ := hq
  exact ⟨.inl ⟨.bool true, .bool true, [], rfl, fun _ => rfl, .bool true, AZ l _, fun _ => ⟨List.Pairwise.nil, fun _ hm => (nomatch hm)⟩⟩, h2, h3, h4⟩
section
variable {prog : Program} {w : World} {A : Around} {E : Value → Shared → Prop} {s : Shared} {K : Frag}
end
end Att
namespace L2
open PySem PySem.Spec PyProof.Rows
theorem vd : ∀ {vs : List Value} {ns : List Int}, IntsAre vs ns → Vals (ns.map V.int) vs
  | _, _, .nil => .nil
  | _, _, .cons n t h => .cons ⟨t, rfl⟩ (vd h)
noncomputable def nq (H : Hp) : Prop := ∀ b, H b = none ∨ ∃ o xs, H b = some (.frz o (.lst xs))
theorem zG {P : Program} {w : World} {K : PySem.W.Frag} {mg mb : Str → Option Value} {CX : CXT} {k : Nat} {fa a : Addr} {fd : FuncData} {x : Str} {sp : Sp} {s₁ : Shared} {vs : List Value} {ns : List Int}
    (KX : K.In s₁.heap) (hns : s₁.heap.Ns mainGlobals mg) (hb : s₁.heap.Ns builtinsNs mb) (hbb : ∀ x : Str, x ≠ "__name__" → mb x = bootBuiltins x) (hlim : s₁.heap.NoLimit) (hg : s₁.gens = #[])
    (ha : s₁.heap.get? a = some { cls := .type "list", data := .seq vs.toArray }) (hi : IntsAre vs ns) (hl : ns.length ≤ sizeLine) (hr : bN k callerA)
    (F : ∀ base : Heap, K.In base → base.Ns mainGlobals mg → aW P w K mg base CX k fa fd [x] sp) (hbind : ∀ (s : Shared) (u : Value), BindsTo s fd ⟨[u], []⟩ [(x, u)])
    (hsp : ∀ H : Hp, nq H → SqL K H a (ns.map V.int) → sp [.ref a] H (fun v _ => v = .bl true) fun _ _ _ => False)
    (hCX : ∀ H e s', CX [] H s₁ (fun _ _ _ => False) e s' → False) :
    codeAny (model P w) callerA (.call (.ref fa) ⟨[.ref a], []⟩) (fun r s' => r = .ok (.ret (.bool true)) ∧ OldK s₁.heap s'.heap ∧ s'.os = s₁.os ∧ AllBare s'.gens) s₁ := by
  have rv := vd hi
  have lenV := hi.length
  have core : ∀ H : Hp, nq H → SqL K H a (ns.map V.int) → HOk P w H s₁.heap → (∀ b, H b ≠ none → b = a) → (H a ≠ none → K.lookup a = none) →
      codeAny (model P w) callerA (.call (.ref fa) ⟨[.ref a], []⟩) (fun r s' => r = .ok (.ret (.bool true)) ∧ OldK s₁.heap s'.heap ∧ s'.os = s₁.os ∧ AllBare s'.gens) s₁ := by
    intro H hO hS hok hA hK
    have base_of : ∀ {b : Addr} {o : Obj}, s₁.heap.get? b = some o → H b = none → (fV s₁.heap H).get? b = some o := fun e n => C1 e n
    have noA : ∀ {b : Addr} {o : Obj} {es : Array DictEntry} {ep : Nat}, s₁.heap.get? b = some o → o.data = .dict es ep → H b = none := fun {b o es ep} e d => by
      cases q : H b with
      | none => rfl
      | some u =>
        have e' : b = a := hA b (by rw [q]; simp)
        subst e'
        rw [ha] at e; cases e
        have d' : Data.seq vs.toArray _ = Data.dict es ep := d
        cases d'
    have nsK : ∀ {b : Addr} {m : Str → Option Value}, s₁.heap.Ns b m → (fV s₁.heap H).Ns b m := fun {b m} ⟨o, es, ep, e, d, r⟩ => ⟨o, es, ep, base_of e (noA e d), d, r⟩
    have hKb : K.In (fV s₁.heap H) := fun b o e => base_of (KX b o e) (by
      cases q : H b with
      | none => rfl
      | some u =>
        have e' : b = a := hA b (by rw [q]; simp)
        subst e'
        rw [hK (by rw [q]; simp)] at e; cases e)
    have hM : Mod K mg (fV s₁.heap H) := ⟨hKb, nsK hns, ⟨mb, nsK hb, hbb⟩, let ⟨mc, h1, h2⟩ := hlim; ⟨mc, nsK h1, h2⟩⟩
    have e0 : mR P w K mg (fV s₁.heap H) callerA [] s₁ H := ⟨rfl, hM, fun b o e => zr e, Nat.le_of_eq (yV _ _), trivial, fun b hb => absurd (show b ∈ ([] : List Addr) from hb) (by simp), hok, .of_eq hg⟩
    refine codeAny_mono ((F _ hKb (nsK hns)).run callerA [] s₁ H ⟨[.ref a], []⟩ [.ref a] [.ref a] _ _ hr e0 (hbind s₁ (.ref a)) (.cons rfl .nil) (hsp H hO hS)) fun r s' h => ?_
    cases r with
    | error e => exact (hCX H e s' h).elim
    | ok fl =>
      cases fl with
      | next => exact False.elim h
      | brk => exact False.elim h
      | cont => exact False.elim h
      | ret u =>
        obtain ⟨v, H', os, bare, un, hok', r', q⟩ := h
        have q' : v = .bl true := q
        subst q'
        obtain rfl : u = Value.bool true := r'
        refine ⟨rfl, OldK.of_keep fun b o e => ?_, os, bare⟩
        cases q : H b with
        | none => exact un.keep b o e q (by intro z; exact absurd (show b ∈ ([] : List Addr) from z) (by simp)) (by simp)
        | some u =>
          rcases hO b with z | ⟨ob, xs, z⟩
          · rw [q] at z; cases z
          · have z2 := un.frzs b ob _ z
            obtain ⟨e1, _⟩ := hok b _ z
            obtain ⟨e2, _⟩ := hok' b _ z2
            rw [e] at e1; cases e1
            exact e2
  cases hk : K.lookup a with
  | some o =>
    have e := KX a o hk
    rw [ha] at e
    cases e
    refine core (fun _ => none) (fun _ => .inl rfl) (.inr ⟨_, vs.toArray, _, hk, rfl, rfl, rfl, by rw [List.size_toArray, lenV]; exact hl, by simpa using rv⟩) (fun b u z => by have z' : (none : Option HO) = some u := z; cases z') (fun b z => absurd rfl z) fun z => absurd rfl z
  | none =>
    refine core (fun b => if b = a then some (.frz { cls := .type "list", data := .seq vs.toArray } (.lst (ns.map V.int))) else none) (fun b => ?_) (.inl (.inr ⟨{ cls := .type "list", data := .seq vs.toArray }, if_pos rfl⟩)) (fun b u z => ?_) (fun b z => ?_) fun _ => hk
    · by_cases hb : b = a
      · exact .inr ⟨_, _, if_pos hb⟩
      · exact .inl (if_neg hb)
    · by_cases hb : b = a
      · have z' := (if_pos hb).symm.trans z
        cases z'
        subst hb
        exact ⟨ha, by rw [List.length_map]; exact hl, vs, _, rv, ha⟩
      · have z' := (if_neg hb).symm.trans z
        cases z'
    · by_cases hb : b = a
      · exact hb
      · exact absurd (if_neg hb) z
end L2
namespace L2
open PySem PySem.Spec PyProof.Rows
theorem xZ {l : PySem.W.OpenLaw} {n k : Nat} {q : Program} {loose : List Str} {XP : (Str → Option Value) → Heap → Prop} {YP : World → Heap → Prop} {d : DefRec} {K : Params → PySem.W.Frag} {CX : World → CXT} {sp : World → Sp} {x : Str}
    (hn : l.most = some n) (hn2 : n ≤ sizeLine) (hdf : d.params.defaults = []) (hr : bN k callerA)
    (hY : ∀ (w : World) (h : Heap), YP w h → (K w.params).In h)
    (F : ∀ (w : World) (mg : Str → Option Value) (fa : Addr) (h : Heap), (K w.params).In h → h.Ns mainGlobals mg → mg d.name = some (.ref fa) →
      ∃ fd : FuncData, (∀ (s : Shared) (u : Value), BindsTo s fd ⟨[u], []⟩ [(x, u)]) ∧
        ∀ base : Heap, (K w.params).In base → base.Ns mainGlobals mg → aW l.prog w (K w.params) mg base (CX w) k fa fd [x] (sp w))
    (hsp : ∀ (w : World) (H : Hp) (a : Addr) (ns : List Int), ns.length ≤ n → nq H → SqL (K w.params) H a (ns.map V.int) → sp w [.ref a] H (fun v _ => v = .bl true) fun _ _ _ => False)
    (hCX : ∀ (w : World) (H : Hp) (s : Shared) (e : Value) (s' : Shared), CX w [] H s (fun _ _ _ => False) e s' → False) :
    PySem.W.WalkO q loose XP YP l.row.toRowW d [] (fun f vs => PySem.call f vs) := by
  refine Att.x9 hn hdf fun w s₀ s₁ mg mb fa o pm cd doc a vs ns G Y ho hd hcd hmg hobj hints hlen hg => ?_
  have KX := hY w _ Y
  obtain ⟨fd, hb, hF⟩ := F w mg fa _ KX G.T.g hmg
  exact zG KX G.T.g G.T.b G.T.builtins G.T.nolimit hg hobj hints (Nat.le_trans hlen hn2) hr hF hb (fun H hO hS => hsp w H a ns hlen hO hS) fun H e s' => hCX w H s₁ e s'
end L2
namespace L2
open PySem PySem.Spec PyProof.Rows
noncomputable def bx (s : Stmt) : Arguments := match s with
  | .FunctionDef _ a _ _ _ _ _ _ _ _ => a
  | _ => { posonlyargs := [], args := [], vararg := none, kwonlyargs := [], kw_defaults := [], kwarg := none, defaults := [] }
noncomputable def bt (s : Stmt) : List Stmt := match s with
  | .FunctionDef _ _ b _ _ _ _ _ _ _ => b
  | _ => []
noncomputable def aM (s : Stmt) : Scope := match s with
  | .FunctionDef _ _ _ _ _ _ sc _ _ _ => sc
  | _ => { kind := .function, names := [], isGenerator := false, isCoroutine := false }
noncomputable abbrev CX0 : CXT := fun _ _ _ _ _ _ => False
noncomputable abbrev E0 : XK := fun _ _ _ => False
theorem mf {X : Cx} : Passes CX0 X E0 := fun _ _ _ _ _ _ _ h => h.elim
structure Fun (K : PySem.W.Frag) (x qual : Str) (st : Stmt) (f : Addr) (fd : FuncData) : Prop where
  ex : ∃ (oc : Value) (od : Option Addr) (kV doc pm : Value) (an : Option Addr) (cdv ct : Value) (osl : Array (Option Value)),
    fd = PySem.W.fnOf x qual (bx st) (bt st) (aM st) .none kV doc pm an cdv ct ∧ K.lookup f = some ⟨oc, od, .func fd, osl⟩ ∧ PySem.W.codeIn K cdv qual = true
  kp : PySem.W.keepIn K (.ref f) = true
section
variable {P : Program} {w : World} {K : PySem.W.Frag} {mg : Str → Option Value} {base : Heap}
theorem Fun.ok {x qual : Str} {st : Stmt} {f : Addr} {fd : FuncData} {N ps : List Str} {k : Nat} {sp : Sp} (F : Fun K x qual st f fd) (S : bu N ps (aM st)) (len : ∀ vs H Q E, sp vs H Q E → vs.length = ps.length)
    (hbody : ∀ (cdv : Value) (A : Around) (outer : List Env) (s : Shared) (H : Hp) (vs : List V) (Q : VK) (E : XK), bN k (A.deeper (envOfC qual (aM st) s.heap.objs.size f cdv)) → sp vs H Q E →
      ∃ t, PSs (bU CX0 P w K mg base N qual (aM st) f cdv A outer s H E).nox (bt st) t ∧ t { nx := fun _ H' => Q .non H', rt := Q } (start N vs) H) : aW P w K mg base CX0 (k + 1) f fd ps sp := by
  obtain ⟨oc, od, kV, doc, pm, an, cdv, ct, osl, rfl, lk, hcd⟩ := F.ex
  refine tm lk hcd S len fun A outer s H vs Q E hr hsp => ?_
  obtain ⟨t, h, q⟩ := hbody cdv A outer s H vs Q E hr hsp
  exact ⟨t, h.nox, q⟩
theorem Fun.binds {x qual : Str} {st : Stmt} {f : Addr} {fd : FuncData} {ps : List Str} (F : Fun K x qual st f fd)
    (h : ∀ (kV doc pm : Value) (an : Option Addr) (cdv ct : Value) (us : List Value), us.length = ps.length → bindArgs (PySem.W.fnOf x qual (bx st) (bt st) (aM st) .none kV doc pm an cdv ct) ⟨us, []⟩ = pure (ps.zip us)) : Binds K fd ps [] := by
  obtain ⟨oc, od, kV, doc, pm, an, cdv, ct, osl, rfl, lk, hcd⟩ := F.ex
  exact .all (h kV doc pm an cdv ct)
theorem bI {x qual : Str} {st : Stmt} {f : Addr} {oc : Value} {od an : Option Addr} {osl : Array (Option Value)} {kV doc pm cdv ct : Value} (l : K.lookup f = some ⟨oc, od, .func (PySem.W.fnOf x qual (bx st) (bt st) (aM st) .none kV doc pm an cdv ct), osl⟩)
    (c : PySem.W.codeIn K cdv qual = true) (k : PySem.W.keepIn K (.ref f) = true) : Fun K x qual st f (PySem.W.fnOf x qual (bx st) (bt st) (aM st) .none kV doc pm an cdv ct) := ⟨⟨oc, od, kV, doc, pm, an, cdv, ct, osl, rfl, l, c⟩, k⟩
end
section
variable {X : Cx}
theorem pv (i : Nat) {x : Str} {pos : Pos} (hN : X.N[i]? = some x := by rfl) (hv : Vis X.env.scope x := by first | exact Or.inl rfl | exact Or.inr (Or.inl rfl) | exact Or.inr (Or.inr rfl)) (hd : (x == ("__debug__" : Str)) = false := by decide)
    (hcd : (x == ("__classdict__" : Str)) = false := by decide) : PE X (.Name x pos) (nN i) := A8 hN hv hd hcd
end
theorem iX {A B : Prop} (h : B) : if false = true then A else B := by
  rw [if_neg Bool.false_ne_true]
  exact h
theorem ix {A B : Prop} (h : A) : if true = true then A else B := by
  rw [if_pos rfl]
  exact h
noncomputable def md (H H' : Hp) : Prop := ∀ b o, H b = some o → H' b = some o
theorem md.free {H H' : Hp} (e : md H H') {l : Addr} (h : H' l = Option.none) : H l = Option.none := by
  cases q : H l with
  | none => rfl
  | some o =>
    rw [e l o q] at h
    cases h
theorem md.seq {K : PySem.W.Frag} {H H' : Hp} {a : Addr} {xs : List V} (e : md H H') (h : SqL K H a xs) : SqL K H' a xs := by
  rcases h with (h | ⟨o, h⟩) | h
  · exact .inl (.inl (e _ _ h))
  · exact .inl (.inr ⟨o, e _ _ h⟩)
  · exact .inr h
end L2
set_option maxHeartbeats 4000000
namespace L2
open PySem PySem.Spec PyProof.Rows
noncomputable def cq (env : Env) : List (Str × NameKind) → List (Str × Addr) → List (Str × Addr)
  | [], acc => acc
  | (n, k) :: r, acc => if (k == NameKind.free) = true then (match env.cells.lookup n with | some a => cq env r ((n, a) :: acc) | none => cq env r acc) else cq env r acc
theorem nF {env : Env} : ∀ {names : List (Str × NameKind)} {acc : List (Str × Addr)}, (∀ x c, acc.lookup x = some c → env.cells.lookup x = some c) →
    ∀ x c, (cq env names acc).lookup x = some c → env.cells.lookup x = some c
  | [], _, h => h
  | (n, k) :: r, acc, h => by
    intro x c e
    unfold cq at e
    split at e
    · split at e
      · rename_i a ha
        refine nF (names := r) (acc := (n, a) :: acc) (fun y d q => ?_) x c e
        rw [List.lookup_cons] at q
        split at q
        · rename_i hy
          have : y = n := by simpa using hy
          subst this
          rw [ha]; exact q
        · exact h y d q
      · exact nF h x c e
    · exact nF h x c e
theorem mO {env : Env} : ∀ {names : List (Str × NameKind)} {acc : List (Str × Addr)} {x : Str}, (∃ c, acc.lookup x = some c) → ∃ c, (cq env names acc).lookup x = some c
  | [], _, _, h => h
  | (n, k) :: r, acc, x, h => by
    unfold cq
    split
    · split
      · rename_i a ha
        refine mO ?_
        rw [List.lookup_cons]
        split
        · exact ⟨_, rfl⟩
        · exact h
      · exact mO h
    · exact mO h
theorem lG {env : Env} : ∀ {names : List (Str × NameKind)} {acc : List (Str × Addr)} {x : Str}, (x, NameKind.free) ∈ names → (∃ c, env.cells.lookup x = some c) → ∃ c, (cq env names acc).lookup x = some c
  | (n, k) :: r, acc, x, hm, hc => by
    rcases List.mem_cons.mp hm with e | e
    · cases e
      obtain ⟨c, hc⟩ := hc
      unfold cq
      rw [if_pos (by rfl), hc]
      exact mO ⟨c, by rw [List.lookup_cons]; simp⟩
    · unfold cq
      split
      · split
        · exact lG e hc
        · exact lG e hc
      · exact lG e hc
theorem CB {env : Env} : ∀ (names : List (Str × NameKind)) (acc : List (Str × Addr)), (∀ x ∈ names, x.2 = .free → ∃ c, env.cells.lookup x.1 = some c) →
    (forIn names acc (fun (x : Str × NameKind) (r : List (Str × Addr)) => (match x with
      | (name, kind) => if (kind == NameKind.free) = true then do
          let a ← cellOf env name
          pure (ForInStep.yield ((name, a) :: r))
        else pure (ForInStep.yield r))) : Sem (List (Str × Addr))) = pure (cq env names acc) := by
  intro names
  induction names with
  | nil => intro acc _; rfl
  | cons y r ih =>
    intro acc h
    obtain ⟨n, k⟩ := y
    have ih' := fun acc => ih acc fun x hx => h x (List.mem_cons_of_mem _ hx)
    rw [List.forIn_cons]
    unfold cq
    by_cases hk : (k == NameKind.free) = true
    · have hk' : k = .free := by simpa using hk
      obtain ⟨c, hc⟩ := h (n, k) List.mem_cons_self hk'
      simp only [hk, if_true, cellOf, hc]
      exact ih' _
    · simp only [hk, Bool.false_eq_true, if_false]
      exact ih' _
theorem ra {scope : Scope} {env : Env} (h : ∀ x ∈ scope.names, x.2 = .free → ∃ c, env.cells.lookup x.1 = some c) : closureFor scope env = pure (cq env scope.names []) := by
  have e := CB scope.names [] h
  unfold closureFor
  dsimp only
  rw [e]
  rfl
structure BA where
  fp : List Addr
  pins : List (Addr × Obj)
  s : Shared
  H : Hp
  C : Addr
noncomputable def blk (X : Cx) (N : List Str) (sc : Scope) (b : BA) : Cx :=
  { prog := X.prog, w := X.w, K := X.K, mg := X.mg, base := X.base, A := X.A, N := N, s₀ := b.s, H₀ := b.H, env := compEnvC sc (cq X.env sc.names []) b.C X.env,
    outer := X.stack, stack := X.stack, ex := b.fp, fn := fun _ => false, calm := X.calm, pn := X.pn ++ b.pins, xe := fun _ _ => False }
structure Blk (X : Cx) (N : List Str) (sel : List (Option Nat)) (sc : Scope) : Prop where
  kind : sc.kind = .function
  nocell : (sc.names.all fun y => y.2 != .cell) = true
  free : (sc.names.all fun y => y.2 != .free || (X.env.kindOf y.1 == some .cell || X.env.kindOf y.1 == some .free)) = true
  names : (sc.names.all fun y => y.2 != .local || sc.names.lookup y.1 == some .local) = true
  len : sel.length = N.length
  sel : ((N.zip sel).all fun y => match y.2 with | none => true | some j => (X.N[j]? == some y.1) && (sc.names.lookup y.1 == some NameKind.free)) = true
noncomputable def d9 (σ : St) (sel : List (Option Nat)) : St := sel.map fun o => match o with | none => none | some j => (σ[j]?).join
theorem mi {env : Env} {k : NameKind} : ∀ {names : List (Str × NameKind)} {x : Str},
    (names.map fun (n, k) => if (k == NameKind.free && env.scope.kind == .function && env.kindOf n == some .cell) then (n, NameKind.cell) else (n, k)).lookup x = some k →
    ∃ k', names.lookup x = some k' ∧ (k' = k ∨ (k' = .free ∧ k = .cell))
  | [], _, h => by simp at h
  | (n, k0) :: r, x, h => by
    have ih := @mi env k r x
    have h : List.lookup x ((if (k0 == NameKind.free && env.scope.kind == .function && env.kindOf n == some .cell) = true then (n, NameKind.cell) else (n, k0)) :: _) = some k := h
    by_cases hc : (k0 == NameKind.free && env.scope.kind == .function && env.kindOf n == some .cell) = true
    · rw [if_pos hc, List.lookup_cons] at h
      rw [List.lookup_cons]
      cases hx : x == n with
      | true =>
        rw [hx] at h
        simp only at h
        cases h
        have : k0 = .free := by
          simp only [Bool.and_eq_true, beq_iff_eq] at hc
          exact hc.1.1
        subst this
        exact ⟨_, rfl, .inr ⟨rfl, rfl⟩⟩
      | false =>
        rw [hx] at h
        exact ih h
    · rw [if_neg hc, List.lookup_cons] at h
      rw [List.lookup_cons]
      cases hx : x == n with
      | true =>
        rw [hx] at h
        simp only at h
        cases h
        exact ⟨_, rfl, .inl rfl⟩
      | false =>
        rw [hx] at h
        exact ih h
section
variable {X : Cx} {pins : List (Addr × Obj)} {σ : St} {H : Hp} {s : Shared} {N : List Str} {sel : List (Option Nat)} {sc : Scope} {fp : List Addr}
theorem Blk.freeAt (B : Blk X N sel sc) : ∀ y ∈ sc.names, y.2 = .free → (X.env.kindOf y.1 = some .cell ∨ X.env.kindOf y.1 = some .free) := fun y hy hf => by
  have h := List.all_eq_true.mp B.free y hy
  rw [hf] at h
  simpa using h
theorem Blk.has (B : Blk X N sel sc) (ok : X.Ok) : ∀ y ∈ sc.names, y.2 = .free → ∃ c, X.env.cells.lookup y.1 = some c := fun y hy hf => ok.has _ (B.freeAt y hy hf)
theorem Blk.sub (_ : Blk X N sel sc) : ∀ x c, (cq X.env sc.names []).lookup x = some c → X.env.cells.lookup x = some c := nF fun _ _ e => by simp at e
theorem mem_lookup {names : List (Str × NameKind)} {x : Str} {k : NameKind} (h : names.lookup x = some k) : (x, k) ∈ names := PySem.mem_of_lookup h
theorem C8 (B : Blk X N sel sc) (I : Inv X pins σ H s) (hfp : ∀ x ∈ fp, dq X pins H x) (hobj : ∀ x ∈ fp, ∃ o, s.heap.get? x = some o) {h' : Heap} {tk : Nat} {d : Obj}
    (hn : h'.Ns s.heap.objs.size fun _ => none) (sb : Heap.SameBut s.heap.objs.size (s.heap.push d) h') :
    Inv (blk X N sc ⟨fp, pins, s, H, s.heap.objs.size⟩) [] (d9 σ sel) H { s with heap := h', toks := tk } := by
  have kept : ∀ b o, s.heap.get? b = some o → h'.get? b = some o := fun b o e => (sb.2 b (Nat.ne_of_lt (Heap.lt_size e))).trans (Heap.get?_push_of_some _ e)
  have hasb : ∀ x, ((relabel sc X.env).names.lookup x = some .cell ∨ (relabel sc X.env).names.lookup x = some .free) → (x, NameKind.free) ∈ sc.names := fun x hx => by
    have nocell : ∀ z, sc.names.lookup z ≠ some .cell := fun z e => by
      have := List.all_eq_true.mp B.nocell _ (mem_lookup e)
      simp at this
    rcases hx with hx | hx
    · obtain ⟨k', e, q | ⟨q, _⟩⟩ := mi hx
      · subst q; exact absurd e (nocell x)
      · subst q; exact mem_lookup e
    · obtain ⟨k', e, q | ⟨_, q⟩⟩ := mi hx
      · subst q; exact mem_lookup e
      · cases q
  refine ⟨⟨I.ok.mod, B.kind, I.ok.glob, I.ok.blt, Nat.le_refl _, fun x y c h1 h2 => I.ok.inj x y c (B.sub x c h1) (B.sub y c h2), fun x hx => ?_, fun x c hf _ => (by cases hf), I.ok.hd, I.ok.frames, .inl rfl, fun b hb => ?_, I.bs, Nat.le_trans I.ok.bsz I.sz, fun b o e hb => ?_, fun b hb hs => ?_, I.stack, I.stkFree⟩,
    rfl, I.bare, Un.kept kept, ⟨_, hn, fun i x v h1 h2 h3 => ?_⟩, fun x c e => ?_, I.fresh, fun x c e => I.freeC x c (B.sub x c e), fun p hp => ?_, I.hok.kept kept, ?_⟩
  · have hm := hasb x hx
    exact lG hm (B.has I.ok _ hm rfl)
  · obtain ⟨o, e⟩ := hobj b hb
    exact ⟨Nat.ne_of_lt (Heap.lt_size e), fun x c hc => (hfp b hb).2.2.2.2.1 x c (B.sub x c hc)⟩
  · rcases (hfp b hb).2.2.2.1 with z | z
    · exact I.ok.noex b o e z
    · exact absurd (Nat.lt_of_lt_of_le (Heap.lt_size (I.ok.bs b o e).1) z) (Nat.lt_irrefl _)
  · have := I.stkSub b hs
    rcases List.mem_cons.mp this with z | z
    · exact (hfp b hb).2.1 z
    · exact (hfp b hb).2.2.1 z
  ·
    have h1 : N[i]? = some x := h1
    unfold d9 at h2
    rw [List.getElem?_map] at h2
    cases hs : sel[i]? with
    | none => rw [hs] at h2; cases h2
    | some o =>
      rw [hs] at h2
      cases o with
      | none => cases h2
      | some j =>
        have h2 : (σ[j]?).join = some v := Option.some.inj h2
        have hz : (x, some j) ∈ N.zip sel := by
          rw [List.mem_iff_getElem?]
          exact ⟨i, by rw [List.getElem?_zip_eq_some]; exact ⟨h1, hs⟩⟩
        have hq := List.all_eq_true.mp B.sel _ hz
        simp only [Bool.and_eq_true, beq_iff_eq] at hq
        obtain ⟨hj, hlk⟩ := hq
        have hm := mem_lookup hlk
        have hσ : σ[j]? = some (some v) := by
          cases e : σ[j]? with
          | none => rw [e] at h2; cases h2
          | some a => rw [e] at h2; cases a with
            | none => cases h2
            | some a => exact congrArg some h2
        have hk := B.freeAt _ hm rfl
        obtain ⟨m, _, hl⟩ := I.loc
        obtain ⟨u, r, lk⟩ := hl j x v hj hσ (hk.elim (fun e => .inr (.inl e)) fun e => .inr (.inr e))
        refine ⟨u, r, .inr ⟨?_, ?_⟩⟩
        · have h3 : (relabel sc X.env).names.lookup x = some .local ∨ (relabel sc X.env).names.lookup x = some .cell ∨ (relabel sc X.env).names.lookup x = some .free := h3
          rcases h3 with h3 | h3 | h3
          · obtain ⟨k', e, q | ⟨_, q⟩⟩ := mi h3
            · subst q
              rw [hlk] at e
              cases e
            · cases q
          · exact .inl h3
          · exact .inr h3
        · rcases lk with ⟨k, _⟩ | ⟨_, c, e, z⟩
          · rcases hk with q | q <;> (rw [q] at k; cases k)
          · obtain ⟨c', e'⟩ := lG (acc := []) hm ⟨c, e⟩
            have : c' = c := Option.some.inj ((B.sub x c' e').symm.trans e)
            subst this
            exact ⟨c', e', z.keeps kept⟩
  · obtain ⟨v, z⟩ := I.cell x c (B.sub x c e)
    exact ⟨v, z.keeps kept⟩
  · have hp : p ∈ X.pn ++ pins := by simpa [blk] using hp
    obtain ⟨e, n, ne, nf, d⟩ := I.pin p hp
    refine ⟨kept _ _ e, n, Nat.ne_of_lt (Heap.lt_size e), fun z => ?_, d⟩
    rcases List.mem_cons.mp (I.stkSub _ z) with q | q
    · exact ne q
    · exact nf q
  · unfold d9
    rw [List.length_map]
    exact B.len
theorem BJ {b : BA} {σ' : St} {H5 : Hp} {s5 : Shared} {h' : Heap} (I3 : Inv X b.pins σ b.H b.s) (hfp : ∀ x ∈ b.fp, dq X b.pins b.H x) (I5 : Inv (blk X N sc b) [] σ' H5 s5)
    (sb : Heap.SameBut b.C s5.heap h') : Inv X b.pins σ H5 { s5 with heap := h' } := by
  have hC : b.s.heap.objs.size ≤ b.C := I5.ok.above
  have ne : ∀ c o, b.s.heap.get? c = some o → c ≠ b.C := fun c o e => Nat.ne_of_lt (Nat.lt_of_lt_of_le (Heap.lt_size e) hC)
  have u : Un (frs X.stack) b.fp b.H H5 b.s.heap s5.heap := I5.base
  have hn : H5 b.C = none := I5.free
  refine I3.call' (s' := { s5 with heap := h' }) (ch := b.fp) I5.os ⟨fun c o e n hb hx => (sb.2 c (ne c o e)).trans (u.keep c o e n hb hx), fun c o e n hb hx => ?_, u.free, fun c o e hx => ?_, u.tups, u.frzs, u.tbls⟩ (fun a o e => ?_) I5.bare
    fun x hx => ⟨(hfp x hx).2.2.2.1, (hfp x hx).2.1, (hfp x hx).2.2.2.2.1, (hfp x hx).2.2.2.2.2⟩
  · obtain ⟨sl, q⟩ := u.slot c o e n hb hx
    exact ⟨sl, (sb.2 c (ne c o e)).trans q⟩
  · obtain ⟨o', q⟩ := u.there c o e hx
    exact ⟨o', (sb.2 c (ne c o e)).trans q⟩
  · refine (I5.hok a o e).stay (fun c w' hc q => (sb.2 c ?_).trans q) (fun _ q => q) fun _ _ q => q
    rintro rfl
    rcases hc with z | z
    · rw [← z, hn] at e; cases e
    · rw [hn] at z; cases z
end
noncomputable def PTs (X : Cx) (ifs : List Expr) (t : TT) : Prop :=
  ∀ (pins : List (Addr × Obj)) (s : Shared) (σ : St) (H : Hp) (Q : Bool → Hp → Prop), Inv X pins σ H s → t σ H Q →
    wpAny (model X.prog X.w) X.A (forIn ifs true fun c r => if r = true then do let ok ← isTrue c X.env (eval c X.env); pure (ForInStep.yield ok) else pure (ForInStep.yield r)) (TP X pins σ Q) X.xe s
noncomputable def Cq : TT := fun _ H Q => Q true H
theorem Du {X : Cx} : PTs X [] Cq := fun pins s σ H Q I h => wpAny_tests_nil ⟨H, I, h⟩
noncomputable def tLC (wi : TI) (g : TG) (ts : TT) (te : TE) (sel : List (Option Nat)) : TE := fun σ H Q => wi σ H fun J H1 => ∀ acc, H1 acc = none →
  ∃ W : Nat → Nat → St → Hp → Prop, (∃ m, W 0 m (d9 σ sel) (upd H1 acc (.lst []))) ∧ ∀ i m σ H, W i m σ H →
    (J.stop i H ∧ Q (.ref acc) H) ∨ (J.go i H ∧ ∃ N : St → Hp → Prop, (∀ σ' H', N σ' H' → ∃ m', m' < m ∧ W (i + 1) m' σ' H') ∧ ∀ x H', J.yld i H x H' → g x σ H' fun σ2 H2 =>
      ts σ2 H2 fun c H3 => if c = true then te σ2 H3 fun v H4 => ∃ ys, H4 acc = some (.lst ys) ∧ ys.length < sizeLine ∧ N σ2 (upd H4 acc (.lst (ys ++ [v]))) else N σ2 H3)
section
variable {X : Cx} {tg iter elt : Expr} {ifs : List Expr} {sc : Scope} {pos : Pos} {wi : TI} {g : TG} {ts : TT} {te : TE} {N : List Str} {sel : List (Option Nat)}
theorem jb {α : Type} {t : Sem α} {Q Q' : α → Shared → Prop} {M : Model} {A : Around} {E : Value → Shared → Prop} {s : Shared} (h : wpAny M A t Q (fun _ _ => False) s) (hQ : ∀ a s, Q a s → Q' a s) : wpAny M A t Q' E s :=
  wpAny_mono h hQ fun _ _ f => f.elim
theorem yI {pins : List (Addr × Obj)} {σ : St} {H3 : Hp} {s3 : Shared} {acc it : Addr} {fp : List Addr} {tn : Nat → Heap → Prop} {J : It} {RR : Addr → Result → Shared → Prop} {QQ : Hp → Prop} {W : Nat → Nat → St → Hp → Prop} {m0 : Nat} (B : Blk X N sel sc) (hc : X.calm = true)
    (hg : ∀ b, PG (blk X N sc b) tg g) (ht : ∀ b, PTs (blk X N sc b) ifs ts) (he : ∀ b, PE (blk X N sc b) elt te) (I3 : Inv X pins σ H3 s3) (T : Turn X.prog X.w X.K tg J fp it tn) (st3 : tn 0 s3.heap) (f3 : ∀ b ∈ fp, dq X pins H3 b)
    (w0 : W 0 m0 (d9 σ sel) H3)
    (turn : ∀ i m σ H, W i m σ H → (J.stop i H ∧ QQ H) ∨ (J.go i H ∧ ∃ N : St → Hp → Prop, (∀ σ' H', N σ' H' → ∃ m', m' < m ∧ W (i + 1) m' σ' H') ∧ ∀ x H', J.yld i H x H' → g x σ H' fun σ2 H2 =>
      ts σ2 H2 fun c H3 => if c = true then te σ2 H3 fun v H4 => ∃ ys, H4 acc = some (.lst ys) ∧ ys.length < sizeLine ∧ N σ2 (upd H4 acc (.lst (ys ++ [v]))) else N σ2 H3))
    (hRR : ∀ C H5 s5 m, s5.heap.Ns C m → (∀ h', Heap.SameBut C s5.heap h' → Inv X pins σ H5 { s5 with heap := h' }) → H5 C = none → C ≠ X.env.locals → (∀ x c, X.env.cells.lookup x = some c → c ≠ C) → X.s₀.heap.objs.size ≤ C → (∀ p ∈ X.pn ++ pins, p.1 ≠ C) → QQ H5 → RR C (.ok .next) s5) :
    wpAny (model X.prog X.w) X.A (newFunctionEnv sc X.env.globals (cq X.env sc.names []) [] X.env.qual none .none (some X.env)) (fun cenv s4 =>
        codeAny (model X.prog X.w) X.A (.compStart (.ListComp elt [⟨tg, iter, ifs, 0⟩] sc pos) 0 (.ref it) (.ref acc) { cenv with scope := relabel sc X.env }) (RR cenv.locals) s4) X.xe s3 := by
  refine wpAny_newFunctionEnv (fun y hy z => ?_) (by intro y hy; simp at hy) (fun h4 hn4 sb4 => ?_) B.kind
  · have := List.all_eq_true.mp B.nocell y hy
    rw [z] at this
    simp at this
  have ob3 : ∀ b ∈ fp, ∃ o, s3.heap.get? b = some o := fun b hb => by
    obtain ⟨o, e, _⟩ := T.obj _ _ st3 b hb
    exact ⟨o, e⟩
  have kept : ∀ b o, s3.heap.get? b = some o → h4.get? b = some o := fun b o e => (sb4.2 b (Nat.ne_of_lt (Heap.lt_size e))).trans (Heap.get?_push_of_some _ e)
  have st4 : tn 0 h4 := T.keep _ _ _ st3 fun b hb o e => kept b o e
  have I4 := C8 (tk := s3.toks + ([] : List (Str × Value)).length) B I3 f3 ob3 (by simpa using hn4) sb4
  generalize hb : (⟨fp, pins, s3, H3, s3.heap.objs.size⟩ : BA) = b at I4
  have bfp : b.fp = fp := by rw [← hb]
  have bpins : b.pins = pins := by rw [← hb]
  have bs : b.s = s3 := by rw [← hb]
  have bH : b.H = H3 := by rw [← hb]
  have bC : b.C = s3.heap.objs.size := by rw [← hb]
  have fpb : ∀ {H' : Hp}, (∀ x ∈ fp, H' x = none) → ∀ x ∈ fp, dq (blk X N sc b) [] H' x := fun {H'} hn x hx => by
    refine ⟨hn x hx, ?_, fun z => ?_, .inl ?_, fun y c e => (f3 x hx).2.2.2.2.1 y c (B.sub y c e), fun p hp => ?_⟩
    · show x ≠ b.C
      rw [bC]
      obtain ⟨o, e⟩ := ob3 x hx
      exact Nat.ne_of_lt (Heap.lt_size e)
    · rcases List.mem_cons.mp (I3.stkSub x z) with q | q
      · exact (f3 x hx).2.1 q
      · exact (f3 x hx).2.2.1 q
    · show x ∈ b.fp
      rw [bfp]; exact hx
    · have hp : p ∈ X.pn ++ b.pins := by simpa [blk] using hp
      rw [bpins] at hp
      exact (f3 x hx).2.2.2.2.2 p hp
  have loop : ∀ s5 : Shared, s5 = { s3 with heap := h4, toks := s3.toks + ([] : List (Str × Value)).length } →
      codeAny (model X.prog X.w) X.A (.compLoop (.ListComp elt [⟨tg, iter, ifs, 0⟩] sc pos) 0 (.ref it) (.ref acc) (blk X N sc b).env) (RR s3.heap.objs.size) s5 := by
    rintro s5 rfl
    refine codeAny_loop rfl (fun n s' => ∃ i σ' H', Inv (blk X N sc b) [] σ' H' s' ∧ tn i s'.heap ∧ (∀ x ∈ fp, H' x = none) ∧ W i n σ' H') (fun n s6 hI => ?_) m0 ⟨0, _, _, I4, st4, fun x hx => (f3 x hx).1, w0⟩
    obtain ⟨i, σ6, H6, I6, st6, fr6, w6⟩ := hI
    show wpAny _ X.A ((compTurn (.ListComp elt [⟨tg, iter, ifs, 0⟩] sc pos) 0 (.ref it) (.ref acc) (blk X N sc b).env).onRaise (fun x => do noteFrame x (blk X N sc b).env; theTreesLotGoes x)) _ _ s6
    refine wpAny_noted ?_
    rw [compTurn_list]
    rcases turn i n σ6 H6 w6 with ⟨stop, qn⟩ | ⟨go, NN, hNN, step⟩
    · refine wpAny_bind (wpAny_standAt (wpAny_bind (jb (T.done (blk X N sc b) rfl rfl rfl hc i [] s6 σ6 H6 _ I6 (fpb fr6) st6 stop) fun r s7 ⟨hr, I7⟩ => ?_)))
      subst hr
      refine wpAny_pure ?_
      obtain ⟨m7, hn7, _⟩ := I7.loc
      have hn7 : s7.heap.Ns b.C m7 := hn7
      have I3' : Inv X b.pins σ b.H b.s := by rw [bpins, bH, bs]; exact I3
      refine hRR _ H6 s7 m7 (by rw [← bC]; exact hn7) (fun h' sb => ?_) (by rw [← bC]; exact I7.free) ?_ (fun x c e z => ?_) I3.sz (fun p hp => Nat.ne_of_lt (Heap.lt_size (I3.pin p hp).1)) qn
      · rw [← bC] at sb
        have := BJ (b := b) I3' (fun x hx => by rw [bfp] at hx; rw [bpins, bH]; exact f3 x hx) I7 sb
        rw [bpins] at this
        exact this
      · exact Ne.symm (Nat.ne_of_lt I3.lt)
      · obtain ⟨v, o, ho, _⟩ := I3.cell x c e
        rw [z] at ho
        exact absurd (Heap.lt_size ho) (Nat.lt_irrefl _)
    · refine wpAny_bind (wpAny_standAt (wpAny_bind (jb (T.item (blk X N sc b) rfl rfl rfl hc i [] s6 σ6 H6 _ I6 (fpb fr6) st6 go) fun r s7 ⟨u, hr, h7⟩ => ?_)))
      subst hr
      refine wpAny_bind (jb h7 fun _ s8 ⟨x, H8, I8, r8, y8, st8, fr8⟩ => ?_)
      have I8' := I8.pinned (fpb fr8) (T.obj _ _ st8)
      refine wpAny_bind (jb (hg b _ s8 σ6 H8 x u _ I8' r8 (step x H8 y8)) fun _ s9 ⟨σ9, H9, I9, q9⟩ => ?_)
      refine wpAny_bind (jb (ht b _ s9 σ9 H9 _ I9 q9) fun ok s10 ⟨H10, I10, q10⟩ => ?_)
      have again : ∀ {sA : Shared} {σ7 : St} {H7 : Hp}, Inv (blk X N sc b) ([] ++ lU fp s8.heap) σ7 H7 sA → NN σ7 H7 → ∃ m, m < n ∧ ∃ i σ' H', Inv (blk X N sc b) [] σ' H' sA ∧ tn i sA.heap ∧ (∀ x ∈ fp, H' x = none) ∧ W i m σ' H' := fun {sA σ7 H7} I7 n7 => by
        obtain ⟨m', hm, w7⟩ := hNN σ7 H7 n7
        refine ⟨m', hm, i + 1, σ7, H7, I7.unpinned, T.keep _ _ _ st8 fun b hb o e => (I7.pin (b, o) (List.mem_append_right _ (List.mem_append_right _ (mP hb e)))).1, fun b hb => ?_, w7⟩
        obtain ⟨o, e, d⟩ := T.obj _ _ st8 b hb
        exact (I7.pin (b, o) (List.mem_append_right _ (List.mem_append_right _ (mP hb e)))).2.1
      cases ok with
      | false =>
        exact wpAny_pure ⟨rfl, again I10 q10⟩
      | true =>
        have q10 : te σ9 H10 _ := q10
        refine wpAny_bind (wpAny_bind (jb (he b _ s10 σ9 H10 _ I10 q10) fun u' s11 ⟨v, H11, I11, r11, ys, ha, hz, nn⟩ => ?_))
        refine wpAny_bind (jb (sS (X := blk X N sc b) _ s11 σ9 H11 (.ref acc) [v] (.ref acc) [u'] (fun _ H12 => NN σ9 H12) I11 rfl (.cons r11 .nil) ⟨_, ys, v, rfl, rfl, ha, hz, nn⟩) fun _ s12 ⟨_, H12, I12, _, n12⟩ => ?_)
        exact wpAny_pure (wpAny_pure ⟨rfl, again I12 n12⟩)
  have env_eq : (blk X N sc b).env = compEnvC sc (cq X.env sc.names []) s3.heap.objs.size X.env := by
    show compEnvC sc (cq X.env sc.names []) b.C X.env = _
    rw [bC]
  show codeAny (model X.prog X.w) X.A (.compStart (.ListComp elt [⟨tg, iter, ifs, 0⟩] sc pos) 0 (.ref it) (.ref acc) (compEnvC sc (cq X.env sc.names []) s3.heap.objs.size X.env)) (RR s3.heap.objs.size) _
  rw [← env_eq]
  exact codeAny_compStart_list (loop _ rfl) (T.self _ _ _ _ _ st4 (loop _ rfl))
theorem vz {pins : List (Addr × Obj)} {s : Shared} {σ : St} {H : Hp} {Q : VK} {RR : Value → Addr → Result → Shared → Prop} (B : Blk X N sel sc) (hc : X.calm = true)
    (hi : PI X tg iter wi) (hg : ∀ b, PG (blk X N sc b) tg g) (ht : ∀ b, PTs (blk X N sc b) ifs ts) (he : ∀ b, PE (blk X N sc b) elt te) (I : Inv X pins σ H s) (h : tLC wi g ts te sel σ H Q)
    (hRR : ∀ acc C H5 s5 m, s5.heap.Ns C m → (∀ h', Heap.SameBut C s5.heap h' → Inv X pins σ H5 { s5 with heap := h' }) → H5 C = none → C ≠ X.env.locals → (∀ x c, X.env.cells.lookup x = some c → c ≠ C) → X.s₀.heap.objs.size ≤ C → (∀ p ∈ X.pn ++ pins, p.1 ≠ C) → Q (.ref acc) H5 → RR (.ref acc) C (.ok .next) s5) :
    wpAny (model X.prog X.w) X.A (eval iter X.env) (fun v s1 => wpAny (model X.prog X.w) X.A (pyIter v) (fun it s2 => wpAny (model X.prog X.w) X.A (newList []) (fun acc s3 =>
      wpAny (model X.prog X.w) X.A (newFunctionEnv sc X.env.globals (cq X.env sc.names []) [] X.env.qual none .none (some X.env)) (fun cenv s4 =>
        codeAny (model X.prog X.w) X.A (.compStart (.ListComp elt [⟨tg, iter, ifs, 0⟩] sc pos) 0 it acc { cenv with scope := relabel sc X.env }) (RR acc cenv.locals) s4) X.xe s3) X.xe s2) X.xe s1) X.xe s := by
  refine thn (hi pins s σ H _ I h) fun v s1 h1 => thn h1 fun itv s2 h2 => ?_
  obtain ⟨it, fp, tn, J, H2, e, I2, T, st2, f2, q⟩ := h2
  subst e
  obtain ⟨W, ⟨m0, w0⟩, turn⟩ := q _ I2.fresh
  have I3 : Inv X pins σ (upd H2 s2.heap.objs.size (.lst [])) { s2 with heap := s2.heap.push { cls := .type "list", data := .seq ([] : List Value).toArray }, toks := s2.toks } := I2.lnew (ys := []) (its := []) (t' := s2.toks) .nil (Nat.zero_le _)
  have fne : ∀ b ∈ fp, b ≠ s2.heap.objs.size := fun b hb => by
    obtain ⟨o, e, _⟩ := T.obj _ _ st2 b hb
    exact Nat.ne_of_lt (Heap.lt_size e)
  have f3 : ∀ b ∈ fp, dq X pins (upd H2 s2.heap.objs.size (.lst [])) b := fun b hb => ⟨by rw [bf (fne b hb)]; exact (f2 b hb).1, (f2 b hb).2⟩
  refine wpAny_newObj_type ?_
  exact yI (QQ := Q (.ref s2.heap.objs.size)) (RR := fun C => RR (.ref s2.heap.objs.size) C) B hc hg ht he I3 T (T.keep _ _ _ st2 fun b hb o e => Heap.get?_push_of_some _ e) f3 w0 turn fun C H5 s5 m => hRR _ C H5 s5 m
theorem CZ (B : Blk X N sel sc) (hc : X.calm = true) (hi : PI X tg iter wi) (hg : ∀ b, PG (blk X N sc b) tg g) (ht : ∀ b, PTs (blk X N sc b) ifs ts) (he : ∀ b, PE (blk X N sc b) elt te)
    (hs : ∀ x, foldedSetIterable iter X.env x = pure x := by intro _; rfl) : PE X (.ListComp elt [⟨tg, iter, ifs, 0⟩] sc pos) (tLC wi g ts te sel) := by
  intro pins s σ H Q I h
  rw [eval_ListComp]
  refine wpAny_comprehension_free (use := none) (cl := cq X.env sc.names []) rfl hs (ra (B.has I.ok)) B.kind (fun y hy hl => ?_) ?_
  · have := List.all_eq_true.mp B.names y hy
    rw [hl] at this
    simpa using this
  · refine vz (RR := fun acc C => compPost (model X.prog X.w) X.A X.xe none (EP X pins σ Q) acc C) B hc hi hg ht he I h ?_
    intro acc C H5 s5 m hn hI _ _ _ _ _ q
    exact ⟨m, hn, fun h' sb => ⟨.ref acc, H5, hI h' sb, rfl, q⟩⟩
theorem Bq {i : Nat} {x : Str} {pos' spos : Pos} (B : Blk X N sel sc) (hc : X.calm = true) (hN : X.N.Nodup) (hx : X.N[i]? = some x) (hl : X.env.scope.names.lookup x = some .local) (hi : PI X tg iter wi)
    (hg : ∀ b, PG (blk X N sc b) tg g) (ht : ∀ b, PTs (blk X N sc b) ifs ts) (he : ∀ b, PE (blk X N sc b) elt te)
    (hsw : swapsWith (.ListComp elt [⟨tg, iter, ifs, 0⟩] sc pos) (some (.Name x pos')) spos.line X.env = pure true := by rfl)
    (hs : ∀ x, foldedSetIterable iter X.env x = pure x := by intro _; rfl) : PS X (.Assign [.Name x pos'] (.ListComp elt [⟨tg, iter, ifs, 0⟩] sc pos) spos) (kO (tLC wi g ts te sel) (iq i)) := by
  intro pins s σ H D I h
  rw [exec_Assign_Name_used _ _ _ _ hsw]
  refine wpAny_bind (wpAny_standAt (wpAny_bind ?_))
  show wpAny _ X.A (do let _ ← comprehension (.ListComp elt [⟨tg, iter, ifs, 0⟩] sc pos) sc X.env _ (newList []) false (eval iter X.env) (some (assign (.Name x pos') X.env))) _ _ s
  refine wpAny_bind (thn (Q := fun _ s' => SP X pins D .next s') (wpAny_comprehension_free (use := some (assign (.Name x pos') X.env)) (cl := cq X.env sc.names []) rfl hs (ra (B.has I.ok)) B.kind (fun y hy hl => ?_) ?_)
    fun _ s' hq => wpAny_pure (wpAny_pure hq))
  · have := List.all_eq_true.mp B.names y hy
    rw [hl] at this
    simpa using this
  · refine vz (RR := fun acc C => compPost (model X.prog X.w) X.A X.xe (some (assign (.Name x pos') X.env)) (fun _ s' => SP X pins D .next s') acc C) B hc hi hg ht he I h ?_
    intro acc C H5 s5 m hn hI hC hCl hCc hCz hCp q
    have q : D.nx (σ.set i (some (.ref acc))) H5 := q
    have I5 : Inv X pins σ H5 s5 := hI s5.heap (.refl ..)
    refine wpAny_assign_Name (tf I5 hN hx (.inl hl) (show RelV (.ref acc) (.ref acc) from rfl) (fun s6 I6 ⟨a, sa, ha⟩ => ?_) (.inr hl))
    have neC : C ≠ a := by
      rcases ha with ha | ha
      · rw [ha]; exact hCl
      · exact fun z => hCc x a ha z.symm
    refine ⟨m, hn.sameBut sa neC, fun h' sb => ?_⟩
    refine ⟨_, H5, ?_, q⟩
    exact I6.turned (t' := s6.toks) (fun b o hb e => (sb.2 b hb).trans e) hC hCl (.inr hCz) hCc hCp
end
end L2
namespace L2
open PySem PySem.Spec PyProof.Rows
noncomputable def dR (C a : Addr) : Heap → Prop := fun h => ∃ o, h.get? a = some o ∧ o.cls = .ref C
end L2
namespace DL
open PySem PySem.Spec PyProof.Rows L2
noncomputable abbrev St := L2.St
inductive D where
  | non | bl (b : Bool) | int (i : Int) | str (x : Str) | tup (xs : List D) | lst (xs : List D)
  | scr (ns : List Int)
  | exc (c : Str)
  | key (r : Str) (n : Int)
  | obj (ks : List (Str × Int)) (vs as bs : List D)
inductive Sl where
  | no | sh (d : D) | ow (ds : List D)
  | nw (xss : List (List D))
  | dc (ks : List Int) (vs : List D)
  | ob (ks : List (Str × Int)) (vs as bs : List D)
noncomputable abbrev DSt := List Sl
inductive DV where
  | val (d : D) | slot (i : Nat) | own (ds : List D)
  | fld (i j : Nat)
inductive Rs (α : Type) where
  | un | er (c : Str) | ok (a : α) (δ : DSt)
noncomputable abbrev DM (α : Type) := DSt → Rs α
noncomputable def DM.ret {α : Type} (a : α) : DM α := fun δ => .ok a δ
noncomputable def DM.bd {α β : Type} (f : DM α) (g : α → DM β) : DM β := fun δ => match f δ with | .un => .un | .er c => .er c | .ok a δ' => g a δ'
noncomputable abbrev Om := Addr → Option Nat
noncomputable def ShL (H : Hp) (Ω : Om) (a : Addr) (xs : List V) : Prop := Rd H a (.lst xs) ∧ Ω a = none
noncomputable def KL (K : PySem.W.Frag) (H : Hp) (a : Addr) (xs : List V) : Prop := (∃ o, H a = some (.frz o (.lst xs))) ∨
  ∃ (o : Obj) (its : Array Value) (n : Nat), K.lookup a = some o ∧ o.cls = .type "list" ∧ o.dict = none ∧ o.data = .seq its n ∧ its.size ≤ sizeLine ∧ Vals xs its.toList
theorem KL.sq {K : PySem.W.Frag} {H : Hp} {a : Addr} {xs : List V} (h : KL K H a xs) : SqL K H a xs := h.elim (fun ⟨o, z⟩ => .inl (.inr ⟨o, z⟩)) .inr
noncomputable def pA (p : Str × Int) : List Key := [.inr p.1, .inl p.2]
noncomputable def fH (K : PySem.W.Frag) (H : Hp) (p a1 a2 a3 : Addr) : Prop := ∃ C dx, PySem.W.nsIn K mainGlobals "Bed" = some (some (.ref C)) ∧ H p = some (.ins C dx [("borne", .ref a1), ("knitted", .ref a2), ("past", .ref a3)])
mutual
noncomputable def Rep (K : PySem.W.Frag) (H : Hp) (Ω : Om) : D → V → Prop
  | .non, v => v = .non
  | .bl b, v => v = .bl b
  | .int i, v => v = .int i
  | .str x, v => v = .str x
  | .tup ds, v => ∃ a vs, v = .ref a ∧ SqT K H a vs ∧ aB K H Ω ds vs
  | .lst ds, v => ∃ a vs, v = .ref a ∧ ShL H Ω a vs ∧ aB K H Ω ds vs
  | .scr ns, v => ∃ a, v = .ref a ∧ KL K H a (ns.map V.int)
  | .exc c, v => ∃ a C, v = .ref a ∧ PySem.W.nsIn K mainGlobals c = some (some (.ref C)) ∧ H a = some (.ext (dR C a))
  | .key r n, v => ∃ a, v = .ref a ∧ H a = some (.tup [.str r, .int n])
  | .obj ks vs as bs, v => ∃ p a1 a2 a3 kvs xs ys, v = .ref p ∧ fH K H p a1 a2 a3 ∧ (H a1 = some (.dT kvs) ∧ Ω a1 = none) ∧ (H a2 = some (.lst xs) ∧ Ω a2 = none) ∧ (H a3 = some (.lst ys) ∧ Ω a3 = none) ∧ kvs.map (·.1) = ks.map pA ∧ aB K H Ω vs (kvs.map (·.2)) ∧ aB K H Ω as xs ∧ aB K H Ω bs ys
noncomputable def aB (K : PySem.W.Frag) (H : Hp) (Ω : Om) : List D → List V → Prop
  | [], vs => vs = []
  | d :: ds, vs => ∃ v r, vs = v :: r ∧ Rep K H Ω d v ∧ aB K H Ω ds r
end
noncomputable def cE : HO → Bool
  | .lst _ => false
  | .dK _ => false
  | .dT _ => false
  | _ => true
structure Ext (H : Hp) (Ω : Om) (H' : Hp) (Ω' : Om) : Prop where
  keep : ∀ b o, H b = some o → (cE o = true ∨ Ω b = none ∨ Ω b = some 0) → H' b = some o
  new : ∀ b, Ω b = none → H b ≠ none → Ω' b = none
  fr : ∀ b, Ω b = some 0 ↔ Ω' b = some 0
  live : ∀ b, H' b = none → H b = none
section
variable {K : PySem.W.Frag} {H H1 H2 H' : Hp} {Ω Ω1 Ω2 Ω' : Om}
theorem Ext.refl : Ext H Ω H Ω := ⟨fun _ _ e _ => e, fun _ e _ => e, fun _ => Iff.rfl, fun _ e => e⟩
theorem Ext.trans (a : Ext H Ω H1 Ω1) (b : Ext H1 Ω1 H2 Ω2) : Ext H Ω H2 Ω2 where
  keep := fun x o e h => b.keep x o (a.keep x o e h) (h.imp_right fun z => z.imp (fun z => a.new x z (by rw [e]; exact Option.some_ne_none _)) fun z => (a.fr x).mp z)
  new := fun x e h => b.new x (a.new x e h) fun z => h (a.live x z)
  fr := fun x => (a.fr x).trans (b.fr x)
  live := fun x e => a.live x (b.live x e)
theorem Rd.ext {a : Addr} {u : HO} (e : Ext H Ω H' Ω') (h : Rd H a u) (hq : cE u = true ∨ Ω a = none) : Rd H' a u := by
  rcases h with h | ⟨o, h⟩
  · exact .inl (e.keep a _ h (hq.imp_right .inl))
  · exact .inr ⟨o, e.keep a _ h (.inl rfl)⟩
theorem SqT.ext {a : Addr} {xs : List V} (e : Ext H Ω H' Ω') (h : SqT K H a xs) : SqT K H' a xs :=
  h.imp (fun z => Rd.ext e z (.inl rfl)) id
theorem Rd.some {a : Addr} {u : HO} (h : Rd H a u) : H a ≠ none := by
  rcases h with h | ⟨o, h⟩ <;> rw [h] <;> exact Option.some_ne_none _
theorem ShL.ext {a : Addr} {xs : List V} (e : Ext H Ω H' Ω') (h : ShL H Ω a xs) : ShL H' Ω' a xs :=
  ⟨Rd.ext e h.1 (.inr h.2), e.new a h.2 (Rd.some h.1)⟩
theorem fH.ext {p a1 a2 a3 : Addr} (e : Ext H Ω H' Ω') (h : fH K H p a1 a2 a3) : fH K H' p a1 a2 a3 := by
  obtain ⟨C, dx, h1, h2⟩ := h
  exact ⟨C, dx, h1, e.keep p _ h2 (.inl rfl)⟩
theorem Ext.nn {a : Addr} {o : HO} (e : Ext H Ω H' Ω') (h : H a = some o ∧ Ω a = none) : H' a = some o ∧ Ω' a = none := ⟨e.keep a _ h.1 (.inr (.inl h.2)), e.new a h.2 (by rw [h.1]; exact Option.some_ne_none _)⟩
mutual
theorem Rep.ext (e : Ext H Ω H' Ω') : ∀ {d : D} {v : V}, Rep K H Ω d v → Rep K H' Ω' d v
  | .non, _, h => h
  | .bl _, _, h => h
  | .int _, _, h => h
  | .str _, _, h => h
  | .tup _, _, h => by
    obtain ⟨a, vs, e1, e2, e3⟩ := (show ∃ a vs, _ from h)
    exact (show ∃ a vs, _ from ⟨a, vs, e1, SqT.ext e e2, aB.ext e e3⟩)
  | .lst _, _, h => by
    obtain ⟨a, vs, e1, e2, e3⟩ := (show ∃ a vs, _ from h)
    exact (show ∃ a vs, _ from ⟨a, vs, e1, ShL.ext e e2, aB.ext e e3⟩)
  | .scr _, _, h => by
    obtain ⟨a, e1, e2⟩ := (show ∃ a, _ from h)
    exact (show ∃ a, _ from ⟨a, e1, e2.imp (fun ⟨o, z⟩ => ⟨o, e.keep a _ z (.inl rfl)⟩) id⟩)
  | .exc _, _, h => by
    obtain ⟨a, C, e1, e2, e3⟩ := (show ∃ a C, _ from h)
    exact (show ∃ a C, _ from ⟨a, C, e1, e2, e.keep a _ e3 (.inl rfl)⟩)
  | .key _ _, _, h => by
    obtain ⟨a, e1, e2⟩ := (show ∃ a, _ from h)
    exact (show ∃ a, _ from ⟨a, e1, e.keep a _ e2 (.inl rfl)⟩)
  | .obj _ _ _ _, _, h => by
    obtain ⟨p, a1, a2, a3, kvs, xs, ys, e1, e2, e3, e4, e5, e6, e7, e8, e9⟩ := (show ∃ p a1 a2 a3 kvs xs ys, _ from h)
    exact (show ∃ p a1 a2 a3 kvs xs ys, _ from ⟨p, a1, a2, a3, kvs, xs, ys, e1, e2.ext e, e.nn e3, e.nn e4, e.nn e5, e6, aB.ext e e7, aB.ext e e8, aB.ext e e9⟩)
theorem aB.ext (e : Ext H Ω H' Ω') : ∀ {ds : List D} {vs : List V}, aB K H Ω ds vs → aB K H' Ω' ds vs
  | [], _, h => h
  | _ :: _, _, h => by
    obtain ⟨v, r, e1, e2, e3⟩ := (show ∃ v r, _ from h)
    exact (show ∃ v r, _ from ⟨v, r, e1, Rep.ext e e2, aB.ext e e3⟩)
end
theorem aB.length : ∀ {ds : List D} {vs : List V}, aB K H Ω ds vs → ds.length = vs.length
  | [], _, h => by cases (show _ = [] from h); rfl
  | _ :: _, _, h => by
    obtain ⟨v, r, e1, e2, e3⟩ := (show ∃ v r, _ from h)
    subst e1
    rw [List.length_cons, List.length_cons, aB.length e3]
theorem aB.nil : aB K H Ω [] [] := rfl
theorem aB.cons {d : D} {ds : List D} {v : V} {vs : List V} (h : Rep K H Ω d v) (r : aB K H Ω ds vs) : aB K H Ω (d :: ds) (v :: vs) := ⟨v, vs, rfl, h, r⟩
theorem aB.get : ∀ {ds : List D} {vs : List V} {i : Nat} {d : D}, aB K H Ω ds vs → ds[i]? = some d → ∃ v, vs[i]? = some v ∧ Rep K H Ω d v
  | [], _, _, _, _, e => by simp at e
  | d :: ds, _, 0, d', h, e => by
    obtain ⟨v, r, e1, e2, e3⟩ := (show ∃ v r, _ from h)
    subst e1
    have : d = d' := by simpa using e
    subst this
    exact ⟨v, rfl, e2⟩
  | _ :: ds, _, i + 1, d', h, e => by
    obtain ⟨v, r, e1, e2, e3⟩ := (show ∃ v r, _ from h)
    subst e1
    obtain ⟨w, q1, q2⟩ := aB.get (i := i) e3 (by simpa using e)
    exact ⟨w, by simpa using q1, q2⟩
theorem aB.append : ∀ {ds es : List D} {vs ws : List V}, aB K H Ω ds vs → aB K H Ω es ws → aB K H Ω (ds ++ es) (vs ++ ws)
  | [], _, _, _, h, q => by cases (show _ = [] from h); exact q
  | _ :: _, _, _, _, h, q => by
    obtain ⟨v, r, e1, e2, e3⟩ := (show ∃ v r, _ from h)
    subst e1
    exact .cons e2 (aB.append e3 q)
theorem aB.drop : ∀ {ds : List D} {vs : List V} (n : Nat), aB K H Ω ds vs → aB K H Ω (ds.drop n) (vs.drop n)
  | _, _, 0, h => h
  | [], _, _ + 1, h => by cases (show _ = [] from h); exact .nil
  | _ :: _, _, n + 1, h => by
    obtain ⟨v, r, e1, e2, e3⟩ := (show ∃ v r, _ from h)
    subst e1
    exact aB.drop n e3
theorem aB.take : ∀ {ds : List D} {vs : List V} (n : Nat), aB K H Ω ds vs → aB K H Ω (ds.take n) (vs.take n)
  | _, _, 0, _ => .nil
  | [], _, _ + 1, h => by cases (show _ = [] from h); exact .nil
  | _ :: _, _, n + 1, h => by
    obtain ⟨v, r, e1, e2, e3⟩ := (show ∃ v r, _ from h)
    subst e1
    exact .cons e2 (aB.take n e3)
theorem aB.reverse : ∀ {ds : List D} {vs : List V}, aB K H Ω ds vs → aB K H Ω ds.reverse vs.reverse
  | [], _, h => by cases (show _ = [] from h); exact .nil
  | _ :: _, _, h => by
    obtain ⟨v, r, e1, e2, e3⟩ := (show ∃ v r, _ from h)
    subst e1
    rw [List.reverse_cons, List.reverse_cons]
    exact (aB.reverse e3).append (.cons e2 .nil)
theorem aB.set {d : D} {v : V} (h1 : Rep K H Ω d v) : ∀ {ds : List D} {vs : List V} (n : Nat), aB K H Ω ds vs → aB K H Ω (ds.set n d) (vs.set n v)
  | [], _, _, h => by cases (show _ = [] from h); exact .nil
  | _ :: _, _, 0, h => by
    obtain ⟨v, r, e1, e2, e3⟩ := (show ∃ v r, _ from h)
    subst e1
    exact .cons h1 e3
  | _ :: _, _, n + 1, h => by
    obtain ⟨v, r, e1, e2, e3⟩ := (show ∃ v r, _ from h)
    subst e1
    exact .cons e2 (aB.set h1 n e3)
end
noncomputable def Nst (K : PySem.W.Frag) (H : Hp) (Ω : Om) (k : Nat) (xss : List (List D)) (bs : List Addr) : Prop := ∀ (j : Nat) b xs, bs[j]? = some b → xss[j]? = some xs → ∃ ws, H b = some (.lst ws) ∧ Ω b = some k ∧ aB K H Ω xs ws
noncomputable def ye (K : PySem.W.Frag) (H : Hp) (Ω : Om) (k : Nat) (p : Addr) (ks : List (Str × Int)) (vs as bs : List D) : Prop := ∃ a1 a2 a3 kvs xs ys, fH K H p a1 a2 a3 ∧ (H a1 = some (.dT kvs) ∧ Ω a1 = some k) ∧ (H a2 = some (.lst xs) ∧ Ω a2 = some k) ∧ (H a3 = some (.lst ys) ∧ Ω a3 = some k) ∧ a2 ≠ a3 ∧ kvs.map (·.1) = ks.map pA ∧ aB K H Ω vs (kvs.map (·.2)) ∧ aB K H Ω as xs ∧ aB K H Ω bs ys
noncomputable def ir (K : PySem.W.Frag) (H : Hp) (Ω : Om) (i : Nat) : Sl → Option V → Prop
  | .no, _ => True
  | .sh d, o => ∃ v, o = some v ∧ Rep K H Ω d v
  | .ow ds, o => ∃ a vs, o = some (.ref a) ∧ H a = some (.lst vs) ∧ Ω a = some (i + 2) ∧ aB K H Ω ds vs
  | .nw xss, o => ∃ (a : Addr) (bs : List Addr), o = some (.ref a) ∧ H a = some (.lst (bs.map V.ref)) ∧ Ω a = some (i + 2) ∧ (a :: bs).Nodup ∧ bs.length = xss.length ∧ Nst K H Ω (i + 2) xss bs
  | .dc ks vs, o => ∃ (a : Addr) (kvs : List (Key × V)), o = some (.ref a) ∧ H a = some (.dK kvs) ∧ Ω a = some (i + 2) ∧ kvs.map (·.1) = ks.map Sum.inl ∧ aB K H Ω vs (kvs.map (·.2))
  | .ob ks vs as bs, o => ∃ p, o = some (.ref p) ∧ ye K H Ω (i + 2) p ks vs as bs
structure aE (K : PySem.W.Frag) (H : Hp) (Ω : Om) (σ : St) (δ : DSt) : Prop where
  len : δ.length = σ.length
  sl : ∀ (i : Nat) s, δ[i]? = some s → ir K H Ω i s (σ[i]?).join
  trk : ∀ a k, Ω a = some k → ∃ u, H a = some u ∧ cE u = false
noncomputable def dg (K : PySem.W.Frag) (H : Hp) (Ω : Om) (σ : St) : DV → V → Prop
  | .val d, v => Rep K H Ω d v
  | .slot i, v => σ[i]? = some (some v)
  | .own ds, v => ∃ a vs, v = .ref a ∧ H a = some (.lst vs) ∧ Ω a = some 1 ∧ aB K H Ω ds vs
  | .fld i j, v => ∃ p a1 a2 a3, σ[i]? = some (some (.ref p)) ∧ fH K H p a1 a2 a3 ∧ ((j = 1 ∧ v = .ref a2) ∨ (j = 2 ∧ v = .ref a3))
noncomputable def Trk (H : Hp) (Ω : Om) : Prop := ∀ a k, Ω a = some k → ∃ u, H a = some u ∧ cE u = false
noncomputable def Wg {α : Type} (E : Str → Hp → Prop) (H : Hp) (Ω : Om) (P : α → DSt → Hp → Om → Prop) (r : Rs α) : Prop := match r with
  | .un => False
  | .er c => ∀ H' Ω', Ext H Ω H' Ω' → Trk H' Ω' → E c H'
  | .ok a δ' => ∀ H' Ω', Ext H Ω H' Ω' → P a δ' H' Ω'
noncomputable def cY (K : PySem.W.Frag) (H : Hp) (Ω : Om) (σ : St) : List DV → List V → Prop
  | [], vs => vs = []
  | a :: as, vs => ∃ v r, vs = v :: r ∧ dg K H Ω σ a v ∧ cY K H Ω σ as r
noncomputable def DV.st : DV → Bool
  | .own _ => false
  | _ => true
noncomputable abbrev PV (K : PySem.W.Frag) (σ : St) (Q : VK) : DV → DSt → Hp → Om → Prop := fun a δ' H' Ω' => aE K H' Ω' σ δ' → ∀ v, dg K H' Ω' σ a v → Q v H'
noncomputable abbrev PB (K : PySem.W.Frag) (σ : St) (Q : Bool → Hp → Prop) : Bool → DSt → Hp → Om → Prop := fun b δ' H' Ω' => aE K H' Ω' σ δ' → Q b H'
noncomputable abbrev PVs (K : PySem.W.Frag) (σ : St) (Q : List V → Hp → Prop) : List DV → DSt → Hp → Om → Prop := fun as δ' H' Ω' => aE K H' Ω' σ δ' → ∀ vs, cY K H' Ω' σ as vs → (∀ a ∈ as, a.st = true) → Q vs H'
inductive Fl where
  | nx | bk | ct | rt (d : D) | rto (ds : List D)
noncomputable def FlQ (K : PySem.W.Frag) (H : Hp) (Ω : Om) (σ : St) (B : Ends) : Fl → Prop
  | .nx => B.nx σ H
  | .bk => B.bk σ H
  | .ct => B.ct σ H
  | .rt d => ∀ v, Rep K H Ω d v → B.rt v H
  | .rto ds => ∀ v, dg K H Ω σ (.own ds) v → B.rt v H
noncomputable abbrev PF (K : PySem.W.Frag) (mp : List Nat) (σ : St) (B : Ends) : Fl → DSt → Hp → Om → Prop := fun fl δ' H' Ω' => ∀ σ', aE K H' Ω' σ' δ' → (∀ j ∈ mp, σ'[j]? = σ[j]?) → FlQ K H' Ω' σ' B fl
noncomputable def DE (K : PySem.W.Frag) (E : Str → Hp → Prop) (te : TE) (f : DM DV) : Prop := ∀ σ H δ Ω, aE K H Ω σ δ → ∀ Q, Wg E H Ω (PV K σ Q) (f δ) → te σ H Q
noncomputable def DT (K : PySem.W.Frag) (E : Str → Hp → Prop) (tt : TT) (f : DM Bool) : Prop := ∀ σ H δ Ω, aE K H Ω σ δ → ∀ Q, Wg E H Ω (PB K σ Q) (f δ) → tt σ H Q
noncomputable def DA (K : PySem.W.Frag) (E : Str → Hp → Prop) (ta : TA) (f : DM (List DV)) : Prop := ∀ σ H δ Ω, aE K H Ω σ δ → ∀ Q, Wg E H Ω (PVs K σ Q) (f δ) → ta σ H Q
noncomputable def DS (K : PySem.W.Frag) (E : Str → Hp → Prop) (mp : List Nat) (ts : TS) (f : DM Fl) : Prop := ∀ σ H δ Ω, aE K H Ω σ δ → ∀ B, Wg E H Ω (PF K mp σ B) (f δ) → ts B σ H
section
variable {K : PySem.W.Frag} {E : Str → Hp → Prop} {H H1 H2 H' : Hp} {Ω Ω1 Ω2 Ω' : Om} {σ : St} {δ : DSt}
theorem Wg.ext {α : Type} {P : α → DSt → Hp → Om → Prop} {r : Rs α} (h : Wg E H Ω P r) (e : Ext H Ω H' Ω') : Wg E H' Ω' P r := by
  cases r with
  | un => exact h
  | er c => exact fun H2 Ω2 e2 => h H2 Ω2 (e.trans e2)
  | ok a δ' => exact fun H2 Ω2 e2 => h H2 Ω2 (e.trans e2)
theorem Wg.imp {α : Type} {P P' : α → DSt → Hp → Om → Prop} {r : Rs α} (h : Wg E H Ω P r) (hp : ∀ a δ' H' Ω', Ext H Ω H' Ω' → P a δ' H' Ω' → P' a δ' H' Ω') : Wg E H Ω P' r := by
  cases r with
  | un => exact h
  | er c => exact h
  | ok a δ' => exact fun H2 Ω2 e2 => hp _ _ _ _ e2 (h H2 Ω2 e2)
theorem Wg.bd {α β : Type} {f : DM α} {g : α → DM β} {P : β → DSt → Hp → Om → Prop} (h : Wg E H Ω P (f.bd g δ)) {P1 : α → DSt → Hp → Om → Prop}
    (k : ∀ a δ' H' Ω', Ext H Ω H' Ω' → Wg E H' Ω' P (g a δ') → P1 a δ' H' Ω') : Wg E H Ω P1 (f δ) := by
  unfold DM.bd at h
  cases e : f δ with
  | un => rw [e] at h; exact h
  | er c => rw [e] at h; exact h
  | ok a δ' => rw [e] at h; exact fun H' Ω' ex => k a δ' H' Ω' ex (Wg.ext h ex)
theorem dg.ext {a : DV} {v : V} (h : dg K H Ω σ a v) (ha : a.st = true) (e : Ext H Ω H' Ω') : dg K H' Ω' σ a v := by
  cases a with
  | val d => exact Rep.ext e h
  | slot i => exact h
  | own ds => cases ha
  | fld i j =>
    obtain ⟨p, a1, a2, a3, e1, e2, e3⟩ := h
    exact ⟨p, a1, a2, a3, e1, e2.ext e, e3⟩
theorem cY.ext : ∀ {as : List DV} {vs : List V}, cY K H Ω σ as vs → (∀ a ∈ as, a.st = true) → Ext H Ω H' Ω' → cY K H' Ω' σ as vs
  | [], _, h, _, _ => h
  | _ :: _, _, h, ha, e => by
    obtain ⟨v, r, e1, e2, e3⟩ := h
    exact ⟨v, r, e1, e2.ext (ha _ List.mem_cons_self) e, e3.ext (fun a q => ha a (List.mem_cons_of_mem _ q)) e⟩
theorem Wg.now {d : DV} {v : V} {Q : VK} (h : Wg E H Ω (PV K σ Q) (.ok d δ)) (R : aE K H Ω σ δ) (r : dg K H Ω σ d v) : Q v H := h H Ω .refl R v r
theorem Wg.nowB {b : Bool} {Q : Bool → Hp → Prop} (h : Wg E H Ω (PB K σ Q) (.ok b δ)) (R : aE K H Ω σ δ) : Q b H := h H Ω .refl R
noncomputable def dj (Ω : Om) (p : Addr) : Om := fun b => if b = p then some 1 else Ω b
noncomputable def freed (Ω : Om) (p : Addr) : Om := fun b => if b = p then none else Ω b
theorem Ext.alloc {p : Addr} {o : HO} (hp : H p = none) (trk : ∀ a k, Ω a = some k → ∃ u, H a = some u ∧ cE u = false) : Ext H Ω (upd H p o) Ω where
  keep := fun b o' e _ => by rw [bf (cn e hp)]; exact e
  new := fun _ e _ => e
  fr := fun _ => Iff.rfl
  live := fun b e => by
    unfold upd at e
    split at e
    · cases e
    · exact e
theorem Ext.alloc1 {p : Addr} {xs : List V} (hp : H p = none) (trk : ∀ a k, Ω a = some k → ∃ u, H a = some u ∧ cE u = false) : Ext H Ω (upd H p (.lst xs)) (dj Ω p) where
  keep := fun b o' e _ => by rw [bf (cn e hp)]; exact e
  new := fun b e h => by
    unfold dj
    rw [if_neg (fun z => h (by rw [z]; exact hp))]
    exact e
  fr := fun b => by
    unfold dj
    split
    · rename_i z
      subst z
      constructor
      · intro q
        obtain ⟨vs, e, _⟩ := trk _ _ q
        rw [hp] at e; cases e
      · intro q; cases q
    · exact Iff.rfl
  live := fun b e => by
    unfold upd at e
    split at e
    · cases e
    · exact e
theorem Ext.free {p : Addr} {k : Nat} (hp : Ω p = some (k + 1)) : Ext H Ω H (freed Ω p) where
  keep := fun b o' e _ => e
  new := fun b e h => by unfold freed; split <;> first | rfl | exact e
  fr := fun b => by
    unfold freed
    split
    · rename_i z
      subst z
      rw [hp]
      constructor <;> intro q <;> cases q
    · exact Iff.rfl
  live := fun b e => e
theorem ShL.less {a : Addr} {xs : List V} (h : ShL H Ω a xs) (hl : ∀ b, Ω b = none → Ω' b = none) : ShL H Ω' a xs := ⟨h.1, hl a h.2⟩
mutual
theorem Rep.less (hl : ∀ b, Ω b = none → Ω' b = none) : ∀ {d : D} {v : V}, Rep K H Ω d v → Rep K H Ω' d v
  | .non, _, h => h
  | .bl _, _, h => h
  | .int _, _, h => h
  | .str _, _, h => h
  | .tup _, _, h => by
    obtain ⟨a, vs, e1, e2, e3⟩ := (show ∃ a vs, _ from h)
    exact (show ∃ a vs, _ from ⟨a, vs, e1, e2, aB.less hl e3⟩)
  | .lst _, _, h => by
    obtain ⟨a, vs, e1, e2, e3⟩ := (show ∃ a vs, _ from h)
    exact (show ∃ a vs, _ from ⟨a, vs, e1, e2.less hl, aB.less hl e3⟩)
  | .scr _, _, h => h
  | .exc _, _, h => h
  | .key _ _, _, h => h
  | .obj _ _ _ _, _, h => by
    obtain ⟨p, a1, a2, a3, kvs, xs, ys, e1, e2, e3, e4, e5, e6, e7, e8, e9⟩ := (show ∃ p a1 a2 a3 kvs xs ys, _ from h)
    exact (show ∃ p a1 a2 a3 kvs xs ys, _ from ⟨p, a1, a2, a3, kvs, xs, ys, e1, e2, ⟨e3.1, hl _ e3.2⟩, ⟨e4.1, hl _ e4.2⟩, ⟨e5.1, hl _ e5.2⟩, e6, aB.less hl e7, aB.less hl e8, aB.less hl e9⟩)
theorem aB.less (hl : ∀ b, Ω b = none → Ω' b = none) : ∀ {ds : List D} {vs : List V}, aB K H Ω ds vs → aB K H Ω' ds vs
  | [], _, h => h
  | _ :: _, _, h => by
    obtain ⟨v, r, e1, e2, e3⟩ := (show ∃ v r, _ from h)
    exact (show ∃ v r, _ from ⟨v, r, e1, Rep.less hl e2, aB.less hl e3⟩)
end
theorem r9 {p : Addr} : ∀ b, Ω b = none → freed Ω p b = none := fun b e => by unfold freed; split <;> first | rfl | exact e
theorem zT {p b : Addr} {o u : HO} (hl : ∃ vs, H p = some vs ∧ cE vs = false) (q : H b = some u) (f : cE u = true) : upd H p o b = some u := by
  rw [bf]
  · exact q
  · rintro rfl
    obtain ⟨v, e, g⟩ := hl
    rw [e] at q
    cases q
    rw [f] at g
    cases g
theorem ir.mv {i : Nat} {s : Sl} {o : Option V} (h : ir K H Ω i s o) (h1 : ∀ d v, Rep K H Ω d v → Rep K H' Ω' d v) (h2 : ∀ ds vs, aB K H Ω ds vs → aB K H' Ω' ds vs)
    (hk : ∀ b u, Ω b = some (i + 2) → H b = some u → H' b = some u ∧ Ω' b = some (i + 2)) (hf : ∀ b u, H b = some u → cE u = true → H' b = some u := by first | exact (fun _ _ q _ => q) | exact (fun _ _ q f => zT (by assumption) q f) | exact (fun b u q f => Ext.keep (by assumption) b u q (.inl f))) : ir K H' Ω' i s o := by
  cases s with
  | no => trivial
  | sh d => obtain ⟨v, e1, e2⟩ := h; exact ⟨v, e1, h1 _ _ e2⟩
  | ow ds =>
    obtain ⟨a, vs, e1, e2, e3, e4⟩ := h
    obtain ⟨q1, q2⟩ := hk a _ e3 e2
    exact ⟨a, vs, e1, q1, q2, h2 _ _ e4⟩
  | nw xss =>
    obtain ⟨a, bs, e1, e2, e3, e4, e5, e6⟩ := h
    obtain ⟨q1, q2⟩ := hk a _ e3 e2
    refine ⟨a, bs, e1, q1, q2, e4, e5, fun j b xs z1 z2 => ?_⟩
    obtain ⟨ws, w1, w2, w3⟩ := e6 j b xs z1 z2
    obtain ⟨y1, y2⟩ := hk b _ w2 w1
    exact ⟨ws, y1, y2, h2 _ _ w3⟩
  | dc ks vs =>
    obtain ⟨a, kvs, e1, e2, e3, e4, e5⟩ := h
    obtain ⟨q1, q2⟩ := hk a _ e3 e2
    exact ⟨a, kvs, e1, q1, q2, e4, h2 _ _ e5⟩
  | ob ks vs as bs =>
    obtain ⟨p, e0, a1, a2, a3, kvs, xs, ys, ⟨C, dx, c1, c2⟩, e3, e4, e5, ne, e6, e7, e8, e9⟩ := h
    exact ⟨p, e0, a1, a2, a3, kvs, xs, ys, ⟨C, dx, c1, hf _ _ c2 rfl⟩, hk _ _ e3.2 e3.1, hk _ _ e4.2 e4.1, hk _ _ e5.2 e5.1, ne, e6, h2 _ _ e7, h2 _ _ e8, h2 _ _ e9⟩
theorem ir.ext {i : Nat} {s : Sl} {o : Option V} (h : ir K H Ω i s o) (e : Ext H Ω H' Ω') (hk : ∀ b u, Ω b = some (i + 2) → H b = some u → H' b = some u ∧ Ω' b = some (i + 2)) : ir K H' Ω' i s o := h.mv (fun _ _ => Rep.ext e) (fun _ _ => aB.ext e) hk fun b u q f => e.keep b u q (.inl f)
theorem aE.ext (R : aE K H Ω σ δ) (e : Ext H Ω H' Ω') (hk : ∀ b k u, Ω b = some (k + 2) → H b = some u → H' b = some u ∧ Ω' b = some (k + 2)) (ht : ∀ a k, Ω' a = some k → ∃ u, H' a = some u ∧ cE u = false) : aE K H' Ω' σ δ :=
  ⟨R.len, fun i s h => (R.sl i s h).ext e fun b vs q1 q2 => hk b i vs q1 q2, ht⟩
theorem aE.alloc {p : Addr} {o : HO} (R : aE K H Ω σ δ) (hp : H p = none) : aE K (upd H p o) Ω σ δ :=
  R.ext (.alloc hp R.trk) (fun b k vs q1 q2 => ⟨by rw [bf (cn q2 hp)]; exact q2, q1⟩) fun a k q => by
    obtain ⟨vs, e, f⟩ := R.trk a k q
    exact ⟨vs, by rw [bf (cn e hp)]; exact e, f⟩
theorem aE.alloc1 {p : Addr} {xs : List V} (R : aE K H Ω σ δ) (hp : H p = none) : aE K (upd H p (.lst xs)) (dj Ω p) σ δ :=
  R.ext (.alloc1 hp R.trk) (fun b k vs q1 q2 => by
    have : b ≠ p := cn q2 hp
    exact ⟨by rw [bf this]; exact q2, by unfold dj; rw [if_neg this]; exact q1⟩) fun a k q => by
    by_cases h : a = p
    · subst h; exact ⟨_, cK, rfl⟩
    · unfold dj at q
      rw [if_neg h] at q
      obtain ⟨vs, e, f⟩ := R.trk a k q
      exact ⟨vs, by rw [bf h]; exact e, f⟩
theorem aE.free1 {p : Addr} (R : aE K H Ω σ δ) (hp : Ω p = some 1) : aE K H (freed Ω p) σ δ :=
  R.ext (.free (k := 0) hp) (fun b k vs q1 q2 => ⟨q2, by
    unfold freed
    rw [if_neg]
    · exact q1
    · rintro rfl; rw [hp] at q1; cases q1⟩) fun a k q => by
    unfold freed at q
    split at q
    · cases q
    · exact R.trk a k q
theorem Wg.alloc1 {p : Addr} {ds : List D} {xs : List V} {Q : VK} (h : Wg E H Ω (PV K σ Q) (.ok (.own ds) δ)) (R : aE K H Ω σ δ) (hp : H p = none) (r : aB K H Ω ds xs) : Q (.ref p) (upd H p (.lst xs)) :=
  h _ (dj Ω p) (.alloc1 hp R.trk) (R.alloc1 hp) _ ⟨p, xs, rfl, cK, by unfold dj; rw [if_pos rfl], r.ext (.alloc1 hp R.trk)⟩
theorem Wg.allocT {p : Addr} {ds : List D} {xs : List V} {Q : VK} (h : Wg E H Ω (PV K σ Q) (.ok (.val (.tup ds)) δ)) (R : aE K H Ω σ δ) (hp : H p = none) (r : aB K H Ω ds xs) : Q (.ref p) (upd H p (.tup xs)) :=
  h _ Ω (.alloc hp R.trk) (R.alloc hp) _ (show ∃ a vs, _ from ⟨p, xs, rfl, SqT.of cK, r.ext (.alloc hp R.trk)⟩)
noncomputable def norm : DV → DV
  | .own ds => .val (.lst ds)
  | a => a
noncomputable def fN (f : DM DV) : DM DV := f.bd fun a => .ret (norm a)
theorem CU (a : DV) : (norm a).st = true := by cases a <;> rfl
theorem dg.norm {a : DV} {v : V} (R : aE K H Ω σ δ) (h : dg K H Ω σ a v) : ∃ Ω', aE K H Ω' σ δ ∧ dg K H Ω' σ (norm a) v ∧ Ext H Ω H Ω' := by
  cases a with
  | val d => exact ⟨Ω, R, h, .refl⟩
  | slot i => exact ⟨Ω, R, h, .refl⟩
  | fld i j => exact ⟨Ω, R, h, .refl⟩
  | own ds =>
    obtain ⟨a, vs, e1, e2, e3, e4⟩ := h
    refine ⟨freed Ω a, R.free1 e3, (show ∃ a vs, _ from ⟨a, vs, e1, .intro (.inl e2) (by unfold freed; rw [if_pos rfl]), e4.less r9⟩), .free (k := 0) e3⟩
theorem DE.use {β : Type} {ta : TE} {f : DM DV} {g : DV → DM β} {P : β → DSt → Hp → Om → Prop} {T : V → Hp → Prop} (ha : DE K E ta f) (R : aE K H Ω σ δ) (h : Wg E H Ω P ((fN f).bd g δ))
    (k : ∀ a x δ' H' Ω', Ext H Ω H' Ω' → a.st = true → aE K H' Ω' σ δ' → dg K H' Ω' σ a x → Wg E H' Ω' P (g a δ') → T x H') : ta σ H T := by
  refine ha σ H δ Ω R T (Wg.bd (f := f) (g := fun a => g (norm a)) (P := P) ?_ fun a δ' H' Ω' ex h' R' v rv => ?_)
  · unfold fN DM.bd DM.ret at h
    unfold DM.bd
    cases e : f δ with
    | un => rw [e] at h; exact h
    | er c => rw [e] at h; exact h
    | ok a δ' => rw [e] at h; exact h
  · obtain ⟨Ω2, R2, r2, x2⟩ := rv.norm R'
    exact k (norm a) v δ' H' Ω2 (ex.trans x2) (CU a) R2 r2 (Wg.ext h' x2)
theorem DE.norm {ta : TE} {f : DM DV} (ha : DE K E ta f) : DE K E ta (fN f) := by
  intro σ H δ Ω R Q h
  refine ha.use (g := .ret) R (P := PV K σ Q) ?_ fun a x δ' H' Ω' _ _ R' r' h' => h'.now R' r'
  unfold fN DM.bd DM.ret at h ⊢
  cases e : f δ with
  | un => rw [e] at h; exact h
  | er c => rw [e] at h; exact h
  | ok a δ' => rw [e] at h; exact h
theorem DT.use {β : Type} {ta : TT} {f : DM Bool} {g : Bool → DM β} {P : β → DSt → Hp → Om → Prop} {T : Bool → Hp → Prop} (ha : DT K E ta f) (R : aE K H Ω σ δ) (h : Wg E H Ω P (f.bd g δ))
    (k : ∀ b δ' H' Ω', Ext H Ω H' Ω' → aE K H' Ω' σ δ' → Wg E H' Ω' P (g b δ') → T b H') : ta σ H T :=
  ha σ H δ Ω R T (Wg.bd h fun b δ' H' Ω' ex h' R' => k b δ' H' Ω' ex R' h')
theorem DA.use {β : Type} {ta : TA} {f : DM (List DV)} {g : List DV → DM β} {P : β → DSt → Hp → Om → Prop} {T : List V → Hp → Prop} (ha : DA K E ta f) (R : aE K H Ω σ δ) (h : Wg E H Ω P (f.bd g δ))
    (k : ∀ as vs δ' H' Ω', Ext H Ω H' Ω' → (∀ a ∈ as, a.st = true) → aE K H' Ω' σ δ' → cY K H' Ω' σ as vs → Wg E H' Ω' P (g as δ') → T vs H') : ta σ H T :=
  ha σ H δ Ω R T (Wg.bd h fun as δ' H' Ω' ex h' R' vs rv hs => k as vs δ' H' Ω' ex hs R' rv h')
noncomputable def cb (K : PySem.W.Frag) (H : Hp) (Ω : Om) : D → V → Prop
  | .lst ds, v => ∃ a vs, v = .ref a ∧ Rd H a (.lst vs) ∧ aB K H Ω ds vs
  | .obj ks vs as bs, v => ∃ p a1 a2 a3 kvs xs ys, v = .ref p ∧ fH K H p a1 a2 a3 ∧ H a1 = some (.dT kvs) ∧ H a2 = some (.lst xs) ∧ H a3 = some (.lst ys) ∧ kvs.map (·.1) = ks.map pA ∧ aB K H Ω vs (kvs.map (·.2)) ∧ aB K H Ω as xs ∧ aB K H Ω bs ys
  | d, v => Rep K H Ω d v
theorem Rep.b {d : D} {v : V} (h : Rep K H Ω d v) : cb K H Ω d v := by
  cases d with
  | lst ds => obtain ⟨a, vs, e1, e2, e3⟩ := (show ∃ a vs, _ from h); exact ⟨a, vs, e1, e2.1, e3⟩
  | obj ks vs as bs =>
    obtain ⟨p, a1, a2, a3, kvs, xs, ys, e1, e2, e3, e4, e5, e6, e7, e8, e9⟩ := (show ∃ p a1 a2 a3 kvs xs ys, _ from h)
    exact ⟨p, a1, a2, a3, kvs, xs, ys, e1, e2, e3.1, e4.1, e5.1, e6, e7, e8, e9⟩
  | _ => exact h
noncomputable def pd (s : Sl) (j : Nat) : Option (List D) := match s, j with
  | .ob _ _ as _, 1 => some as
  | .ob _ _ _ bs, 2 => some bs
  | .sh (.obj _ _ as _), 1 => some as
  | .sh (.obj _ _ _ bs), 2 => some bs
  | _, _ => none
noncomputable def res (δ : DSt) : DV → Option D
  | .val d => some d
  | .own ds => some (.lst ds)
  | .slot i => match δ[i]? with | some (.sh d) => some d | some (.ow ds) => some (.lst ds) | some (.ob ks vs as bs) => some (.obj ks vs as bs) | _ => none
  | .fld i j => match δ[i]? with | some s => (pd s j).map .lst | none => none
theorem fH.inj {p a1 a2 a3 b1 b2 b3 : Addr} (h : fH K H p a1 a2 a3) (q : fH K H p b1 b2 b3) : a1 = b1 ∧ a2 = b2 ∧ a3 = b3 := by
  obtain ⟨C, dx, _, h2⟩ := h
  obtain ⟨C', dx', _, q2⟩ := q
  rw [h2] at q2
  cases q2
  exact ⟨rfl, rfl, rfl⟩
theorem dg.res {a : DV} {x : V} {d : D} (R : aE K H Ω σ δ) (h : dg K H Ω σ a x) (e : res δ a = some d) : cb K H Ω d x := by
  cases a with
  | val d' => cases e; exact Rep.b h
  | own ds => cases e; obtain ⟨a, vs, e1, e2, e3, e4⟩ := h; exact ⟨a, vs, e1, .inl e2, e4⟩
  | slot i =>
    have h : σ[i]? = some (some x) := h
    unfold DL.res at e
    simp only at e
    split at e
    · rename_i d' hd
      cases e
      obtain ⟨v, e1, e2⟩ := R.sl i _ hd
      rw [h] at e1
      cases e1
      exact e2.b
    · rename_i ds hd
      cases e
      obtain ⟨a, vs, e1, e2, e3, e4⟩ := R.sl i _ hd
      rw [h] at e1
      cases e1
      exact ⟨a, vs, rfl, .inl e2, e4⟩
    · rename_i ks vs as bs hd
      cases e
      obtain ⟨p, e0, a1, a2, a3, kvs, xs, ys, e2, e3, e4, e5, ne, e6, e7, e8, e9⟩ := R.sl i _ hd
      rw [h] at e0
      cases e0
      exact ⟨p, a1, a2, a3, kvs, xs, ys, rfl, e2, e3.1, e4.1, e5.1, e6, e7, e8, e9⟩
    · cases e
  | fld i j =>
    obtain ⟨p, b1, b2, b3, h1, h2, h3⟩ := h
    unfold DL.res at e
    simp only at e
    split at e
    · rename_i s hd
      have sl := R.sl i _ hd
      rw [h1] at sl
      cases s with
      | ob ks vs as bs =>
        obtain ⟨p', e0, a1, a2, a3, kvs, xs, ys, e2, e3, e4, e5, ne, e6, e7, e8, e9⟩ := sl
        cases e0
        obtain ⟨rfl, rfl, rfl⟩ := h2.inj e2
        rcases h3 with ⟨rfl, rfl⟩ | ⟨rfl, rfl⟩
        · cases e; exact ⟨b2, xs, rfl, .inl e4.1, e8⟩
        · cases e; exact ⟨b3, ys, rfl, .inl e5.1, e9⟩
      | sh d =>
        cases d with
        | obj ks vs as bs =>
          obtain ⟨v, e0, hv⟩ := sl
          cases e0
          obtain ⟨p', a1, a2, a3, kvs, xs, ys, e1, e2, e3, e4, e5, e6, e7, e8, e9⟩ := (show ∃ p a1 a2 a3 kvs xs ys, _ from hv)
          cases e1
          obtain ⟨rfl, rfl, rfl⟩ := h2.inj e2
          rcases h3 with ⟨rfl, rfl⟩ | ⟨rfl, rfl⟩
          · cases e; exact ⟨b2, xs, rfl, .inl e4.1, e8⟩
          · cases e; exact ⟨b3, ys, rfl, .inl e5.1, e9⟩
        | _ => simp [pd] at e
      | _ => simp [pd] at e
    · cases e
end
end DL
namespace DL
open PySem PySem.Spec PyProof.Rows L2
noncomputable def PED (X : Cx) (E : Str → Hp → Prop) (e : Expr) (f : DM DV) : Prop := ∃ te, PE X e te ∧ DE X.K E te f
noncomputable def PTD (X : Cx) (E : Str → Hp → Prop) (e : Expr) (f : DM Bool) : Prop := ∃ tt, PT X e tt ∧ DT X.K E tt f
noncomputable def PWD (X : Cx) (E : Str → Hp → Prop) (e : Expr) (f : DM Bool) : Prop := ∃ tt, PW X e tt ∧ DT X.K E tt f
noncomputable def PAD (X : Cx) (E : Str → Hp → Prop) (es : List Expr) (f : DM (List DV)) : Prop := ∃ ta, PA X es ta ∧ DA X.K E ta f
noncomputable def PSD (X : Cx) (E : Str → Hp → Prop) (mp : List Nat) (st : Stmt) (f : DM Fl) : Prop := ∃ ts, PS X st ts ∧ DS X.K E mp ts f
noncomputable def dW (X : Cx) (E : Str → Hp → Prop) (mp : List Nat) (st : List Stmt) (f : DM Fl) : Prop := ∃ ts, PSs X st ts ∧ DS X.K E mp ts f
section
variable {K : PySem.W.Frag} {E : Str → Hp → Prop} {H H1 H2 H' : Hp} {Ω Ω1 Ω2 Ω' : Om} {σ : St} {δ : DSt}
theorem join_some {α : Type} {o : Option (Option α)} {v : α} (h : o.join = some v) : o = some (some v) := by
  cases o with
  | none => cases h
  | some a => cases a with
    | none => cases h
    | some b => exact congrArg some h
noncomputable def ae (i : Nat) : DM DV := fun δ => match δ[i]? with
  | some (.sh d) => .ok (.val d) δ
  | some (.ow _) => .ok (.slot i) δ
  | _ => .un
theorem AS {i : Nat} : DE K E (nN i) (ae i) := by
  intro σ H δ Ω R Q h
  unfold ae at h
  split at h
  · rename_i d hd
    obtain ⟨v, e1, e2⟩ := R.sl i _ hd
    exact ⟨v, join_some e1, h.now R e2⟩
  · rename_i ds hd
    obtain ⟨a, vs, e1, e2, e3, e4⟩ := R.sl i _ hd
    exact ⟨.ref a, join_some e1, h.now R (join_some e1)⟩
  · exact h.elim
noncomputable def fC (d : D) : DM DV := .ret (.val d)
theorem kD {d : D} {v : V} (hd : ∀ H Ω, Rep K H Ω d v) : DE K E (tC v) (fC d) := fun σ H δ Ω R Q h => Wg.now h R (hd H Ω)
noncomputable def ag (f1 f2 : DM DV) (g : D → D → Option DV) : DM DV := (fN f1).bd fun a1 => (fN f2).bd fun a2 => fun δ => match res δ a1, res δ a2 with
  | some d1, some d2 => (match g d1 d2 with | some r => .ok r δ | none => .un)
  | _, _ => .un
noncomputable def DR (K : PySem.W.Frag) (r : R2) (g : D → D → Option DV) : Prop :=
  ∀ {E : Str → Hp → Prop} {σ : St} {H : Hp} {δ : DSt} {Ω : Om} {x y : V} {d1 d2 : D} {z : DV} {Q : VK}, aE K H Ω σ δ → cb K H Ω d1 x → cb K H Ω d2 y → g d1 d2 = some z → Wg E H Ω (PV K σ Q) (.ok z δ) → r x y H Q
theorem nj {r : R2} {g : D → D → Option DV} {ta tb : TE} {f1 f2 : DM DV} (hr : DR K r g) (ha : DE K E ta f1) (hb : DE K E tb f2) : DE K E (tOp r ta tb) (ag f1 f2 g) := by
  intro σ H δ Ω R Q h
  refine ha.use R h fun a1 x δ1 H1 Ω1 _ s1 R1 r1 h1 => ?_
  refine hb.use R1 h1 fun a2 y δ2 H2 Ω2 e2 s2 R2 r2 h2 => ?_
  have r1 := r1.ext s1 e2
  cases q1 : res δ2 a1 with
  | none => rw [q1] at h2; exact h2.elim
  | some d1 =>
    cases q2 : res δ2 a2 with
    | none => rw [q1, q2] at h2; exact h2.elim
    | some d2 =>
      rw [q1, q2] at h2
      simp only at h2
      cases q3 : g d1 d2 with
      | none => rw [q3] at h2; exact h2.elim
      | some z =>
        rw [q3] at h2
        exact hr R2 (r1.res R2 q1) (r2.res R2 q2) q3 h2
noncomputable def fUn (f1 : DM DV) (g : D → Option DV) : DM DV := (fN f1).bd fun a1 => fun δ => match res δ a1 with
  | some d1 => (match g d1 with | some r => .ok r δ | none => .un)
  | _ => .un
noncomputable def DU (K : PySem.W.Frag) (r : V → Hp → VK → Prop) (g : D → Option DV) : Prop :=
  ∀ {E : Str → Hp → Prop} {σ : St} {H : Hp} {δ : DSt} {Ω : Om} {x : V} {d1 : D} {z : DV} {Q : VK}, aE K H Ω σ δ → cb K H Ω d1 x → g d1 = some z → Wg E H Ω (PV K σ Q) (.ok z δ) → r x H Q
theorem xF {r : V → Hp → VK → Prop} {g : D → Option DV} {ta : TE} {f1 : DM DV} (hr : DU K r g) (ha : DE K E ta f1) : DE K E (tUn r ta) (fUn f1 g) := by
  intro σ H δ Ω R Q h
  refine ha.use R h fun a1 x δ1 H1 Ω1 _ s1 R1 r1 h1 => ?_
  cases q1 : res δ1 a1 with
  | none => rw [q1] at h1; exact h1.elim
  | some d1 =>
    rw [q1] at h1
    simp only at h1
    cases q3 : g d1 with
    | none => rw [q3] at h1; exact h1.elim
    | some z =>
      rw [q3] at h1
      exact hr R1 (r1.res R1 q1) q3 h1
noncomputable def au (f : DM DV) : DM Bool := (fN f).bd fun a δ => match res δ a with
  | some (.bl b) => .ok b δ
  | _ => .un
theorem rN {t : TE} {f : DM DV} (ha : DE K E t f) : DT K E (p8 t) (au f) := by
  intro σ H δ Ω R Q h
  refine ha.use R h fun a x δ1 H1 Ω1 _ s1 R1 r1 h1 => ?_
  cases q1 : res δ1 a with
  | none => rw [q1] at h1; exact h1.elim
  | some d =>
    rw [q1] at h1
    cases d with
    | bl b => exact ⟨b, (show x = .bl b from r1.res R1 q1), Wg.nowB h1 R1⟩
    | _ => exact h1.elim
theorem Am {t : TE} {f : DM DV} (ha : DE K E t f) : DT K E (tB t) (au f) := rN ha
noncomputable def bX (f g : DM Bool) : DM Bool := f.bd fun b => if b then g else .ret false
noncomputable def bO (f g : DM Bool) : DM Bool := f.bd fun b => if b then .ret true else g
noncomputable def cH (f : DM Bool) : DM Bool := f.bd fun b => .ret (!b)
theorem B5 {t u : TT} {f g : DM Bool} (ha : DT K E t f) (hb : DT K E u g) : DT K E (qj t u) (bX f g) := by
  intro σ H δ Ω R Q h
  refine ha.use R h fun b δ1 H1 Ω1 _ R1 h1 => ?_
  cases b with
  | true => exact ix (hb σ H1 δ1 Ω1 R1 Q h1)
  | false => exact iX (Wg.nowB h1 R1)
theorem B9 {t u : TT} {f g : DM Bool} (ha : DT K E t f) (hb : DT K E u g) : DT K E (tOr t u) (bO f g) := by
  intro σ H δ Ω R Q h
  refine ha.use R h fun b δ1 H1 Ω1 _ R1 h1 => ?_
  cases b with
  | true => exact ix (Wg.nowB h1 R1)
  | false => exact iX (hb σ H1 δ1 Ω1 R1 Q h1)
theorem AN {t : TT} {f : DM Bool} (ha : DT K E t f) : DT K E (uO t) (cH f) := by
  intro σ H δ Ω R Q h
  exact ha.use R h fun b δ1 H1 Ω1 _ R1 h1 => Wg.nowB h1 R1
noncomputable def kh (f : DM DV) (g : Bool → DM DV) : DM DV := (fN f).bd fun a δ => match res δ a with
  | some (.bl b) => g b δ
  | _ => .un
noncomputable def eE (f g : DM DV) : DM DV := kh f fun b => if b then g else fC (.bl false)
noncomputable def gk (f : DM DV) : DM DV := kh f fun b => fC (.bl (!b))
theorem uU {ta : TE} {f : DM DV} {g : Bool → DM DV} {T : Bool → TE} (ha : DE K E ta f) (hg : ∀ b, DE K E (T b) (g b)) : DE K E (fun σ H Q => ta σ H fun x H1 => ∃ c, x = .bl c ∧ T c σ H1 Q) (kh f g) := by
  intro σ H δ Ω R Q h
  refine ha.use R h fun a x δ1 H1 Ω1 _ s1 R1 r1 h1 => ?_
  cases q1 : res δ1 a with
  | none => rw [q1] at h1; exact h1.elim
  | some d =>
    rw [q1] at h1
    cases d with
    | bl b => exact ⟨b, (show x = .bl b from r1.res R1 q1), hg b σ H1 δ1 Ω1 R1 Q h1⟩
    | _ => exact h1.elim
theorem zC {ta tb : TE} {f g : DM DV} (ha : DE K E ta f) (hb : DE K E tb g) : DE K E (va ta tb) (eE f g) :=
  uU (T := fun c σ H1 Q => if c = true then tb σ H1 Q else Q (.bl false) H1) ha fun b => by
    cases b with
    | true => exact fun σ H δ Ω R Q h => ix (hb σ H δ Ω R Q h)
    | false => exact fun σ H δ Ω R Q h => iX (Wg.now h R rfl)
theorem xE {ta : TE} {f : DM DV} (ha : DE K E ta f) : DE K E (rz ta) (gk f) :=
  uU (T := fun c _ H1 Q => Q (.bl (!c)) H1) ha fun _ σ H δ Ω R Q h => Wg.now h R rfl
noncomputable def fS (c : DM Bool) (f g : DM DV) : DM DV := c.bd fun b => if b then f else g
theorem CM {t : TT} {ta tb : TE} {c : DM Bool} {f g : DM DV} (hc : DT K E t c) (ha : DE K E ta f) (hb : DE K E tb g) : DE K E (tIf t ta tb) (fS c f g) := by
  intro σ H δ Ω R Q h
  refine hc.use R h fun b δ1 H1 Ω1 _ R1 h1 => ?_
  cases b with
  | true => exact ix (ha σ H1 δ1 Ω1 R1 Q h1)
  | false => exact iX (hb σ H1 δ1 Ω1 R1 Q h1)
noncomputable def ai : DM (List DV) := .ret []
noncomputable def af (f : DM DV) (r : DM (List DV)) : DM (List DV) := (fN f).bd fun a => r.bd fun as => .ret (a :: as)
theorem wU : DA K E mT ai := fun σ H δ Ω R Q h => h H Ω .refl R [] rfl (fun _ z => nomatch z)
theorem C0 {ta : TE} {tr : TA} {f : DM DV} {r : DM (List DV)} (ha : DE K E ta f) (hr : DA K E tr r) : DA K E (ma ta tr) (af f r) := by
  intro σ H δ Ω R Q h
  refine ha.use R h fun a x δ1 H1 Ω1 _ s1 R1 r1 h1 => ?_
  refine hr.use R1 h1 fun as vs δ2 H2 Ω2 e2 s2 R2 r2 h2 => ?_
  exact h2 H2 Ω2 .refl R2 (x :: vs) ⟨x, vs, rfl, r1.ext s1 e2, r2⟩ fun b hb => by
    rcases List.mem_cons.mp hb with z | z
    · rw [z]; exact s1
    · exact s2 b z
noncomputable def cw : List DV → Option (List D)
  | [] => some []
  | .val d :: r => match cw r with | some ds => some (d :: ds) | none => none
  | _ :: _ => none
theorem cY.vals : ∀ {as : List DV} {vs : List V} {ds : List D}, cY K H Ω σ as vs → cw as = some ds → aB K H Ω ds vs
  | [], _, _, h, e => by cases e; exact h
  | a :: r, _, ds, h, e => by
    obtain ⟨v, q, e1, e2, e3⟩ := h
    cases a with
    | val d =>
      have e : (match cw r with | some ds => some (d :: ds) | none => none) = some ds := e
      cases q' : cw r with
      | none => rw [q'] at e; cases e
      | some es => rw [q'] at e; cases e; subst e1; exact .cons e2 (cY.vals e3 q')
    | _ => cases e
noncomputable def fG (δ : DSt) : List DV → Option (List D)
  | [] => some []
  | a :: r => match res δ a, fG δ r with | some d, some ds => some (d :: ds) | _, _ => none
noncomputable def ki (K : PySem.W.Frag) (H : Hp) (Ω : Om) : List D → List V → Prop
  | [], vs => vs = []
  | d :: ds, vs => ∃ v r, vs = v :: r ∧ cb K H Ω d v ∧ ki K H Ω ds r
theorem cY.all (R : aE K H Ω σ δ) : ∀ {as : List DV} {vs : List V} {ds : List D}, cY K H Ω σ as vs → fG δ as = some ds → ki K H Ω ds vs
  | [], _, _, h, e => by cases e; exact h
  | a :: r, _, ds, h, e => by
    obtain ⟨v, q, e1, e2, e3⟩ := h
    unfold fG at e
    split at e
    · rename_i d es q1 q2
      cases e
      exact ⟨v, q, e1, e2.res R q1, cY.all R e3 q2⟩
    · cases e
noncomputable def fCB (fa : DM (List DV)) (g : List D → Option DV) : DM DV := fa.bd fun as => fun δ => match fG δ as with
  | some ds => (match g ds with | some r => .ok r δ | none => .un)
  | none => .un
noncomputable def DC (K : PySem.W.Frag) (r : List V → Hp → VK → Prop) (g : List D → Option DV) : Prop :=
  ∀ {E : Str → Hp → Prop} {σ : St} {H : Hp} {δ : DSt} {Ω : Om} {vs : List V} {ds : List D} {z : DV} {Q : VK}, aE K H Ω σ δ → ki K H Ω ds vs → g ds = some z → Wg E H Ω (PV K σ Q) (.ok z δ) → r vs H Q
theorem rV {r : List V → Hp → VK → Prop} {g : List D → Option DV} {t : TA} {fa : DM (List DV)} (hr : DC K r g) (ha : DA K E t fa) : DE K E (tCB r t) (fCB fa g) := by
  intro σ H δ Ω R Q h
  refine ha.use R h fun as vs δ1 H1 Ω1 _ s1 R1 r1 h1 => ?_
  cases q1 : fG δ1 as with
  | none => rw [q1] at h1; exact h1.elim
  | some ds =>
    rw [q1] at h1
    simp only at h1
    cases q3 : g ds with
    | none => rw [q3] at h1; exact h1.elim
    | some z =>
      rw [q3] at h1
      exact hr R1 (r1.all R1 q1) q3 h1
noncomputable def aY (fa : DM (List DV)) : DM DV := fa.bd fun as δ => match cw as with
  | some ds => if ds.length ≤ sizeLine then .ok (.val (.tup ds)) δ else .un
  | none => .un
noncomputable def bF (fa : DM (List DV)) : DM DV := fa.bd fun as δ => match cw as with
  | some ds => if ds.length ≤ sizeLine then .ok (.own ds) δ else .un
  | none => .un
theorem zD {t : TA} {fa : DM (List DV)} (ha : DA K E t fa) : DE K E (sk t) (aY fa) := by
  intro σ H δ Ω R Q h
  refine ha.use R h fun as vs δ1 H1 Ω1 _ s1 R1 r1 h1 => ?_
  cases q1 : cw as with
  | none => rw [q1] at h1; exact h1.elim
  | some ds =>
    rw [q1] at h1
    simp only at h1
    split at h1
    · rename_i hz
      have r := r1.vals q1
      exact ⟨by rw [← r.length]; exact hz, fun p hp => Wg.allocT h1 R1 hp r⟩
    · exact h1.elim
theorem Dl {t : TA} {fa : DM (List DV)} (ha : DA K E t fa) : DE K E (tL t) (bF fa) := by
  intro σ H δ Ω R Q h
  refine ha.use R h fun as vs δ1 H1 Ω1 _ s1 R1 r1 h1 => ?_
  cases q1 : cw as with
  | none => rw [q1] at h1; exact h1.elim
  | some ds =>
    rw [q1] at h1
    simp only at h1
    split at h1
    · rename_i hz
      have r := r1.vals q1
      exact ⟨by rw [← r.length]; exact hz, fun p hp => Wg.alloc1 h1 R1 hp r⟩
    · exact h1.elim
noncomputable def aO : DM Fl := .ret .nx
noncomputable def ak (f g : DM Fl) : DM Fl := fun δ => match f δ with
  | .ok .nx δ' => g δ'
  | r => r
variable {mp : List Nat}
theorem wu : DS K E mp vF aO := fun σ H δ Ω R B h => h H Ω .refl σ R fun _ _ => rfl
theorem PF.same {B : Ends} {σ' : St} {fl : Fl} {δ' : DSt} (h : PF K mp σ B fl δ' H Ω) (hm : ∀ j ∈ mp, σ'[j]? = σ[j]?) : PF K mp σ' B fl δ' H Ω := fun σ2 R2 m2 => h σ2 R2 fun j hj => (m2 j hj).trans (hm j hj)
theorem Wg.same {B : Ends} {σ' : St} {r : Rs Fl} (h : Wg E H Ω (PF K mp σ B) r) (hm : ∀ j ∈ mp, σ'[j]? = σ[j]?) : Wg E H Ω (PF K mp σ' B) r := h.imp fun _ _ _ _ _ q => PF.same q hm
theorem yQ {t u : TS} {f g : DM Fl} (hf : DS K E mp t f) (hg : DS K E mp u g) : DS K E mp (uv t u) (ak f g) := by
  intro σ H δ Ω R B h
  refine hf σ H δ Ω R _ ?_
  unfold ak at h
  cases e : f δ with
  | un => rw [e] at h; exact h
  | er c => rw [e] at h; exact h
  | ok a δ' =>
    rw [e] at h
    cases a with
    | nx => exact fun H' Ω' ex σ' R' m' => hg σ' H' δ' Ω' R' B ((Wg.ext h ex).same m')
    | bk => exact h
    | ct => exact h
    | rt d => exact h
    | rto ds => exact h
noncomputable def fIf (c : DM Bool) (f g : DM Fl) : DM Fl := c.bd fun b => if b then f else g
theorem zc {c : TT} {t u : TS} {fc : DM Bool} {f g : DM Fl} (hc : DT K E c fc) (hf : DS K E mp t f) (hg : DS K E mp u g) : DS K E mp (tH c t u) (fIf fc f g) := by
  intro σ H δ Ω R B h
  refine hc.use R h fun b δ1 H1 Ω1 _ R1 h1 => ?_
  cases b with
  | true => exact ix (hf σ H1 δ1 Ω1 R1 B h1)
  | false => exact iX (hg σ H1 δ1 Ω1 R1 B h1)
noncomputable def gQ (f : DM DV) : DM Fl := f.bd fun _ => .ret .nx
theorem AY {te : TE} {f : DM DV} (ha : DE K E te f) : DS K E mp (pZ te) (gQ f) := by
  intro σ H δ Ω R B h
  exact ha σ H δ Ω R _ (Wg.bd h fun a δ' H' Ω' ex h' R' v rv => h' H' Ω' .refl σ R' fun _ _ => rfl)
theorem aE.set {i : Nat} {s : Sl} {v : V} (R : aE K H Ω σ δ) (r : ir K H Ω i s (some v)) : aE K H Ω (σ.set i (some v)) (δ.set i s) := by
  refine ⟨by rw [List.length_set, List.length_set]; exact R.len, fun j t h => ?_, R.trk⟩
  by_cases hj : i = j
  · subst hj
    have hl : i < δ.length := by
      have := (List.getElem?_eq_some_iff.mp h).1
      rwa [List.length_set] at this
    rw [List.getElem?_set_self hl] at h
    cases h
    rw [List.getElem?_set_self (by rw [← R.len]; exact hl)]
    exact r
  · rw [List.getElem?_set_ne hj] at h
    rw [List.getElem?_set_ne hj]
    exact R.sl j t h
theorem aE.forget {i : Nat} (R : aE K H Ω σ δ) : aE K H Ω σ (δ.set i .no) := by
  refine ⟨by rw [List.length_set]; exact R.len, fun j t h => ?_, R.trk⟩
  by_cases hj : i = j
  · subst hj
    have hl : i < δ.length := by
      have := (List.getElem?_eq_some_iff.mp h).1
      rwa [List.length_set] at this
    rw [List.getElem?_set_self hl] at h
    cases h
    trivial
  · rw [List.getElem?_set_ne hj] at h
    exact R.sl j t h
theorem set_same {i : Nat} {o : Option V} (hi : i ∉ mp) : ∀ j ∈ mp, (σ.set i o)[j]? = σ[j]? := fun j hj => List.getElem?_set_ne fun z => hi (by rw [z]; exact hj)
noncomputable def aF (i : Nat) (f : DM DV) : DM Fl := (fN f).bd fun a δ => match a with
  | .val d => .ok .nx (δ.set i (.sh d))
  | _ => .un
theorem rT {i : Nat} {te : TE} {f : DM DV} (hi : i ∉ mp) (ha : DE K E te f) : DS K E mp (kO te (iq i)) (aF i f) := by
  intro σ H δ Ω R B h
  refine ha.use R h fun a x δ1 H1 Ω1 _ s1 R1 r1 h1 => ?_
  cases a with
  | val d => exact h1 H1 Ω1 .refl _ (R1.set ⟨x, rfl, r1⟩) (set_same hi)
  | slot j => exact h1.elim
  | own ds => exact h1.elim
  | fld _ _ => exact h1.elim
noncomputable def br (Ω : Om) (p : Addr) (k : Nat) : Om := fun b => if b = p then some k else Ω b
theorem Ext.own {p : Addr} {k k' : Nat} (hp : Ω p = some (k' + 1)) : Ext H Ω H (br Ω p (k + 1)) where
  keep := fun b o' e _ => e
  new := fun b e h => by
    unfold br
    rw [if_neg]
    · exact e
    · rintro rfl; rw [hp] at e; cases e
  fr := fun b => by
    unfold br
    split
    · rename_i z
      subst z
      rw [hp]
      constructor <;> intro q <;> cases q
    · exact Iff.rfl
  live := fun b e => e
theorem aE.br {p : Addr} {k k' : Nat} (R : aE K H Ω σ δ) (hp : Ω p = some (k' + 1)) (hs : ∀ i s, δ[i]? = some s → s = .no ∨ i + 2 ≠ k' + 1) : aE K H (DL.br Ω p (k + 1)) σ δ := by
  refine ⟨R.len, fun i s h => ?_, fun a j q => ?_⟩
  · rcases hs i s h with z | z
    · subst z; trivial
    refine (R.sl i s h).mv (fun _ _ => .ext (.own hp)) (fun _ _ => .ext (.own hp)) fun b vs e3 e2 => ⟨e2, ?_⟩
    unfold DL.br
    rw [if_neg]
    · exact e3
    · rintro rfl
      rw [hp] at e3
      exact z (Option.some.inj e3).symm
  · unfold DL.br at q
    split at q
    · rename_i z; subst z; exact R.trk _ _ hp
    · exact R.trk a j q
noncomputable def bV (i : Nat) (f : DM DV) : DM Fl := f.bd fun a δ => match a with
  | .own ds => .ok .nx (δ.set i (.ow ds))
  | _ => .un
theorem ux {i : Nat} {te : TE} {f : DM DV} (hi : i ∉ mp) (ha : DE K E te f) : DS K E mp (kO te (iq i)) (bV i f) := by
  intro σ H δ Ω R B h
  refine ha σ H δ Ω R _ (Wg.bd h fun a δ1 H1 Ω1 ex h1 R1 x r1 => ?_)
  cases a with
  | val d => exact h1.elim
  | slot j => exact h1.elim
  | fld _ _ => exact h1.elim
  | own ds =>
    obtain ⟨a, vs, e1, e2, e3, e4⟩ := r1
    subst e1
    have R2 := R1.br (k := i + 1) (k' := 0) e3 fun j _ _ => .inr (by omega)
    exact h1 H1 (DL.br Ω1 a (i + 1 + 1)) (.own (k' := 0) e3) _ (R2.set ⟨a, vs, rfl, e2, by unfold DL.br; rw [if_pos rfl], e4.ext (.own (k' := 0) e3)⟩) (set_same hi)
noncomputable def frz (i : Nat) (δ : DSt) : DSt := match δ[i]? with
  | some (.ow ds) => δ.set i (.sh (.lst ds))
  | _ => δ
theorem zS {i : Nat} {ts : TS} {f : DM Fl} (hf : DS K E mp ts f) : DS K E mp ts (fun δ => f (frz i δ)) := by
  intro σ H δ Ω R B h
  dsimp only at h
  unfold frz at h
  split at h
  · rename_i ds hd
    obtain ⟨a, vs, e1, e2, e3, e4⟩ := R.sl i _ hd
    have hl : i < δ.length := (List.getElem?_eq_some_iff.mp hd).1
    have ex : Ext H Ω H (freed Ω a) := .free (k := i + 1) e3
    have R0 : aE K H (freed Ω a) σ (δ.set i (.sh (.lst ds))) := by
      refine ⟨by rw [List.length_set]; exact R.len, fun j s q => ?_, fun b k q => ?_⟩
      · by_cases hj : i = j
        · subst hj
          rw [List.getElem?_set_self hl] at q
          cases q
          exact ⟨.ref a, e1, (show ∃ a vs, _ from ⟨a, vs, rfl, ⟨.inl e2, by unfold freed; rw [if_pos rfl]⟩, e4.less r9⟩)⟩
        · rw [List.getElem?_set_ne hj] at q
          refine (R.sl j s q).ext ex fun b ws q1 q2 => ⟨q2, ?_⟩
          unfold freed
          rw [if_neg]
          · exact q1
          · rintro rfl
            rw [e3] at q1
            exact hj (by have := Option.some.inj q1; omega)
      · unfold freed at q
        split at q
        · cases q
        · exact R.trk b k q
    exact hf σ H _ _ R0 B (Wg.ext h ex)
  · exact hf σ H δ Ω R B h
noncomputable def aI (f : DM DV) : DM Fl := f.bd fun a δ => match a with
  | .val d => .ok (.rt d) δ
  | .own ds => .ok (.rto ds) δ
  | .slot i => (match δ[i]? with | some (.ow ds) => .ok (.rto ds) (δ.set i .no) | _ => .un)
  | .fld _ _ => .un
theorem zx {te : TE} {f : DM DV} (ha : DE K E te f) : DS K E mp (rq te) (aI f) := by
  intro σ H δ Ω R B h
  refine ha σ H δ Ω R _ (Wg.bd h fun a δ1 H1 Ω1 ex h1 R1 x r1 => ?_)
  cases a with
  | val d => exact h1 H1 Ω1 .refl σ R1 (fun _ _ => rfl) x r1
  | own ds => exact h1 H1 Ω1 .refl σ R1 (fun _ _ => rfl) x r1
  | fld _ _ => exact h1.elim
  | slot i =>
    simp only at h1
    split at h1
    · rename_i ds hd
      obtain ⟨a, vs, e1, e2, e3, e4⟩ := R1.sl i _ hd
      have r1 : σ[i]? = some (some x) := r1
      rw [r1] at e1
      cases e1
      have hl : i < δ1.length := (List.getElem?_eq_some_iff.mp hd).1
      have R2 := (R1.forget (i := i)).br (k := 0) (k' := i + 1) e3 fun j s q => by
        by_cases z : j = i
        · subst z
          rw [List.getElem?_set_self hl] at q
          exact .inl (Option.some.inj q).symm
        · exact .inr (by omega)
      exact h1 H1 (DL.br Ω1 a (0 + 1)) (.own (k' := i + 1) e3) σ R2 (fun _ _ => rfl) _ ⟨a, vs, rfl, e2, by unfold DL.br; rw [if_pos rfl], e4.ext (.own (k' := i + 1) e3)⟩
    · exact h1.elim
end
end DL
namespace DL
open PySem PySem.Spec PyProof.Rows L2
structure Yl (K : PySem.W.Frag) (J : It) (H : Hp) (Ω : Om) (ds : List D) : Prop where
  go : ∀ i H' Ω', Ext H Ω H' Ω' → i < ds.length → J.go i H'
  yld : ∀ i d H' Ω' x H'', Ext H Ω H' Ω' → ds[i]? = some d → J.yld i H' x H'' → Rep K H'' Ω' d x ∧ (H'' = H' ∨ ∃ p xs, H' p = none ∧ H'' = upd H' p (.tup xs))
  stop : ∀ H' Ω', Ext H Ω H' Ω' → J.stop ds.length H'
noncomputable def DI (K : PySem.W.Frag) (E : Str → Hp → Prop) (wi : TI) (f : DM (List D)) : Prop := ∀ σ H δ Ω, aE K H Ω σ δ → ∀ R : It → Hp → Prop,
  Wg E H Ω (fun ds δ' H' Ω' => aE K H' Ω' σ δ' → ∀ J, (∀ Ω2 : Om, (∀ b, Ω' b = none → Ω2 b = none) → Yl K J H' Ω2 ds) → R J H') (f δ) → wi σ H R
noncomputable def DG (K : PySem.W.Frag) (mp : List Nat) (g : TG) (t : D → DSt → Option DSt) : Prop := ∀ σ H δ Ω d x δ', aE K H Ω σ δ → Rep K H Ω d x → t d δ = some δ' →
  ∀ Q : St → Hp → Prop, (∀ σ', aE K H Ω σ' δ' → (∀ j ∈ mp, σ'[j]? = σ[j]?) → Q σ' H) → g x σ H Q
section
variable {K : PySem.W.Frag} {E : Str → Hp → Prop} {H H1 H2 H' : Hp} {Ω Ω1 Ω2 Ω' : Om} {σ : St} {δ : DSt} {mp : List Nat}
noncomputable def bg (i : Nat) : D → DSt → Option DSt := fun d δ => some (δ.set i (.sh d))
theorem Dw {i : Nat} (hi : i ∉ mp) : DG K mp (iq i) (bg i) := by
  intro σ H δ Ω d x δ' R r e Q h
  cases e
  exact h _ (R.set ⟨x, rfl, r⟩) (set_same hi)
noncomputable def jC : List Nat → List D → DSt → Option DSt
  | [], [], δ => some δ
  | i :: is, d :: ds, δ => jC is ds (δ.set i (.sh d))
  | _, _, _ => none
noncomputable def oI : List Nat → TGs
  | [] => tJ
  | i :: is => sI (iq i) (oI is)
theorem rB : ∀ {is : List Nat}, (∀ i ∈ is, i ∉ mp) → ∀ {σ H δ Ω ds xs δ'}, aE K H Ω σ δ → aB K H Ω ds xs → jC is ds δ = some δ' →
    ∀ Q : St → Hp → Prop, (∀ σ', aE K H Ω σ' δ' → (∀ j ∈ mp, σ'[j]? = σ[j]?) → Q σ' H) → oI is xs σ H Q
  | [], _, σ, H, δ, Ω, [], xs, δ', R, r, e, Q, h => by
    cases e
    exact ⟨r, h σ R fun _ _ => rfl⟩
  | [], _, _, _, _, _, _ :: _, _, _, _, _, e, _, _ => by cases e
  | _ :: _, _, _, _, _, _, [], _, _, _, _, e, _, _ => by cases e
  | i :: is, hi, σ, H, δ, Ω, d :: ds, xs, δ', R, r, e, Q, h => by
    obtain ⟨v, q, e1, e2, e3⟩ := (show ∃ v r, _ from r)
    refine ⟨v, q, e1, ?_⟩
    have R' : aE K H Ω (σ.set i (some v)) (δ.set i (.sh d)) := R.set ⟨v, rfl, e2⟩
    exact rB (is := is) (fun j hj => hi j (List.mem_cons_of_mem _ hj)) R' e3 e Q fun σ' R2 m2 => h σ' R2 fun j hj => (m2 j hj).trans (set_same (hi i List.mem_cons_self) j hj)
noncomputable def b9 (is : List Nat) : D → DSt → Option DSt := fun d δ => match d with
  | .tup ds => jC is ds δ
  | _ => none
theorem uh : ∀ {is : List Nat} {ds : List D} {δ δ' : DSt}, jC is ds δ = some δ' → ds.length = is.length
  | [], [], _, _, _ => rfl
  | [], _ :: _, _, _, e => by cases e
  | _ :: _, [], _, _, e => by cases e
  | _ :: is, _ :: ds, _, _, e => by rw [List.length_cons, List.length_cons, uh (is := is) (ds := ds) e]
theorem su {is : List Nat} {n : Nat} (hi : ∀ i ∈ is, i ∉ mp) (hn : n = is.length) : DG K mp (rf K n (oI is)) (b9 is) := by
  intro σ H δ Ω d x δ' R r e Q h
  cases d with
  | tup ds =>
    obtain ⟨a, vs, e1, e2, e3⟩ := (show ∃ a vs, _ from r)
    exact ⟨a, vs, e1, e2, by rw [← e3.length, hn]; exact uh (show jC is ds δ = some δ' from e), rB hi R e3 (show jC is ds δ = some δ' from e) Q h⟩
  | _ => cases e
noncomputable def bD (t : D → DSt → Option DSt) (body : DM Fl) : List D → DM Fl
  | [], δ => .ok .nx δ
  | d :: ds, δ => match t d δ with
    | none => .un
    | some δ1 => match body δ1 with
      | .un => .un
      | .er c => .er c
      | .ok .nx δ2 => bD t body ds δ2
      | .ok .ct δ2 => bD t body ds δ2
      | .ok .bk δ2 => .ok .nx δ2
      | .ok (.rt d) δ2 => .ok (.rt d) δ2
      | .ok (.rto d) δ2 => .ok (.rto d) δ2
noncomputable def b0 (fi : DM (List D)) (t : D → DSt → Option DSt) (body : DM Fl) : DM Fl := fi.bd fun ds => bD t body ds
theorem drop_cons {α : Type} {l : List α} {i : Nat} {a : α} (h : l[i]? = some a) : l.drop i = a :: l.drop (i + 1) := by
  obtain ⟨hi, e⟩ := List.getElem?_eq_some_iff.mp h
  rw [List.drop_eq_getElem_cons hi, e]
theorem AI {wi : TI} {g : TG} {tb : TS} {fi : DM (List D)} {t : D → DSt → Option DSt} {fb : DM Fl} (hi : DI K E wi fi) (hg : DG K mp g t) (hb : DS K E mp tb fb) : DS K E mp (uK wi g tb) (b0 fi t fb) := by
  intro σ H δ Ω R B h
  refine hi σ H δ Ω R _ (Wg.bd h fun ds δ1 H1 Ω1 _ h1 R1 J YY => ?_)
  have Y := YY Ω1 fun _ z => z
  refine ⟨fun i m σ' H' => m = ds.length - i ∧ i ≤ ds.length ∧ ∃ δ' Ω', aE K H' Ω' σ' δ' ∧ Ext H1 Ω1 H' Ω' ∧ Wg E H' Ω' (PF K mp σ' B) (bD t fb (ds.drop i) δ'), ⟨_, rfl, Nat.zero_le _, δ1, Ω1, R1, .refl, h1⟩, ?_⟩
  rintro i m σ' H' ⟨rfl, hl, δ', Ω', R', e', w⟩
  by_cases hlt : i < ds.length
  · refine .inr ⟨Y.go i H' Ω' e' hlt, fun σ2 H2 => ∃ δ2 Ω2, aE K H2 Ω2 σ2 δ2 ∧ Ext H1 Ω1 H2 Ω2 ∧ Wg E H2 Ω2 (PF K mp σ2 B) (bD t fb (ds.drop (i + 1)) δ2), fun σ2 H2 ⟨δ2, Ω2, R2, e2, w2⟩ => ⟨_, by omega, rfl, hlt, δ2, Ω2, R2, e2, w2⟩, fun x H2 hy => ?_⟩
    obtain ⟨d, hd⟩ : ∃ d, ds[i]? = some d := ⟨ds[i], List.getElem?_eq_getElem hlt⟩
    obtain ⟨rx, hH⟩ := Y.yld i d H' Ω' x H2 e' hd hy
    have R2 : aE K H2 Ω' σ' δ' := by
      rcases hH with z | ⟨p, xs, hp, z⟩
      · rw [z]; exact R'
      · rw [z]; exact R'.alloc hp
    have e2 : Ext H' Ω' H2 Ω' := by
      rcases hH with z | ⟨p, xs, hp, z⟩
      · rw [z]; exact .refl
      · rw [z]; exact .alloc hp R'.trk
    rw [drop_cons hd] at w
    unfold bD at w
    cases q : t d δ' with
    | none => rw [q] at w; exact w.elim
    | some δ3 =>
      rw [q] at w
      simp only at w
      refine hg σ' H2 δ' Ω' d x δ3 R2 rx q _ fun σ3 R3 m3 => ?_
      refine hb σ3 H2 δ3 Ω' R3 _ ?_
      cases q4 : fb δ3 with
      | un => rw [q4] at w; exact w
      | er c => rw [q4] at w; exact Wg.ext (P := PF K mp σ' B) (r := .er c) w e2
      | ok fl δ4 =>
        rw [q4] at w
        cases fl with
        | nx => exact fun H4 Ω4 e4 σ4 R4 m4 => ⟨δ4, Ω4, R4, e'.trans (e2.trans e4), (Wg.ext w (e2.trans e4)).same fun j hj => (m4 j hj).trans (m3 j hj)⟩
        | ct => exact fun H4 Ω4 e4 σ4 R4 m4 => ⟨δ4, Ω4, R4, e'.trans (e2.trans e4), (Wg.ext w (e2.trans e4)).same fun j hj => (m4 j hj).trans (m3 j hj)⟩
        | bk => exact fun H4 Ω4 e4 σ4 R4 m4 => w H4 Ω4 (e2.trans e4) σ4 R4 fun j hj => (m4 j hj).trans (m3 j hj)
        | rt d => exact fun H4 Ω4 e4 σ4 R4 m4 => w H4 Ω4 (e2.trans e4) σ4 R4 fun j hj => (m4 j hj).trans (m3 j hj)
        | rto d => exact fun H4 Ω4 e4 σ4 R4 m4 => w H4 Ω4 (e2.trans e4) σ4 R4 fun j hj => (m4 j hj).trans (m3 j hj)
  · have hil : i = ds.length := by omega
    subst hil
    rw [List.drop_length] at w
    exact .inl ⟨Y.stop H' Ω' e', w H' Ω' .refl σ' R' fun _ _ => rfl⟩
noncomputable def cT (c : DM Bool) (body : DM Fl) : Nat → DM Fl
  | 0 => fun _ => .un
  | n + 1 => c.bd fun b => if b then (fun δ => match body δ with
      | .un => .un
      | .er c => .er c
      | .ok .nx δ2 => cT c body n δ2
      | .ok .ct δ2 => cT c body n δ2
      | .ok .bk δ2 => .ok .nx δ2
      | .ok (.rt d) δ2 => .ok (.rt d) δ2
      | .ok (.rto d) δ2 => .ok (.rto d) δ2) else .ret .nx
theorem wF {c : TT} {tb : TS} {fc : DM Bool} {fb : DM Fl} (n : Nat) (hc : DT K E c fc) (hb : DS K E mp tb fb) : DS K E mp (vJ c tb) (cT fc fb n) := by
  intro σ H δ Ω R B h
  refine ⟨fun m σ' H' => ∃ δ' Ω', aE K H' Ω' σ' δ' ∧ Wg E H' Ω' (PF K mp σ' B) (cT fc fb m δ'), ⟨n, δ, Ω, R, h⟩, ?_⟩
  rintro m σ' H' ⟨δ', Ω', R', w⟩
  cases m with
  | zero => exact w.elim
  | succ m =>
    refine hc.use R' w fun b δ1 H1 Ω1 _ R1 h1 => ?_
    cases b with
    | false => exact iX (h1 H1 Ω1 .refl σ' R1 fun _ _ => rfl)
    | true =>
      refine ix ⟨fun σ2 H2 => ∃ δ2 Ω2, aE K H2 Ω2 σ2 δ2 ∧ Wg E H2 Ω2 (PF K mp σ2 B) (cT fc fb m δ2), fun σ2 H2 h2 => ⟨m, Nat.lt_succ_self m, h2⟩, ?_⟩
      refine hb σ' H1 δ1 Ω1 R1 _ ?_
      simp only [if_true] at h1
      cases q4 : fb δ1 with
      | un => rw [q4] at h1; exact h1
      | er c => rw [q4] at h1; exact h1
      | ok fl δ4 =>
        rw [q4] at h1
        cases fl with
        | nx => exact fun H4 Ω4 e4 σ4 R4 m4 => ⟨δ4, Ω4, R4, (Wg.ext h1 e4).same m4⟩
        | ct => exact fun H4 Ω4 e4 σ4 R4 m4 => ⟨δ4, Ω4, R4, (Wg.ext h1 e4).same m4⟩
        | bk => exact fun H4 Ω4 e4 σ4 R4 m4 => h1 H4 Ω4 e4 σ4 R4 m4
        | rt d => exact fun H4 Ω4 e4 σ4 R4 m4 => h1 H4 Ω4 e4 σ4 R4 m4
        | rto d => exact fun H4 Ω4 e4 σ4 R4 m4 => h1 H4 Ω4 e4 σ4 R4 m4
noncomputable def fIt (f : DM DV) (g : D → Option (List D)) : DM (List D) := (fN f).bd fun a δ => match a with
  | .val d => (match g d with | some ds => .ok ds δ | none => .un)
  | _ => .un
noncomputable def cD : D → Option (List D)
  | .lst ds => some ds
  | _ => none
theorem yb {a : Addr} {vs : List V} {ds : List D} (h : ShL H Ω a vs) (r : aB K H Ω ds vs) : Yl K (Itl K a) H Ω ds where
  go := fun i H' Ω' e hi => by
    obtain ⟨v, q, _⟩ := r.get (List.getElem?_eq_getElem hi)
    exact ⟨vs, v, (.inl (h.ext e).1), q⟩
  yld := fun i d H' Ω' x H'' e hd hy => by
    obtain ⟨z, hy⟩ := hy
    subst z
    obtain ⟨v, q, rv⟩ := (r.ext e).get hd
    have := hy vs (.inl (h.ext e).1)
    rw [q] at this
    cases this
    exact ⟨rv, .inl rfl⟩
  stop := fun H' Ω' e => ⟨vs, (.inl (h.ext e).1), by rw [r.length]; exact Nat.le_refl _⟩
noncomputable def bK (lo : Int) (n : Nat) : List D := (List.range n).map fun (k : Nat) => D.int (lo + (k : Int))
theorem xc (lo : Int) (n : Nat) : Yl K (Itr lo n) H Ω (bK lo n) where
  go := fun i H' Ω' e hi => by
    unfold bK at hi
    rw [List.length_map, List.length_range] at hi
    exact hi
  yld := fun i d H' Ω' x H'' e hd hy => by
    obtain ⟨z, hy⟩ := hy
    subst z
    unfold bK at hd
    rw [List.getElem?_map] at hd
    cases q : (List.range n)[i]? with
    | none => rw [q] at hd; cases hd
    | some k =>
      rw [q] at hd
      have hk : k = i := by
        obtain ⟨h1, h2⟩ := List.getElem?_eq_some_iff.mp q
        rw [List.getElem_range] at h2
        exact h2.symm
      subst hk
      cases hd
      exact ⟨hy, .inl rfl⟩
  stop := fun H' Ω' e => by
    unfold bK
    rw [List.length_map, List.length_range]
    exact Nat.le_refl n
theorem Aq {te : TE} {f : DM DV} (ha : DE K E te f) : DI K E (tM K te) (fIt f cD) := by
  intro σ H δ Ω R Q h
  refine ha.use R h fun a x δ1 H1 Ω1 _ s1 R1 r1 h1 => ?_
  cases a with
  | val d =>
    cases d with
    | lst ds =>
      obtain ⟨b, vs, e1, e2, e3⟩ := (show ∃ a vs, _ from r1)
      exact ⟨b, e1, ⟨vs, .inl e2.1⟩, h1 H1 Ω1 .refl R1 _ fun Ω2 z => yb (e2.less z) (e3.less z)⟩
    | _ => exact h1.elim
  | slot i => exact h1.elim
  | fld _ _ => exact h1.elim
  | own ds => exact h1.elim
noncomputable def gB (j : Int) : Bool := decide (-(2 ^ 62) ≤ j) && decide (j < 2 ^ 62)
noncomputable def dv (fa : DM (List DV)) : DM (List D) := fa.bd fun as δ => match as with
  | [.val (.int j)] => if gB j then .ok (bK 0 j.toNat) δ else .un
  | _ => .un
theorem Cy {t : TA} {fa : DM (List DV)} (ha : DA K E t fa) : DI K E (qA t) (dv fa) := by
  intro σ H δ Ω R Q h
  refine ha.use R h fun as vs δ1 H1 Ω1 _ s1 R1 r1 h1 => ?_
  (try dsimp only at h1)
  split at h1
  · rename_i j
    split at h1
    · rename_i hj
      unfold gB at hj
      simp only [Bool.and_eq_true, decide_eq_true_eq] at hj
      obtain ⟨v, q, e1, e2, e3⟩ := r1
      cases (show q = [] from e3)
      cases (show v = .int j from e2)
      exact ⟨j, e1, hj.1, hj.2, h1 H1 Ω1 .refl R1 _ fun Ω2 z => xc 0 _⟩
    · exact h1.elim
  · exact h1.elim
noncomputable def under (Ω : Om) : Om := fun b => (Ω b).map fun _ => 0
noncomputable def back (Ω Ω' : Om) : Om := fun b => match Ω' b with
  | some 0 => Ω b
  | some 1 => some 1
  | _ => none
theorem fB {b : Addr} (h : Ω b = none) : under Ω b = none := by unfold under; rw [h]; rfl
theorem iw {b : Addr} {k : Nat} (h : Ω b = some k) : under Ω b = some 0 := by unfold under; rw [h]; rfl
theorem fD (b : Addr) (h : Ω' b = none) : back Ω Ω' b = none := by unfold back; rw [h]
theorem nt {b : Addr} (h : Ω' b = some 0) : back Ω Ω' b = Ω b := by unfold back; rw [h] <;> rfl
theorem kH {b : Addr} (h : Ω' b = some 1) : back Ω Ω' b = some 1 := by unfold back; rw [h] <;> rfl
theorem Ext.back (e : Ext H (under Ω) H' Ω') : Ext H Ω H' (back Ω Ω') where
  keep := fun b o q h => e.keep b o q (h.imp_right fun z => z.imp fB iw)
  new := fun b q h => fD b (e.new b (fB q) h)
  fr := fun b => by
    constructor
    · intro h
      rw [nt ((e.fr b).mp (iw h))]
      exact h
    · intro h
      unfold DL.back at h
      split at h
      · exact h
      · cases h
      · cases h
  live := e.live
theorem aE.back (R : aE K H Ω σ δ) (e : Ext H (under Ω) H' Ω') (ht : ∀ a k, Ω' a = some k → ∃ u, H' a = some u ∧ cE u = false) : aE K H' (back Ω Ω') σ δ := by
  refine R.ext e.back (fun b k vs q1 q2 => ⟨e.keep b _ q2 (.inr (.inr (iw q1))), by rw [nt ((e.fr b).mp (iw q1))]; exact q1⟩) fun a k q => ?_
  unfold DL.back at q
  split at q
  · rename_i z; exact ht a _ z
  · rename_i z; exact ht a _ z
  · cases q
inductive Ro where
  | un | er (c : Str) | ok (d : D) | own (ds : List D)
noncomputable def RoQ (K : PySem.W.Frag) (E : Str → Hp → Prop) (H : Hp) (Ω : Om) (Q : VK) : Ro → Prop
  | .un => False
  | .er c => ∀ H' Ω', Ext H Ω H' Ω' → Trk H' Ω' → E c H'
  | .ok d => ∀ H' Ω', Ext H Ω H' Ω' → Trk H' Ω' → ∀ v, Rep K H' Ω' d v → Q v H'
  | .own ds => ∀ H' Ω', Ext H Ω H' Ω' → Trk H' Ω' → ∀ v, dg K H' Ω' [] (.own ds) v → Q v H'
noncomputable def spP (K : PySem.W.Frag) (ce : Str → Value) (n : Nat) (M : List D → Ro) : Sp := fun vs H Q E => vs.length = n ∧ ∃ Ω ds, Trk H Ω ∧ (∀ b k, Ω b = some k → k = 0) ∧ aB K H Ω ds vs ∧ RoQ K (fun c H' => E (ce c) none H') H Ω Q (M ds)
noncomputable def aD (n : Nat) (fa : DM (List DV)) (M : List D → Ro) : DM DV := fa.bd fun as δ => match cw as with
  | none => .un
  | some ds => if ds.length = n then (match M ds with
    | .un => .un
    | .er c => .er c
    | .ok d => .ok (.val d) δ
    | .own ds => .ok (.own ds) δ) else .un
theorem jP (t : Trk H Ω) : Trk H (under Ω) := fun a k q => by
  unfold under at q
  cases e : Ω a with
  | none => rw [e] at q; cases q
  | some j => exact t a j e
theorem mJ : ∀ b k, under Ω b = some k → k = 0 := fun b k q => by
  unfold under at q
  cases e : Ω b with
  | none => rw [e] at q; cases q
  | some j => rw [e] at q; cases q; rfl
theorem pD {ce : Str → Value} {n : Nat} {M : List D → Ro} {Ex : XK} {t : TA} {fa : DM (List DV)} (hE : ∀ c H', E c H' → Ex (ce c) none H') (ha : DA K E t fa) : DE K E (nB (spP K ce n M) [] Ex t) (aD n fa M) := by
  intro σ H δ Ω R Q h
  refine ha.use R h fun as vs δ1 H1 Ω1 _ s1 R1 r1 h1 => ?_
  (try dsimp only at h1)
  cases q1 : cw as with
  | none => rw [q1] at h1; exact h1.elim
  | some ds =>
    rw [q1] at h1
    dsimp only at h1
    split at h1
    · rename_i hn
      have r := r1.vals q1
      show spP K ce n M (vs ++ []) H1 Q Ex
      rw [List.append_nil]
      refine ⟨by rw [← r.length]; exact hn, under Ω1, ds, jP R1.trk, mJ, r.less fun b q => fB q, ?_⟩
      cases q3 : M ds with
      | un => rw [q3] at h1; exact h1
      | er c => rw [q3] at h1; exact fun H' Ω' e' t' => hE c H' (h1 H' _ e'.back (R1.back e' t').trk)
      | ok d => rw [q3] at h1; exact fun H' Ω' e' t' v rv => h1 H' _ e'.back (R1.back e' t') v (Rep.less fD rv)
      | own es =>
        rw [q3] at h1
        intro H' Ω' e' t' v ⟨a, ws, z1, z2, z3, z4⟩
        exact h1 H' _ e'.back (R1.back e' t') v ⟨a, ws, z1, z2, kH z3, z4.less fD⟩
    · exact h1.elim
noncomputable def iU (δ : DSt) (sel : List (Option Nat)) : DSt := sel.map fun o => match o with
  | none => .no
  | some j => match δ[j]? with | some (.sh d) => .sh d | _ => .no
noncomputable def cf (t : D → DSt → Option DSt) (fc : DM Bool) (fe : DM DV) : List D → DSt → List D → Option (List D)
  | [], _, out => some out
  | d :: ds, δ, out => match t d δ with
    | none => none
    | some δ1 => match fc δ1 with
      | .ok true δ2 => (match fN fe δ2 with
        | .ok (.val v) δ3 => if out.length < sizeLine then cf t fc fe ds δ3 (out ++ [v]) else none
        | _ => none)
      | .ok false δ2 => cf t fc fe ds δ2 out
      | _ => none
noncomputable def fLC (fi : DM (List D)) (t : D → DSt → Option DSt) (fc : DM Bool) (fe : DM DV) (sel : List (Option Nat)) : DM DV := fi.bd fun ds δ => match cf t fc fe ds (iU δ sel) [] with
  | some out => .ok (.own out) δ
  | none => .un
noncomputable def EN : Str → Hp → Prop := fun _ _ => False
theorem aE.d9 (R : aE K H Ω σ δ) (sel : List (Option Nat)) (hl : ∀ b, Ω b = none → Ω' b = none) (ht : Trk H Ω') : aE K H Ω' (d9 σ sel) (iU δ sel) := by
  refine ⟨by unfold L2.d9 iU; rw [List.length_map, List.length_map], fun i s h => ?_, ht⟩
  unfold iU at h
  rw [List.getElem?_map] at h
  cases q : sel[i]? with
  | none => rw [q] at h; cases h
  | some o =>
    rw [q] at h
    cases o with
    | none => cases h; trivial
    | some j =>
      have h : (match δ[j]? with | some (.sh d) => Sl.sh d | _ => .no) = s := Option.some.inj h
      have e : (L2.d9 σ sel)[i]? = some ((σ[j]?).join) := by unfold L2.d9; rw [List.getElem?_map, q]; rfl
      rw [e]
      split at h
      · rename_i d hd
        subst h
        obtain ⟨v, e1, e2⟩ := R.sl j _ hd
        exact ⟨v, e1, Rep.less hl e2⟩
      · subst h; trivial
theorem Ext.hide {p : Addr} (e : Ext H Ω H' Ω') (hp : Ω p = some 0) (hl : ∃ vs, H p = some vs ∧ cE vs = false) : Ext H (br Ω p 1) H' (br Ω' p 1) where
  keep := fun b o q h => by
    by_cases hb : b = p
    · subst hb
      exact e.keep b o q (.inr (.inr hp))
    · refine e.keep b o q ?_
      unfold br at h
      rw [if_neg hb] at h
      exact h
  new := fun b q h => by
    unfold br at q ⊢
    split at q
    · cases q
    · rename_i hb
      rw [if_neg hb]
      exact e.new b q h
  fr := fun b => by
    unfold br
    split
    · constructor <;> intro q <;> cases q
    · exact e.fr b
  live := e.live
theorem Ext.put {p : Addr} {o : HO} (hl : ∃ vs, H p = some vs ∧ cE vs = false) (hp : Ω p = some 1) : Ext H Ω (upd H p o) Ω where
  keep := fun b o' q h => by
    have hb : b ≠ p := by
      rintro rfl
      obtain ⟨vs, e, f⟩ := hl
      rw [e] at q
      cases q
      rcases h with h | h | h
      · rw [f] at h; cases h
      · rw [hp] at h; cases h
      · rw [hp] at h; cases h
    rw [bf hb]
    exact q
  new := fun _ q _ => q
  fr := fun _ => Iff.rfl
  live := fun b q => by
    unfold upd at q
    split at q
    · cases q
    · exact q
theorem nT {p : Addr} {xs : List V} (hl : ∃ vs, H p = some vs ∧ cE vs = false) : Ext H (br Ω p 1) (upd H p (.lst xs)) (br Ω p 1) := .put hl (by unfold br; rw [if_pos rfl])
theorem pH {p : Addr} (hp : Ω p ≠ none) : ∀ b, Ω b = none → br Ω p 1 b = none := fun b q => by
  unfold br
  rw [if_neg]
  · exact q
  · rintro rfl; exact hp q
theorem oO {p : Addr} : ∀ b, br Ω p 1 b = none → Ω b = none := fun b q => by
  unfold br at q
  split at q
  · cases q
  · exact q
theorem Rep.put {p : Addr} {xs : List V} {d : D} {v : V} (h : Rep K H Ω d v) (hl : ∃ vs, H p = some vs ∧ cE vs = false) (hp : Ω p ≠ none) : Rep K (upd H p (.lst xs)) Ω d v :=
  Rep.less oO ((Rep.less (pH hp) h).ext (nT hl))
theorem aB.put {p : Addr} {xs : List V} {ds : List D} {vs : List V} (h : aB K H Ω ds vs) (hl : ∃ vs, H p = some vs ∧ cE vs = false) (hp : Ω p ≠ none) : aB K (upd H p (.lst xs)) Ω ds vs :=
  aB.less oO ((aB.less (pH hp) h).ext (nT hl))
theorem aE.put {p : Addr} {xs : List V} (R : aE K H Ω σ δ) (hp : Ω p = some 0 ∨ Ω p = some 1) : aE K (upd H p (.lst xs)) Ω σ δ := by
  have hl : ∃ vs, H p = some vs ∧ cE vs = false := hp.elim (R.trk p 0) (R.trk p 1)
  have hp' : Ω p ≠ none := by rcases hp with z | z <;> (rw [z]; exact Option.some_ne_none _)
  refine ⟨R.len, fun i s h => ?_, fun a k q => ?_⟩
  · refine (R.sl i s h).mv (fun _ _ z => z.put hl hp') (fun _ _ z => z.put hl hp') fun a ws e3 e2 => ?_
    have ha : a ≠ p := by rintro rfl; rcases hp with z | z <;> (rw [z] at e3; cases e3)
    exact ⟨by rw [bf ha]; exact e2, e3⟩
  · by_cases ha : a = p
    · subst ha; exact ⟨_, cK, rfl⟩
    · obtain ⟨ws, e, f⟩ := R.trk a k q
      exact ⟨ws, by rw [bf ha]; exact e, f⟩
theorem aE.relabel (R : aE K H Ω σ δ) (h0 : ∀ b, Ω b = none → Ω' b = none) (h2 : ∀ b k, Ω b = some (k + 2) → Ω' b = some (k + 2)) (ht : Trk H Ω') : aE K H Ω' σ δ :=
  ⟨R.len, fun i s h => (R.sl i s h).mv (fun _ _ => Rep.less h0) (fun _ _ => aB.less h0) fun a ws e3 e2 => ⟨e2, h2 a i e3⟩, ht⟩
theorem vb {p : Addr} {k : Nat} (t : Trk H Ω) (hl : ∃ vs, H p = some vs ∧ cE vs = false) : Trk H (br Ω p k) := fun a j q => by
  by_cases ha : a = p
  · subst ha; exact hl
  · unfold br at q
    rw [if_neg ha] at q
    exact t a j q
theorem uF {wi : TI} {g : TG} {ts : TT} {te : TE} {sel : List (Option Nat)} {fi : DM (List D)} {t : D → DSt → Option DSt} {fc : DM Bool} {fe : DM DV} (hi : DI K E wi fi) (hg : DG K [] g t) (hc : DT K EN ts fc) (he : DE K EN te fe) :
    DE K E (tLC wi g ts te sel) (fLC fi t fc fe sel) := by
  intro σ H δ Ω R Q h
  refine hi σ H δ Ω R _ (Wg.bd h fun ds δ1 H1 Ω1 _ h1 R1 J YY p hp => ?_)
  have Y := YY (under Ω1) fun _ z => fB z
  have he := he.norm
  (try dsimp only at h1)
  cases hres : cf t fc fe ds (iU δ1 sel) [] with
  | none => rw [hres] at h1; exact h1.elim
  | some rs =>
    rw [hres] at h1
    have R0 : aE K (upd H1 p (.lst [])) (br (dj (under Ω1) p) p 0) (d9 σ sel) (iU δ1 sel) := by
      have r1 := (R1.d9 sel (Ω' := under Ω1) (fun b q => fB q) (jP R1.trk)).alloc1 (xs := []) hp
      refine r1.relabel (fun b q => ?_) (fun b k q => ?_) (vb r1.trk ⟨_, cK, rfl⟩)
      · unfold br
        rw [if_neg]
        · exact q
        · rintro rfl
          unfold dj at q
          rw [if_pos rfl] at q
          cases q
      · unfold br
        rw [if_neg]
        · exact q
        · rintro rfl
          unfold dj at q
          rw [if_pos rfl] at q
          cases q
    have o0 : br (dj (under Ω1) p) p 0 p = some 0 := by unfold br; rw [if_pos rfl]
    have e0 : Ext H1 (under Ω1) (upd H1 p (.lst [])) (br (br (dj (under Ω1) p) p 0) p 1) := by
      have q : br (br (dj (under Ω1) p) p 0) p 1 = dj (under Ω1) p := by
        funext b
        unfold br dj
        split <;> rfl
      rw [q]
      exact .alloc1 hp (jP R1.trk)
    refine ⟨fun i m σ' H' => m = ds.length - i ∧ i ≤ ds.length ∧ ∃ δ' Ω' out ws, aE K H' Ω' σ' δ' ∧ Ω' p = some 0 ∧ H' p = some (.lst ws) ∧ aB K H' Ω' out ws ∧ Ext H1 (under Ω1) H' (br Ω' p 1) ∧ cf t fc fe (ds.drop i) δ' out = some rs,
      ⟨_, rfl, Nat.zero_le _, _, _, [], [], R0, o0, cK, .nil, e0, hres⟩, ?_⟩
    rintro i m σ' H' ⟨rfl, hl, δ', Ω', out, ws, R', op, hw, rw', e', w⟩
    have t' : Trk H' (br Ω' p 1) := vb R'.trk ⟨_, hw, rfl⟩
    have np : ∀ b, Ω' b = none → br Ω' p 1 b = none := pH (by rw [op]; exact Option.some_ne_none _)
    by_cases hlt : i < ds.length
    · refine .inr ⟨Y.go i H' _ e' hlt, fun σ2 H2 => ∃ δ' Ω' out ws, aE K H2 Ω' σ2 δ' ∧ Ω' p = some 0 ∧ H2 p = some (.lst ws) ∧ aB K H2 Ω' out ws ∧ Ext H1 (under Ω1) H2 (br Ω' p 1) ∧ cf t fc fe (ds.drop (i + 1)) δ' out = some rs,
        fun σ2 H2 h2 => ⟨_, by omega, rfl, hlt, h2⟩, fun x H2 hy => ?_⟩
      obtain ⟨d, hd⟩ : ∃ d, ds[i]? = some d := ⟨ds[i], List.getElem?_eq_getElem hlt⟩
      obtain ⟨rx, hH⟩ := Y.yld i d H' _ x H2 e' hd hy
      have R2 : aE K H2 Ω' σ' δ' := by
        rcases hH with z | ⟨q, xs, hq, z⟩
        · rw [z]; exact R'
        · rw [z]; exact R'.alloc hq
      have e2 : Ext H' Ω' H2 Ω' := by
        rcases hH with z | ⟨q, xs, hq, z⟩
        · rw [z]; exact .refl
        · rw [z]; exact .alloc hq R'.trk
      rw [drop_cons hd] at w
      unfold cf at w
      cases q : t d δ' with
      | none => rw [q] at w; cases w
      | some δ3 =>
        rw [q] at w
        dsimp only at w
        refine hg σ' H2 δ' Ω' d x δ3 R2 (Rep.less oO rx) q _ fun σ3 R3 _ => ?_
        refine hc σ3 H2 δ3 Ω' R3 _ ?_
        cases q4 : fc δ3 with
        | un => rw [q4] at w; cases w
        | er c => rw [q4] at w; cases w
        | ok b δ4 =>
          rw [q4] at w
          intro H4 Ω4 e4 R4
          have e24 := e2.trans e4
          have op4 : Ω4 p = some 0 := (e24.fr p).mp op
          have hw4 : H4 p = some (.lst ws) := e24.keep p _ hw (.inr (.inr op))
          cases b with
          | false =>
            refine iX ?_
            exact ⟨δ4, Ω4, out, ws, R4, op4, hw4, rw'.ext e24, e'.trans (e24.hide op ⟨_, hw, rfl⟩), w⟩
          | true =>
            refine ix ?_
            dsimp only at w
            refine he σ3 H4 δ4 Ω4 R4 _ ?_
            cases q5 : fN fe δ4 with
            | un => rw [q5] at w; cases w
            | er c => rw [q5] at w; cases w
            | ok z δ5 =>
              rw [q5] at w
              cases z with
              | slot j => cases w
              | fld _ _ => cases w
              | own es => cases w
              | val v =>
                dsimp only at w
                split at w
                · rename_i hz
                  intro H5 Ω5 e5 R5 x5 r5
                  have e25 := e24.trans e5
                  have op5 : Ω5 p = some 0 := (e25.fr p).mp op
                  have hw5 : H5 p = some (.lst ws) := e25.keep p _ hw (.inr (.inr op))
                  have hn5 : Ω5 p ≠ none := by rw [op5]; exact Option.some_ne_none _
                  refine ⟨ws, hw5, by rw [← rw'.length]; exact hz, δ5, Ω5, out ++ [v], ws ++ [x5], R5.put (.inl op5), op5, cK, ?_, ?_, w⟩
                  · exact (((rw'.ext e25).append (.cons r5 .nil))).put ⟨_, hw5, rfl⟩ hn5
                  · exact (e'.trans (e25.hide op ⟨_, hw, rfl⟩)).trans (nT ⟨_, hw5, rfl⟩)
                · cases w
    · have hil : i = ds.length := by omega
      subst hil
      rw [List.drop_length] at w
      cases w
      refine .inl ⟨Y.stop H' _ e', h1 H' _ e'.back (R1.back e' t') _ ⟨p, ws, rfl, hw, kH (by unfold br; rw [if_pos rfl]), rw'.less fun b q => fD b (np b q)⟩⟩
end
end DL
namespace L2
open PySem PySem.Spec PyProof.Rows
section
variable {X : Cx}
noncomputable def sv : R2 := fun x y H Q => ∃ l b xs zs, x = .ref l ∧ y = .ref b ∧ Rd H l (.lst xs) ∧ Rd H b (.lst zs) ∧ xs.length + zs.length ≤ sizeLine ∧ ∀ p, H p = none → Q (.ref p) (upd H p (.lst (xs ++ zs)))
theorem Inv.plain {pins : List (Addr × Obj)} {σ : St} {H : Hp} {s : Shared} {a : Addr} {xs : List V} (I : Inv X pins σ H s) (h : Rd H a (.lst xs)) :
    ∃ (its : List Value) (n : Nat), Vals xs its ∧ s.heap.get? a = some { cls := .type "list", data := .seq its.toArray n } ∧ xs.length ≤ sizeLine := by
  obtain ⟨z, its, n, r, e⟩ := (show cA X.prog X.w H s.heap a (.lst xs) from h.ok I.hok)
  exact ⟨its, n, r, e, z⟩
theorem Br : OpR X (binaryOp .Add) sv := by
  intro pins s σ H x y v u Q I rx ry h
  obtain ⟨l, b, xs, zs, rfl, rfl, hH, hB, hz, q⟩ := h
  cases rx
  cases ry
  obtain ⟨its, n, r, e, z⟩ := I.plain hH
  obtain ⟨its2, n2, r2, e2, z2⟩ := I.plain hB
  have hl := r.length
  have hl2 := r2.length
  refine PySem.P.add_list e e2 ?_ (by rw [List.size_toArray, List.size_toArray]; omega)
  have ea : its.toArray ++ its2.toArray = (its ++ its2).toArray := by simp
  rw [ea]
  exact ⟨.ref _, _, I.lnew (t' := s.toks) (r.append r2) (by rw [List.length_append]; omega), rfl, q _ I.fresh⟩
theorem o7 : ∀ {ys : List Str} {us : List Value}, Vals (ys.map V.str) us → StrsAre us ys
  | [], _, .nil => .nil
  | y :: ys, _, .cons r q => by
    obtain ⟨t, rfl⟩ := r
    exact .cons y t (o7 q)
noncomputable def rJoin (K : PySem.W.Frag) : V → List V → Hp → VK → Prop := fun x vs H Q => ∃ sep p ys, x = .str sep ∧ vs = [.ref p] ∧ (SqL K H p (ys.map V.str) ∨ SqT K H p (ys.map V.str)) ∧ (ys.map (·.length)).sum + ys.length * sep.length ≤ 16777216 ∧ Q (.str (Txt.join sep ys)) H
theorem yu : MtR X "str.join" (rJoin X.K) := by
  intro pins s σ H x vs v us Q I rx rv h
  obtain ⟨sep, p, ys, rfl, rfl, hq, hz, q⟩ := h
  obtain ⟨t, rfl⟩ := rx
  obtain ⟨u, rfl, ru⟩ := rv.one
  cases ru
  rcases hq with hq | hq
  · obtain ⟨its, r, pl, z⟩ := I.list hq
    exact join_list pl.isList (by simpa using o7 r) hz fun t' k => ⟨.str _, H, I.tok k, ⟨_, rfl⟩, q⟩
  · obtain ⟨its, r, pl, z⟩ := I.tuple hq
    exact join_tuple pl (by simpa using o7 r) hz fun t' k => ⟨.str _, H, I.tok k, ⟨_, rfl⟩, q⟩
inductive TyD (K : PySem.W.Frag) (H : Hp) : V → String → Prop where
  | non : TyD K H .non "NoneType"
  | bl (x : Bool) : TyD K H (.bl x) "bool"
  | int (i : Int) : TyD K H (.int i) "int"
  | str (x : Str) : TyD K H (.str x) "str"
  | lst {a : Addr} {xs : List V} (e : SqL K H a xs) : TyD K H (.ref a) "list"
  | tup {a : Addr} {xs : List V} (e : SqT K H a xs) : TyD K H (.ref a) "tuple"
theorem CN : eA X (.builtin "isinstance") (fun xs H Q => ∃ x T t b, xs = [x, .ty T] ∧ TyD X.K H x t ∧ PySem.W.kitOne X.K (.type t) (.type T) = some b ∧ Q (.bl b) H) := by
  intro pins s σ H xs us Q I r h
  obtain ⟨x, T, t, b, rfl, ty, e, q⟩ := h
  obtain ⟨u, c, rfl, rx, rc⟩ := vals2 r
  cases rc
  have fin : ∀ tk, EP X pins σ Q (.bool b) { s with toks := tk } := fun tk => ⟨.bl b, H, I.tok tk, rfl, q⟩
  cases ty with
  | non => cases (show u = Value.none from rx); exact PySem.W.kia_one PySem.W.kitx_none I.kIn True.intro e (fun z => nomatch z) fin
  | bl y => cases (show u = Value.bool y from rx); exact PySem.W.kia_one PySem.W.kitx_bool I.kIn True.intro e (fun z => nomatch z) fin
  | int i => obtain ⟨t, z⟩ := (show ∃ t, u = Value.int i t from rx); cases z; exact PySem.W.kia_one PySem.W.kitx_int I.kIn True.intro e (fun z => nomatch z) fin
  | str y => obtain ⟨t, z⟩ := (show ∃ t, u = Value.str y t from rx); cases z; exact PySem.W.kia_one PySem.W.kitx_str I.kIn True.intro e (fun z => nomatch z) fin
  | @lst a ys ea =>
    cases (show u = Value.ref a from rx)
    obtain ⟨its, _, ⟨o, n, h1, h2, _⟩, _⟩ := I.list ea
    exact PySem.W.kia_one PySem.W.kitx_list I.kIn ⟨o, h1, h2⟩ e (fun z => nomatch z) fin
  | @tup a ys ea =>
    cases (show u = Value.ref a from rx)
    obtain ⟨its, _, ⟨o, h1, h2, _⟩, _⟩ := I.tuple ea
    exact PySem.W.kia_one PySem.W.kitx_tuple I.kIn ⟨o, h1, h2⟩ e (fun z => nomatch z) fin
end
end L2
namespace L2
open PySem PySem.Spec PyProof.Rows
section
variable {X : Cx}
noncomputable def Its (x : Str) : It := ⟨fun i _ => i < x.cps.size, fun i H v H' => H' = H ∧ ∃ c, x.cps[i]? = some c ∧ v = .str ⟨#[c]⟩, fun i _ => x.cps.size ≤ i⟩
theorem wg {P : Program} {w : World} {K : PySem.W.Frag} {tg : Expr} (x : Str) (t : Tok) (it : Addr) : Turn P w K tg (Its x) [it] it (fun i h => h.IsStrIter it "str_ascii_iterator" x t i) where
  mem := by simp
  obj := fun i h st b hb => by
    have e : b = it := by simpa using hb
    subst e
    obtain ⟨o, e, c, d⟩ := st
    exact ⟨o, e, fun v z => by rw [d] at z; cases z⟩
  keep := fun i h h' st k => by
    obtain ⟨o, e, r⟩ := st
    exact ⟨o, k it (by simp) o e, r⟩
  item := by
    intro X hP hw hK hc i pins s σ H E I hf st hg
    subst hP hw hK
    obtain ⟨f0, f1, f2, f3, f4, f5⟩ := hf it (by simp)
    have hg : i < x.cps.size := hg
    refine wpAny_pyNext_ascii_item st (c := x.cps[i]) (by simp [hg]) fun h' st' sb => ?_
    have I1 : Inv X pins σ H { s with heap := h', toks := s.toks + 1 } := I.turned (fun b o hb e => (sb.2 b hb).trans e) f0 f1 f3 f4 f5
    obtain ⟨o, e, c, d⟩ := id st'
    exact ⟨_, rfl, kT (s := { s with heap := h', toks := s.toks + 1 }) e c d (by decide) ⟨.str ⟨#[x.cps[i]]⟩, H, I1, ⟨_, rfl⟩, ⟨rfl, _, by simp [hg], rfl⟩, st', fun b hb => (hf b hb).1⟩⟩
  done := by
    intro X hP hw hK hc i pins s σ H E I hf st hg
    subst hP hw hK
    obtain ⟨f0, f1, f2, f3, f4, f5⟩ := hf it (by simp)
    have hg : x.cps.size ≤ i := hg
    exact wpAny_pyNext_ascii_end (I.ok.hd hc) st (by simp [hg]) fun h' eb => ⟨rfl, I.turned (t' := s.toks) (fun b o hb e => eb b o hb e) f0 f1 f3 f4 f5⟩
  self := fun _ _ _ _ _ st h => wpAny_pyIter_striter_ascii st h
theorem CT {P : Program} {w : World} {K : PySem.W.Frag} {tg : Expr} (x : Str) (t : Tok) (it : Addr) : Turn P w K tg (Its x) [it] it (fun i h => h.IsStrIter it "str_iterator" x t i) where
  mem := by simp
  obj := fun i h st b hb => by
    have e : b = it := by simpa using hb
    subst e
    obtain ⟨o, e, c, d⟩ := st
    exact ⟨o, e, fun v z => by rw [d] at z; cases z⟩
  keep := fun i h h' st k => by
    obtain ⟨o, e, r⟩ := st
    exact ⟨o, k it (by simp) o e, r⟩
  item := by
    intro X hP hw hK hc i pins s σ H E I hf st hg
    subst hP hw hK
    obtain ⟨f0, f1, f2, f3, f4, f5⟩ := hf it (by simp)
    have hg : i < x.cps.size := hg
    refine wpAny_pyNext_wide_item st (c := x.cps[i]) (by simp [hg]) fun h' st' sb => ?_
    have I1 : Inv X pins σ H { s with heap := h', toks := s.toks + 1 } := I.turned (fun b o hb e => (sb.2 b hb).trans e) f0 f1 f3 f4 f5
    obtain ⟨o, e, c, d⟩ := id st'
    exact ⟨_, rfl, kT (s := { s with heap := h', toks := s.toks + 1 }) e c d (by decide) ⟨.str ⟨#[x.cps[i]]⟩, H, I1, ⟨_, rfl⟩, ⟨rfl, _, by simp [hg], rfl⟩, st', fun b hb => (hf b hb).1⟩⟩
  done := by
    intro X hP hw hK hc i pins s σ H E I hf st hg
    subst hP hw hK
    obtain ⟨f0, f1, f2, f3, f4, f5⟩ := hf it (by simp)
    have hg : x.cps.size ≤ i := hg
    exact wpAny_pyNext_wide_end (I.ok.hd hc) st (by simp [hg]) fun h' eb => ⟨rfl, I.turned (t' := s.toks) (fun b o hb e => eb b o hb e) f0 f1 f3 f4 f5⟩
  self := fun _ _ _ _ _ st h => wpAny_pyIter_striter_wide st h
noncomputable def C4 (tl : TE) : TI := fun σ H R => tl σ H fun x H1 => ∃ z, x = .str z ∧ R (Its z) H1
theorem xl {tg l : Expr} {tl : TE} (hl : PE X l tl) : PI X tg l (C4 tl) := by
  intro pins s σ H R I h
  refine thn (hl pins s σ H _ I h) fun v s1 ⟨x, H1, I1, r1, q1⟩ => ?_
  obtain ⟨z, e, q⟩ := q1
  subst e
  obtain ⟨t, rfl⟩ := r1
  have fp : ∀ b ∈ [s1.heap.objs.size], dq X pins H1 b := fun b hb => by
    have e : b = s1.heap.objs.size := by simpa using hb
    subst e
    exact I1.fpOk (Nat.le_refl _) (I1.hok.fresh (Nat.le_refl _))
  cases ha : z.cps.all (· < 128)
  · refine wpAny_pyIter_wide ha ?_
    exact ⟨s1.heap.objs.size, [s1.heap.objs.size], _, _, H1, rfl, I1.kept (t' := s1.toks) fun b o e => Heap.get?_push_of_some _ e, CT z t _, ⟨_, Heap.get?_push_size _ rfl, rfl, rfl⟩, fp, q⟩
  · refine wpAny_pyIter_ascii ha ?_
    exact ⟨s1.heap.objs.size, [s1.heap.objs.size], _, _, H1, rfl, I1.kept (t' := s1.toks) fun b o e => Heap.get?_push_of_some _ e, wg z t _, ⟨_, Heap.get?_push_size _ rfl, rfl, rfl⟩, fp, q⟩
end
end L2
namespace L2
open PySem PySem.Spec PyProof.Rows
section
variable {X : Cx}
theorem xm {ns : List Int} {its : List Value} (r : Vals (ns.map V.int) its) : ∀ (i : Nat) (v : Value), its.toArray[i]? = some v → ∃ t, v = .int (ns.getD i 0) t := by
  induction ns generalizing its with
  | nil => cases r; intro i v h; simp at h
  | cons n ns ih =>
    cases r with
    | cons r1 r2 =>
      obtain ⟨t, rfl⟩ := r1
      intro i v h
      cases i with
      | zero => exact ⟨t, by simpa using h.symm⟩
      | succ i =>
        obtain ⟨t', e⟩ := ih r2 i v (by simpa using h)
        exact ⟨t', by simpa using e⟩
theorem yy {bs : List Bool} {its : List Value} (r : Vals (bs.map V.bl) its) : ∀ (i : Nat) (v : Value), its.toArray[i]? = some v → v = .bool (bs.getD i false) := by
  induction bs generalizing its with
  | nil => cases r; intro i v h; simp at h
  | cons n ns ih =>
    cases r with
    | cons r1 r2 =>
      cases r1
      intro i v h
      cases i with
      | zero => simpa using h.symm
      | succ i => simpa using ih r2 i v (by simpa using h)
theorem uT (ns : List Int) : ∀ n, n ≤ ns.length → preSum (fun i => ns.getD i 0) n = (ns.take n).sum
  | 0, _ => by simp [preSum]
  | n + 1, h => by
    show preSum _ n + ns.getD n 0 = _
    have : ns[n]? = some ns[n] := List.getElem?_eq_getElem (by omega)
    rw [uT ns n (by omega), List.take_add_one, List.getD_eq_getElem?_getD, this, List.sum_append]
    simp
theorem y9 {α : Type} (bs : List α) (d : α) (p : (Nat → Bool) → Prop) : (List.range bs.length).map (fun i => bs.getD i d) = bs := by
  apply List.ext_getElem?
  intro i
  rw [List.getElem?_map]
  by_cases h : i < bs.length
  · rw [List.getElem?_range h, List.getElem?_eq_getElem h]
    simp [List.getD_eq_getElem?_getD, List.getElem?_eq_getElem h]
  · rw [List.getElem?_eq_none (by simpa using h), List.getElem?_eq_none (by simpa using h)]
    rfl
theorem range_any (bs : List Bool) : (List.range bs.length).any (fun i => bs.getD i false) = bs.any id := by
  have h := congrArg (fun l => List.any l id) (y9 bs false (fun _ => True))
  simpa [List.any_map] using h
theorem BO (hc : X.calm = true) : eA X (.builtin "sum") (fun xs H Q => ∃ (p : Addr) (ns : List Int), xs = [.ref p] ∧ SqL X.K H p (ns.map V.int) ∧ Q (.int ns.sum) H) := by
  intro pins s σ H xs us Q I r h
  obtain ⟨p, ns, rfl, hq, q⟩ := h
  obtain ⟨u, rfl, rx⟩ := vals1 r
  cases rx
  obtain ⟨its, rv, pl, hz⟩ := I.list hq
  have hlt : p < s.heap.objs.size := by obtain ⟨o, e, _⟩ := pl.isList; exact Heap.lt_size e
  have hl : ns.length = its.toArray.size := by
    have := rv.length
    rw [List.length_map] at this
    rw [List.size_toArray]; exact this
  refine call_sum_walkG (wpAny_pyIter_list pl.isList ?_)
  refine ⟨s.heap.objs.size, [s.heap.objs.size, p], [s.heap.objs.size], _, _, _, fun i => ns.getD i 0, rfl, Walks.list (A := X.A.in1) (I.ok.hd hc) _ p (Nat.ne_of_lt hlt) its.toArray, ⟨⟨_, Heap.get?_push_size _ rfl, rfl, rfl⟩, pl.isList.push _⟩, ?_, xm rv, fun h' tk t' hk => ?_⟩
  · intro b hb
    show b < (s.heap.push _).objs.size
    rw [Heap.size_push]
    rcases List.mem_cons.mp hb with h | h
    · rw [h]; exact Nat.lt_succ_self _
    · rcases List.mem_cons.mp h with h | h
      · rw [h]; exact Nat.lt_succ_of_lt hlt
      · cases h
  · rw [← hl, uT ns _ (Nat.le_refl _), List.take_length]
    exact ⟨.int ns.sum, H, I.kept (old_kept hk), ⟨_, rfl⟩, q⟩
theorem yd (hc : X.calm = true) : eA X (.builtin "any") (fun xs H Q => ∃ (p : Addr) (bs : List Bool), xs = [.ref p] ∧ SqL X.K H p (bs.map V.bl) ∧ Q (.bl (bs.any id)) H) := by
  intro pins s σ H xs us Q I r h
  obtain ⟨p, bs, rfl, hq, q⟩ := h
  obtain ⟨u, rfl, rx⟩ := vals1 r
  cases rx
  obtain ⟨its, rv, pl, hz⟩ := I.list hq
  have hlt : p < s.heap.objs.size := by obtain ⟨o, e, _⟩ := pl.isList; exact Heap.lt_size e
  have hl : bs.length = its.toArray.size := by
    have := rv.length
    rw [List.length_map] at this
    rw [List.size_toArray]; exact this
  refine call_any_walk (wpAny_pyIter_list pl.isList ?_)
  refine ⟨s.heap.objs.size, [s.heap.objs.size, p], [s.heap.objs.size], _, _, _, fun i => bs.getD i false, rfl, Walks.list (A := X.A.in1) (I.ok.hd hc) _ p (Nat.ne_of_lt hlt) its.toArray, ⟨⟨_, Heap.get?_push_size _ rfl, rfl, rfl⟩, pl.isList.push _⟩, ?_, fun h' tk hk => ?_⟩
  · intro i v s Q E hP hQ
    rw [yy rv i v hP]
    exact wpAny_truthy_bool hQ
  · rw [← hl, range_any]
    exact ⟨.bl (bs.any id), H, I.kept (old_kept hk), rfl, q⟩
theorem wq : OpR X (binaryOp .Mult) (fun x y H Q => ∃ z k, x = .str z ∧ y = .int k ∧ MulOk z k ∧ Q (.str (Txt.mul z k)) H) := by
  intro pins s σ H x y v u Q I rx ry h
  obtain ⟨z, k, rfl, rfl, ok, q⟩ := h
  obtain ⟨t, rfl⟩ := rx
  obtain ⟨t', rfl⟩ := ry
  exact SB.mul ok fun t2 k2 => ⟨.str _, H, I.tok k2, ⟨_, rfl⟩, q⟩
noncomputable def BU : R2 := fun x y H Q => ∃ l k xs, x = .ref l ∧ y = .int k ∧ Rd H l (.lst xs) ∧ -(2 ^ 63) ≤ k ∧ k < 2 ^ 63 ∧ xs.length * k.toNat ≤ sizeLine ∧
  ∀ p, H p = none → Q (.ref p) (upd H p (.lst (List.replicate k.toNat xs).flatten))
theorem BH : OpR X (binaryOp .Mult) BU := by
  intro pins s σ H x y v u Q I rx ry h
  obtain ⟨l, k, xs, rfl, rfl, hH, h1, h2, hz, q⟩ := h
  cases rx
  obtain ⟨t, rfl⟩ := ry
  obtain ⟨its, n, r, e, z⟩ := I.plain hH
  have hl := r.length
  have hlen : its.toArray.size * k.toNat ≤ sizeLine := by rw [List.size_toArray, ← hl]; exact hz
  have hcap : ¬ its.toArray.size * k.toNat > (2 ^ 63 - 1) / 8 := by
    have : (sizeLine : Nat) ≤ (2 ^ 63 - 1) / 8 := by decide
    omega
  have hfit : ¬ (!Builtin.List.listFitsIndex k) = true := by
    rw [fitsIndex_both h1 h2]
    exact Bool.false_ne_true
  have hlong : ¬ Builtin.List.listTooLong (its.toArray.size * k.toNat) = true := by
    rw [tG hlen]
    exact Bool.false_ne_true
  have hnew : List.foldl (fun x1 x2 => x1 ++ x2) #[] (List.replicate (if its.toArray.isEmpty = true then 0 else k.toNat) its.toArray) = (List.replicate k.toNat its).flatten.toArray := by
    have f0 : ∀ m : Nat, List.foldl (fun x1 x2 => x1 ++ x2) #[] (List.replicate m its.toArray) = (List.replicate m its).flatten.toArray := fun m => by
      have := foldl_rep its m []
      rw [List.nil_append] at this
      exact this
    rw [f0]
    cases its with
    | nil => simp
    | cons a r' => rw [if_neg (by simp)]
  refine wpAny_binaryOp_repeat_ref (T := "list") (U := "int") (by decide) ⟨_, e, rfl⟩ (fun s' => typeIs_int s' k t) noFill_list_mul F.fills_int_mul F.slot_int_rmul repeat_list F.slot_int_index.lookup
    (call_meets F.slot_int_rmul (typeIs_int s k t) F.entry_int_rmul (F.args_int_rmul_2 _ _) (int___rmul___int_list k t l its.toArray n)
      ⟨e, rfl, ⟨_, e, rfl⟩, call_meets F.slot_list_mul ⟨_, e, rfl⟩ F.entry_list_mul (F.args_list_mul_2 _ _) (AutoListH.list___mul___list_int_3 l its.toArray n k t hfit hcap hlong) ⟨e, ?_⟩⟩)
  rw [hnew]
  exact ⟨.ref _, _, I.lnew (t' := s.toks) (r.rep k.toNat) (by rw [len_rep, Nat.mul_comm]; exact hz), rfl, q _ I.fresh⟩
noncomputable def Cn : V → List V → Hp → VK → Prop := fun x vs H Q => ∃ l b xs zs, x = .ref l ∧ vs = [.ref b] ∧ H l = some (.lst xs) ∧ Rd H b (.lst zs) ∧ xs.length + zs.length ≤ sizeLine ∧ Q .non (upd H l (.lst (xs ++ zs)))
theorem vW : MtM X "list.extend" Cn := by
  intro pins s σ H x vs v us Q I rx rv h
  obtain ⟨l, b, xs, zs, rfl, rfl, hH, hB, hz, q⟩ := h
  cases rx
  obtain ⟨u, rfl, ru⟩ := rv.one
  cases ru
  obtain ⟨z, its, n, r, hl, e⟩ := I.lstM hH
  obtain ⟨its2, n2, r2, e2, z2⟩ := I.plain hB
  have hl2 := r2.length
  have hsz : its.toArray.size + its2.toArray.size ≤ sizeLine := by rw [List.size_toArray, List.size_toArray]; omega
  have hlong : ¬ (!its.toArray.isEmpty && Builtin.List.listTooLong (its.toArray.size + its2.toArray.size)) = true := by
    rw [tG hsz, Bool.and_false]
    exact Bool.false_ne_true
  refine call_meets F.slot_list_extend ⟨_, e, rfl⟩ F.entry_list_extend (F.args_list_extend_2 _ _)
    (AutoSeq1.list_extend_list_list_0 l its.toArray n b its2.toArray n2 hlong (by rw [List.size_toArray]; omega) (by omega)) ⟨e, e2, ?_⟩
  refine ⟨.non, _, I.lset (its' := its ++ its2) hH e (by simp) (r.append r2) ?_, rfl, q⟩
  rw [List.length_append]
  omega
noncomputable def iZ (kvs : List (Str × Int)) : List (Str × KTD.Dat) := kvs.map fun p => (p.1, KTD.Dat.flat (.int p.2))
noncomputable def kK (K : PySem.W.Frag) (a : Addr) (kvs : List (Str × Int)) : Prop :=
  KTD.tabLook (KTD.datLooks fun b => K.lookup b) (fun b => K.lookup b) a (iZ kvs) = true
noncomputable def tabAt (k : Str) : List (Str × Int) → Option Int
  | [] => none
  | (x, n) :: r => if decide (k = x) = true then some n else tabAt k r
theorem sm (k : Str) : ∀ kvs : List (Str × Int), KTD.inKeys k (iZ kvs) = (tabAt k kvs).isSome
  | [] => rfl
  | (x, n) :: r => by
    have ih := sm k r
    show (decide (k = x) || KTD.inKeys k (iZ r)) = (if decide (k = x) = true then some n else tabAt k r).isSome
    by_cases hx : k = x
    · rw [if_pos (decide_eq_true hx), decide_eq_true hx]; rfl
    · rw [if_neg (by simp [hx]), decide_eq_false hx, ih]; rfl
theorem kK.here {K : PySem.W.Frag} {a : Addr} {kvs : List (Str × Int)} {s : Shared} (T : kK K a kvs) (x : K.In s.heap) : KTD.Here s.heap s.heap a (iZ kvs) := ⟨PySem.W.kt_text_in x T, fun _ _ e => e⟩
theorem sE {h : Heap} {k : Str} {P : Value → Prop} {n : Int} : ∀ {kvs : List (Str × Int)}, tabAt k kvs = some n → (∀ t, P (.int n t)) → KTD.EachL h k P (iZ kvs)
  | [], e, _ => by cases e
  | (x, m) :: r, e, hp => by
    have e : (if decide (k = x) = true then some m else tabAt k r) = some n := e
    by_cases hx : k = x
    · rw [if_pos (decide_eq_true hx)] at e
      cases e
      exact KTD.eachL_hit hx (KTD.opened_int hp)
    · rw [if_neg (by simp [hx])] at e
      exact KTD.eachL_miss hx (sE e hp)
theorem xQ : IxR X (fun x y H Q => ∃ k a kvs n, x = .ref a ∧ y = .str k ∧ kK X.K a kvs ∧ tabAt k kvs = some n ∧ Q (.int n) H) := by
  intro value slice pins s σ H x y v u Q I rx ry h hs
  obtain ⟨k, a, kvs, n, rfl, rfl, T, e, q⟩ := h
  obtain ⟨t, rfl⟩ := ry
  cases rx
  refine KTD.item_textA (T.here I.kIn) ?_ (by rw [sm, e]; rfl) (sE e fun t' => ⟨.int n, H, I.tok _, ⟨_, rfl⟩, q⟩) hs
  unfold iZ
  rw [List.all_map]
  exact List.all_eq_true.mpr fun _ _ => rfl
theorem zX : SlR X (fun x lo hi H Q => ∃ z, x = .str z ∧ z.length ≤ sizeLine ∧ Q (.str (Txt.slice z lo hi)) H) := by
  intro pins s σ H x v vl vu lo hi sl Q I rx hs pl pu h
  obtain ⟨z, rfl, hz, q⟩ := h
  obtain ⟨t, rfl⟩ := rx
  obtain ⟨o, h1, h2, h3⟩ := hs
  have fin : ∀ t' k, EP X pins σ Q (.str (Txt.slice z lo hi) t') { s with toks := k } := fun t' k => ⟨.str _, H, I.tok k, ⟨_, rfl⟩, q⟩
  refine ⟨"str", _, F.slot_str_getitem.lookup, typeIs_str _ _ _, ?_⟩
  have hl := Nat.le_trans (Txt.slice_le z lo hi) hz
  cases pl with
  | none =>
    cases pu with
    | none => exact wpAny_getItem_str_slice (l := none) (u := none) (st := none) ⟨o, h1, h2, h3⟩ rfl (post_val_or_str ⟨hl, fin⟩)
    | int j uj => exact wpAny_getItem_str_slice (l := none) (u := some (j, uj)) (st := none) ⟨o, h1, h2, h3⟩ rfl (post_val_or_str ⟨hl, fin⟩)
  | int i ui =>
    cases pu with
    | none => exact wpAny_getItem_str_slice (l := some (i, ui)) (u := none) (st := none) ⟨o, h1, h2, h3⟩ rfl (post_val_or_str ⟨hl, fin⟩)
    | int j uj => exact wpAny_getItem_str_slice (l := some (i, ui)) (u := some (j, uj)) (st := none) ⟨o, h1, h2, h3⟩ rfl (post_val_or_str ⟨hl, fin⟩)
end
end L2
namespace PySem
open AutoSeq1 (wpAny_loadPart')
set_option maxRecDepth 100000
noncomputable def kwS (t : Tok) : List (Str × Value) := [(Str.ofString "start", .int 1 t)]
set_option maxHeartbeats 4000000 in
theorem BY (l : Addr) (items : Array Value) (n : Nat) (t : Tok) :
    Meets (Builtin.«enumerate.__new__» ⟨[.type "enumerate", .ref l], kwS t⟩) (fun _ R s => s.heap.get? l = some { cls := .type "list", dict := none, data := .seq items n, slots := #[] } ∧
      R (.ok (.ret (.ref (s.heap.push { cls := .type "list_iterator", data := .fields #[.ref l, .int 0 0] }).objs.size)))
        { s with heap := (s.heap.push { cls := .type "list_iterator", data := .fields #[.ref l, .int 0 0] }).push { cls := .type "enumerate", data := .fields #[.none, .bool false, .ref s.heap.objs.size, rawInt 1, .none, .none] } }) :=
  .of_wp fun prog w A R s h => by
    obtain ⟨hp, g, d, tk, os⟩ := s; obtain ⟨hl, h⟩ := h
    have hsub := sub_enumerate
    have hL : Heap.IsList (Shared.heap ⟨hp, g, d, tk, os⟩) l items := ⟨_, hl, rfl, n, rfl⟩
    unfold kwS
    wp_walk using wpAny_loadPart' hl
    refine wpAny_stack_any fun st => wpAny_pure ?_
    split
    · rename_i c _ _ _ _ _
      cases (c == Value.type "enumerate")
      · wp_walk using wpAny_loadPart' hl, wpAny_pyIter_list hL
        exact ⟨_, rfl, h⟩
      · wp_walk using wpAny_loadPart' hl, wpAny_pyIter_list hL
        exact ⟨_, rfl, h⟩
    · wp_walk using wpAny_loadPart' hl, wpAny_pyIter_list hL
      exact ⟨_, rfl, h⟩
section
variable {prog : Program} {w : World} {A : Around} {E : Value → Shared → Prop} {s : Shared}
theorem zZ {T nw ini : String} {Bn Bi : Builtin} {as : List Value} {ks : List (Str × Value)} {S : Spec} {Q Q₁ : Value → Shared → Prop} (tc : TypeCalled T nw ini) (c1 : checkTypeCall T ⟨as, ks⟩ = pure ())
    (c2 : checkBuiltinCall nw ⟨.type T :: as, ks⟩ = pure ()) (n1 : entryFor table nw = some Bn) (n2 : entryFor table ini = some Bi) (mt : Meets (Bn ⟨.type T :: as, ks⟩) S) (hS : S A.in1 (wants Q₁ E) s)
    (nx : ∀ y z, Q₁ y z → z.TypeIs y T ∧ argsOk ini ⟨y :: as, ks⟩ ∧ ∃ Si, Meets (Bi ⟨y :: as, ks⟩) Si ∧ Si A.in1 (wants (fun r z' => r = .none ∧ Q y z') E) z) : wpAny (model prog w) A (call (.type T) as ks) Q E s := by
  obtain ⟨cc, cr, m1⟩ := tc.mro
  have m2 := tc.made; have m3 := tc.sub; have m4 := tc.notType; have m5 := tc.canCreate
  refine wpAny_call (codeAny_of_tree ?_); show wpAny _ _ (callAny (.type T) _) _ _ _
  refine wpAny_pure ⟨Code.quiet_builtin _ (by decide +kernel), codeAny_builtin F.entry_type_call ?_⟩; rw [Around.under_plain (weight_type_call_type T as ks) (units_type_call_type T as ks)]
  repeat any_goals first | assumption | wp_step
  refine codeAny_mono (codeAny_call_builtin tc.plain n1 (wpAny_of_eq c2 (mt prog w A.in1 _ s hS))) fun rr z hz => ?_
  cases rr with
  | ok ff =>
    cases ff with
    | ret y =>
      obtain ⟨y1, y2, Si, y3, y4⟩ := nx _ _ hz
      have m6 := tc.init.lookup; have m7 := tc.init.bind y
      repeat any_goals first | assumption | wp_step
      refine codeAny_mono (codeAny_call_builtin tc.init.plain n2 (tc.init.check _ _ _ _ _ _ _ _ y1 y2 (y3 prog w A.in1 _ z y4))) fun r2 z2 hz2 => ?_
      cases r2 with
      | ok f2 =>
        cases f2 with
        | ret v =>
          obtain ⟨rfl, hq⟩ := hz2
          repeat any_goals first | assumption | wp_step
        | _ => exact False.elim hz2
      | error ee => exact hz2
    | _ => exact False.elim hz
  | error ee => exact hz
theorem initK {T nw : String} {y a : Value} {ks : List (Str × Value)} (l1 : typeLookup (.type T) "__init__" = pure (some (.builtin "object.__init__"))) (l2 : Bind.madeBy (.type T) = pure (some nw)) (l3 : (some nw != some "object.__new__") = true) :
    Meets (Builtin.«object.__init__» ⟨[y, a], ks⟩) (fun _ R s => s.TypeIs y T ∧ R (.ok (.ret .none)) s) := by
  refine .of_wp fun prog w A R s hs => ?_
  obtain ⟨s1, s2⟩ := hs
  repeat any_goals first | assumption | wp_step
  exact ⟨_, rfl, s2⟩
theorem zm (a : Value) (t : Tok) : checkTypeCall "enumerate" ⟨[a], kwS t⟩ = pure () := by kernel_rfl
theorem CK (a : Value) (t : Tok) : checkBuiltinCall "enumerate.__new__" ⟨[.type "enumerate", a], kwS t⟩ = pure () := by kernel_rfl
theorem xv (obj a : Value) (t : Tok) : argsOk "object.__init__" ⟨[obj, a], kwS t⟩ := by unfold argsOk; kernel_rfl
theorem zo {l : Addr} {its : Array Value} {n : Nat} {t : Tok} {Q : Value → Shared → Prop} (hl : s.heap.get? l = some { cls := .type "list", dict := none, data := .seq its n, slots := #[] })
    (q : ∀ h', IsEnum h' (s.heap.objs.size + 1) s.heap.objs.size 1 .none → h'.IsListIter s.heap.objs.size l 0 → h'.objs.size = s.heap.objs.size + 2 → (∀ b o, s.heap.get? b = some o → h'.get? b = some o) → Q (.ref (s.heap.objs.size + 1)) { s with heap := h' }) :
    wpAny (model prog w) A (call (.type "enumerate") [.ref l] (kwS t)) Q E s := by
  refine zZ F.called_enumerate (zm _ t) (CK _ t) F.entry_enumerate_new F.entry_object_init (BY l its n t) (Q₁ := fun y z => z.TypeIs y "enumerate" ∧ Q y z) ⟨hl, ?_⟩ fun y z hz =>
    ⟨hz.1, xv y _ t, _, initK F.called_enumerate.init.lookup F.called_enumerate.made (by decide), hz.1, rfl, hz.2⟩
  have z1 : (s.heap.push { cls := .type "list_iterator", data := .fields #[.ref l, .int 0 0] }).objs.size = s.heap.objs.size + 1 := Heap.size_push ..
  have z2 := Heap.get?_push_size (s.heap.push { cls := .type "list_iterator", data := .fields #[.ref l, .int 0 0] }) (o := { cls := .type "enumerate", data := .fields #[.none, .bool false, .ref s.heap.objs.size, rawInt 1, .none, .none] }) rfl
  show _ ∧ _
  rw [z1] at z2 ⊢
  exact ⟨⟨_, z2, rfl⟩, q _ z2 ⟨_, Heap.get?_push_of_some _ (Heap.get?_push_size _ rfl), rfl, rfl⟩ (by rw [Heap.size_push, z1]) fun b o x => Heap.get?_push_of_some _ (Heap.get?_push_of_some _ x)⟩
theorem vY {e it l : Addr} {i : Nat} {j : Int} {its : Array Value} {x old : Value} {Q : Value → Shared → Prop} (h1 : IsEnum s.heap e it j old) (h2 : s.heap.IsListIter it l i) (h3 : s.heap.IsList l its) (h4 : its[i]? = some x) (h5 : e ≠ it)
    (q : ∀ h', IsEnumOut h' e it (j + 1) x s.heap.objs.size → h'.IsListIter it l (i + 1) → h'.get? s.heap.objs.size = some { cls := .type "tuple", data := .seq #[.int j s.toks, x] } → h'.objs.size = s.heap.objs.size + 1 →
      (∀ b o, b ≠ e → b ≠ it → s.heap.get? b = some o → h'.get? b = some o) → Q (.ref s.heap.objs.size) { s with heap := h', toks := s.toks + 1 }) :
    wpAny (model prog w) A (Builtin.«enumerate.__next__» ⟨[.ref e], []⟩) (fun fin s' => ∃ v, fin = .done (.ret v) ∧ Q v s') E s := by
  obtain ⟨H, gs, dr, tk, os⟩ := s
  show wpAny _ _ (field (.ref e) 2 >>= _) _ _ _
  refine wpAny_bind (wpAny_field h1 rfl (x := .ref it) rfl (wpAny_bind (wpAny_nextOf_list_item h2 h3 h4 fun Ha ia sa => ?_)))
  replace sa : Heap.SameBut it H Ha := sa
  have ea : IsEnum Ha e it j old := (sa.2 e h5).trans h1
  show wpAny _ _ (field (.ref e) 3 >>= _) _ _ ⟨Ha, gs, dr, tk, os⟩
  refine wpAny_bind (wpAny_field ea rfl (x := rawInt j) rfl ?_)
  show wpAny _ _ (field (.ref e) 4 >>= _) _ _ ⟨Ha, gs, dr, tk, os⟩
  refine wpAny_bind (wpAny_field ea rfl (x := .none) rfl ?_)
  show wpAny _ _ (mkInt j >>= _) _ _ ⟨Ha, gs, dr, tk, os⟩
  refine wpAny_bind (wpAny_mkInt ?_)
  show wpAny _ _ (setField (.ref e) 3 (rawInt (j + 1)) >>= _) _ _ ⟨Ha, gs, dr, tk + 1, os⟩
  refine wpAny_bind (wpAny_setField_rec ea (by simp) fun Hb eb sb => ?_)
  replace sb : Heap.SameBut e Ha Hb := sb
  replace eb : IsEnum Hb e it (j + 1) old := eb
  show wpAny _ _ (setField (.ref e) 4 .none >>= _) _ _ ⟨Hb, gs, dr, tk + 1, os⟩
  refine wpAny_bind (wpAny_setField_rec eb (by simp) fun Hc ec sc => ?_)
  replace sc : Heap.SameBut e Hb Hc := sc
  replace ec : IsEnum Hc e it (j + 1) old := ec
  show wpAny _ _ (newTuple [.int j tk, x] >>= _) _ _ ⟨Hc, gs, dr, tk + 1, os⟩
  refine wpAny_bind (wpAny_newTuple ?_)
  have ed : IsEnum (Hc.push { cls := .type "tuple", data := .seq #[.int j tk, x] }) e it (j + 1) old := Heap.get?_push_of_some _ ec
  generalize hD : Hc.push { cls := .type "tuple", data := .seq #[.int j tk, x] } = Hd at ed
  have sz : Hc.objs.size = H.objs.size := by rw [sc.1, sb.1, sa.1]
  have elt : e < H.objs.size := Heap.lt_size h1
  have td : Hd.get? H.objs.size = some { cls := .type "tuple", data := .seq #[.int j tk, x] } := by rw [← hD, ← sz]; exact Heap.get?_push_size _ rfl
  have zd : Hd.objs.size = H.objs.size + 1 := by rw [← hD, Heap.size_push, sz]
  have kd : ∀ b o, b ≠ e → b ≠ it → H.get? b = some o → Hd.get? b = some o := fun b o n1 n2 y => by
    rw [← hD]; exact Heap.get?_push_of_some _ (sc.extBut b o n1 (sb.extBut b o n1 (sa.extBut b o n2 y)))
  have id' : Hd.IsListIter it l (i + 1) := by
    rw [← hD]; obtain ⟨o, y, r⟩ := (ia.extBut sb.extBut (Ne.symm h5)).extBut sc.extBut (Ne.symm h5); exact ⟨o, Heap.get?_push_of_some _ y, r⟩
  show wpAny _ _ (Builtin.SmallTypes.ownedTupleIsFree (.ref e) >>= _) _ _ ⟨Hd, gs, dr, tk + 1, os⟩
  rw [sz]
  clear hD ec sc eb sb ea sa ia sz Hc Hb Ha
  refine wpAny_bind ?_
  unfold Builtin.SmallTypes.ownedTupleIsFree
  refine wpAny_bind (wpAny_field ed rfl (x := .none) rfl (wpAny_pure ?_))
  simp only [if_true]
  refine wpAny_bind (wpAny_rule (wpAny_bind (wpAny_field ed rfl (x := old) rfl (wpAny_bind (wpAny_setField_rec ed (by simp) fun He ee se => ?_)))))
  replace se : Heap.SameBut e Hd He := se
  replace ee : IsEnum He e it (j + 1) x := ee
  show wpAny _ _ (Builtin.SmallTypes.ownedTupleHandOut (.ref e) (.ref H.objs.size) >>= _) _ _ ⟨He, gs, dr, tk + 1, os⟩
  refine wpAny_bind ?_
  unfold Builtin.SmallTypes.ownedTupleHandOut
  refine wpAny_bind (wpAny_setField_rec ee (by simp) fun Hf ef sf => ?_)
  replace sf : Heap.SameBut e He Hf := sf
  replace ef : IsEnumOut Hf e it (j + 1) x H.objs.size := ef
  refine wpAny_setField_rec ef (by simp) fun Hg eg sg => ?_
  replace sg : Heap.SameBut e Hf Hg := sg
  replace eg : IsEnumOut Hg e it (j + 1) x H.objs.size := eg
  have all : ∀ b o, b ≠ e → Hd.get? b = some o → Hg.get? b = some o := fun b o n1 y => sg.extBut b o n1 (sf.extBut b o n1 (se.extBut b o n1 y))
  refine wpAny_bind (wpAny_letGo (wpAny_pure ⟨_, rfl, q Hg eg ?_ (all _ _ (Nat.ne_of_gt elt) td) (by rw [sg.1, sf.1, se.1, zd]) fun b o n1 n2 y => all b o n1 (kd b o n1 n2 y)⟩))
  obtain ⟨o, y, r⟩ := id'
  exact ⟨o, all _ _ (Ne.symm h5) y, r⟩
theorem vH {e it l : Addr} {i : Nat} {j : Int} {its : Array Value} {x old : Value} {Q : Option Value → Shared → Prop} (h1 : IsEnum s.heap e it j old) (h2 : s.heap.IsListIter it l i) (h3 : s.heap.IsList l its) (h4 : its[i]? = some x) (h5 : e ≠ it)
    (q : ∀ h', IsEnumOut h' e it (j + 1) x s.heap.objs.size → h'.IsListIter it l (i + 1) → h'.get? s.heap.objs.size = some { cls := .type "tuple", data := .seq #[.int j s.toks, x] } → h'.objs.size = s.heap.objs.size + 1 →
      (∀ b o, b ≠ e → b ≠ it → s.heap.get? b = some o → h'.get? b = some o) → Q (some (.ref s.heap.objs.size)) { s with heap := h', toks := s.toks + 1 }) : wpAny (model prog w) A (pyNext (.ref e)) Q E s := by
  have ty : s.TypeIs (.ref e) "enumerate" := ⟨_, h1, rfl⟩
  unfold pyNext
  refine wpAny_bind (wpAny_attempt (wpAny_callSpecial?_slot (name := Str.ofString "__next__") ty F.slot_enumerate_next (wpAny_call_entry F.slot_enumerate_next ty F.entry_enumerate_next ?_ (F.args_enumerate_next_1 _))))
  exact vY h1 h2 h3 h4 h5 fun h' a b c d k => wpAny_pure (q h' a b c d k)
theorem u5 {e it l : Addr} {i : Nat} {j : Int} {its : Array Value} {old : Value} {Q : Option Value → Shared → Prop} (hh : A.handled = none) (h1 : IsEnum s.heap e it j old) (h2 : s.heap.IsListIter it l i) (h3 : s.heap.IsList l its) (h4 : its[i]? = none)
    (q : ∀ h', Heap.ExtBut it s.heap h' → Q none { s with heap := h' }) : wpAny (model prog w) A (pyNext (.ref e)) Q E s := by
  have ty : s.TypeIs (.ref e) "enumerate" := ⟨_, h1, rfl⟩
  unfold pyNext
  refine wpAny_bind (wpAny_attempt (wpAny_callSpecial?_slot (name := Str.ofString "__next__") ty F.slot_enumerate_next (wpAny_call_entry F.slot_enumerate_next ty F.entry_enumerate_next ?_ (F.args_enumerate_next_1 _))))
  show wpAny _ _ (field (.ref e) 2 >>= _) _ _ _
  refine wpAny_bind (wpAny_field h1 rfl (x := .ref it) rfl (wpAny_bind (wpAny_nextOf_list_end (A := A.in1) hh h2 h3 h4 fun h' x eb xs => ?_)))
  obtain ⟨o, o1, o2⟩ := xs
  exact wpAny_bind (wpAny_isInstance (T := "StopIteration") (b := true) ⟨o, o1, o2⟩ isSubtype_stop (wpAny_pure (q _ eb)))
end
end PySem
namespace L2
open PySem PySem.Spec PyProof.Rows
section
variable {X : Cx} {pins : List (Addr × Obj)} {σ : List (Option V)} {H : Hp} {s : Shared} {h' : Heap}
theorem Inv.turnedT {e it p : Addr} {xs : List V} {t' : Nat} (I : Inv X pins σ H s) (k : ∀ b o, b ≠ e → b ≠ it → s.heap.get? b = some o → h'.get? b = some o) (fe : dq X pins H e) (fi : dq X pins H it) (hp : s.heap.objs.size ≤ p)
    (new : cA X.prog X.w (upd H p (.tup xs)) h' p (.tup xs)) : Inv X pins σ (upd H p (.tup xs)) { s with heap := h', toks := t' } := by
  have hn := I.hok.fresh hp
  have ne1 : ∀ b u, H b = some u → b ≠ e := fun b u q z => by rw [z, fe.1] at q; cases q
  have ne2 : ∀ b u, H b = some u → b ≠ it := fun b u q z => by rw [z, fi.1] at q; cases q
  have ch : ∀ b, b ∉ [e, it] → b ≠ e ∧ b ≠ it := fun b hb => ⟨fun z => hb (by simp [z]), fun z => hb (by simp [z])⟩
  refine I.step (g' := s.gens) (d' := s.drawn) (ch := [e, it]) (fun b hb => ?_) (fun b o _ _ hc q _ => k b o (ch b hc).1 (ch b hc).2 q) (fun b o _ _ hc q _ => ⟨o.slots, k b o (ch b hc).1 (ch b hc).2 q⟩)
    (fun b o _ q n => by rw [bf (Nat.ne_of_lt (Nat.lt_of_lt_of_le (Heap.lt_size q) hp))]; exact n) (fun b o hc q => ⟨o, k b o (ch b hc).1 (ch b hc).2 q⟩) (fun b ys q => by rw [bf (cn q hn)]; exact q)
    (fun b o u q => by rw [bf (cn q hn)]; exact q) (fun b ps q => ⟨#[], by rw [bf (cn q hn), q]; simp⟩) (fun m hm => ?_) (fun b u q => ?_) I.bare
  · have z : b = e ∨ b = it := by simpa using hb
    rcases z with z | z
    · subst z; exact ⟨fe.2.2.2.1, fe.2.1, fe.2.2.2.2.1, fe.2.2.2.2.2⟩
    · subst z; exact ⟨fi.2.2.2.1, fi.2.1, fi.2.2.2.2.1, fi.2.2.2.2.2⟩
  · obtain ⟨o, es, ep, ho, r⟩ := hm
    exact ⟨o, es, ep, k _ o (Ne.symm fe.2.1) (Ne.symm fi.2.1) ho, r⟩
  · by_cases hb : b = p
    · subst hb; rw [cK] at q; cases q; exact new
    · rw [bf hb] at q
      refine (I.hok b u q).stay (fun c v hc q' => k c v ?_ ?_ q') (fun c q' => by rw [bf (cn q' hn)]; exact q') fun c ys q' => by rw [bf (cn q' hn)]; exact q'
      · rcases hc with z | z
        · rw [z]; exact ne1 b u q
        · exact ne1 c _ z
      · rcases hc with z | z
        · rw [z]; exact ne2 b u q
        · exact ne2 c _ z
theorem Inv.turned1 {it : Addr} {t' : Nat} (I : Inv X pins σ H s) (k : ∀ b o, b ≠ it → s.heap.get? b = some o → h'.get? b = some o) (f : dq X pins H it) : Inv X pins σ H { s with heap := h', toks := t' } :=
  I.turned k f.1 f.2.1 f.2.2.2.1 f.2.2.2.2.1 f.2.2.2.2.2
noncomputable def Itn (K : PySem.W.Frag) (a : Addr) : It :=
  ⟨fun i H => ∃ xs x, SqL K H a xs ∧ xs[i]? = some x, fun i H v H' => ∃ p x, H p = none ∧ v = .ref p ∧ H' = upd H p (.tup [.int (1 + (i : Int)), x]) ∧ ∀ xs, SqL K H a xs → xs[i]? = some x, fun i H => ∃ xs, SqL K H a xs ∧ xs.length ≤ i⟩
theorem BN {P : Program} {w : World} {K : PySem.W.Frag} {elts : List Expr} {kk : Nat} {pos : Pos} (a it e : Addr) (hne : e ≠ it) : Turn P w K (.Tuple elts kk pos) (Itn K a) [e, it] e (fun i h => (∃ old, IsEnum h e it (1 + (i : Int)) old) ∧ h.IsListIter it a i) where
  mem := by simp
  obj := fun i h st b hb => by
    obtain ⟨⟨old, h1⟩, o, h2, h3, h4⟩ := st
    have z : b = e ∨ b = it := by simpa using hb
    rcases z with z | z
    · subst z
      exact ⟨_, h1, fun v q => by
        have q' : Data.fields _ = Data.cell v := q
        cases q'⟩
    · subst z; exact ⟨o, h2, fun v q => by rw [h4] at q; cases q⟩
  keep := fun i h h' st k => ⟨st.1.imp fun old q => k e (by simp) _ q, st.2.at fun o q => k it (by simp) o q⟩
  item := by
    intro X hP hw hK hc i pins s σ H E I hf st hg
    subst hP hw hK
    obtain ⟨xs, x, hq, hx⟩ := hg
    obtain ⟨its, rv, p, hz⟩ := I.list hq
    obtain ⟨u, hu, ru⟩ := rv.get hx
    have fe := hf e (by simp)
    have fi := hf it (by simp)
    obtain ⟨⟨old, h1⟩, h2⟩ := st
    have elt : e < s.heap.objs.size := Heap.lt_size h1
    refine vH h1 h2 p.isList (x := u) (by simpa using hu) hne fun h' ho hit ht hsz hk => ?_
    refine ⟨_, rfl, wpAny_letOwnedTupleGo_enum ho fun hq2 he2 sb2 => ?_⟩
    replace sb2 : Heap.SameBut e h' hq2 := sb2
    have hfr := I.hok.fresh (Nat.le_refl s.heap.objs.size)
    refine ⟨.ref s.heap.objs.size, _, I.turnedT (xs := [.int (1 + (i : Int)), x]) (fun b o n1 n2 q => (sb2.2 b n1).trans (hk b o n1 n2 q)) fe fi (Nat.le_refl _) ?_, rfl, ⟨_, x, hfr, rfl, rfl, fun ys hy => by rw [I.list_inj hy hq]; exact hx⟩,
      ⟨⟨u, ?_⟩, hit.at fun o q => (sb2.2 it (Ne.symm hne)).trans q⟩, fun b hb => ?_⟩
    · refine ⟨by show 2 ≤ sizeLine; decide, [.int (1 + (i : Int)) s.toks, u], .cons ⟨_, rfl⟩ (.cons ru .nil), ?_⟩
      exact ⟨_, (sb2.2 _ (Nat.ne_of_gt elt)).trans ht, rfl, _, rfl⟩
    · have e1 : (1 + ((i + 1 : Nat) : Int)) = 1 + (i : Int) + 1 := by omega
      rw [e1]; exact he2
    · have z : b = e ∨ b = it := by simpa using hb
      have hne' : b ≠ s.heap.objs.size := by
        rcases z with z | z
        · rw [z]; exact Nat.ne_of_lt elt
        · rw [z]; obtain ⟨o, q, _⟩ := h2; exact Nat.ne_of_lt (Heap.lt_size q)
      rw [bf hne']
      exact (hf b hb).1
  done := by
    intro X hP hw hK hc i pins s σ H E I hf st hg
    subst hP hw hK
    obtain ⟨xs, hq, hx⟩ := hg
    obtain ⟨its, rv, p, hz⟩ := I.list hq
    have hl := rv.length
    obtain ⟨⟨old, h1⟩, h2⟩ := st
    exact u5 (I.ok.hd hc) h1 h2 p.isList (by simp; omega) fun h' eb => ⟨rfl, I.turned1 (t' := s.toks) (fun b o hb q => eb b o hb q) (hf it (by simp))⟩
  self := fun _ _ _ _ _ st h => by
    obtain ⟨⟨old, h1⟩, h2⟩ := st
    exact wpAny_pyIter_enum h1 h
end
section
variable {X : Cx}
noncomputable def yL (K : PySem.W.Frag) (tl : TE) : TI := fun σ H R => tl σ H fun x H1 => ∃ a xs, x = .ref a ∧ Rd H1 a (.lst xs) ∧ R (Itn K a) H1
theorem boot_enumerate : bootBuiltins "enumerate" = some (.type "enumerate") := by decide +kernel
theorem wH {elts : List Expr} {kk : Nat} {tpos kpos p pos : Pos} {l : Expr} {tl : TE} {j : _} {ip : Pos} (hl : PE X l tl) (hg : Gl X "enumerate") (hm : X.mg "enumerate" = none) (hs : starEach [l] X.env = [(false, eval l X.env)]) :
    PI X (.Tuple elts kk tpos) (.Call (.Name "enumerate" p) [l] [⟨some "start", .Constant (.int 1) j ip, kpos⟩] pos) (yL X.K tl) := by
  intro pins s σ H R I h
  refine wpAny_Call_Name_kw (gy I hg hm boot_enumerate ?_)
  refine PySem.W.callWith_of (P := fun _ => True) (by rw [hs]; rfl) (fun h _ => ?_) (evalArgs_kw2 rfl ?_ (by rw [hs]; rfl))
  · exact ⟨.machine, .inr (.inl rfl), fun A Q E s _ q => wpAny_pure q⟩
  · refine args_cons ?_ (by rw [hs]; rfl)
    refine thn (hl pins s σ H _ I h) fun v s1 ⟨x, H1, I1, r1, q1⟩ => args_nil (kws_cons ?_)
    refine thn (si (i := 1) pins s1 σ H1 (fun y H2 => y = .int 1 ∧ H2 = H1) I1 ⟨rfl, rfl⟩) fun kv s2 ⟨y, H2, I2, r2, q2⟩ => kws_nil ?_
    obtain ⟨rfl, rfl⟩ := q2
    obtain ⟨t, rfl⟩ := r2
    obtain ⟨a, xs, e, hq, q⟩ := q1
    subst e
    cases r1
    obtain ⟨its, n, rv, ho, hz⟩ := I2.plain hq
    refine ⟨trivial, zo (t := t) ho fun h' he hit hsz hk => wpAny_pyIter_enum he ?_⟩
    have I3 : Inv X pins σ H2 { s2 with heap := h' } := I2.kept (t' := s2.toks) hk
    refine ⟨s2.heap.objs.size + 1, [s2.heap.objs.size + 1, s2.heap.objs.size], _, _, H2, rfl, I3, BN a s2.heap.objs.size (s2.heap.objs.size + 1) (Nat.succ_ne_self _), ⟨⟨.none, he⟩, hit⟩, fun b hb => ?_, q⟩
    have z : b = s2.heap.objs.size + 1 ∨ b = s2.heap.objs.size := by simpa using hb
    have hb' : s2.heap.objs.size ≤ b := by rcases z with z | z <;> rw [z] <;> omega
    exact I2.fpOk hb' (I2.hok.fresh hb')
end
end L2
namespace DL
open PySem PySem.Spec PyProof.Rows L2
noncomputable def bA (body : DM Fl) (n : Nat) (ds : List D) : Ro := match body (ds.map .sh ++ List.replicate (n - ds.length) .no) with
  | .ok (.rt d) _ => .ok d
  | .ok (.rto es) _ => .own es
  | .ok .nx _ => .ok .non
  | _ => .un
section
variable {P : Program} {w : World} {K : PySem.W.Frag} {mg : Str → Option Value} {base : Heap} {H : Hp} {Ω : Om}
theorem aE.start {N : List Str} {ds : List D} {vs : List V} (hr : aB K H Ω ds vs) (ht : Trk H Ω) : aE K H Ω (L2.start N vs) (ds.map .sh ++ List.replicate (N.length - ds.length) .no) := by
  have hl := hr.length
  refine ⟨by unfold L2.start; rw [List.length_append, List.length_append, List.length_map, List.length_map, List.length_replicate, List.length_replicate, hl], fun i s h => ?_, ht⟩
  by_cases hi : i < ds.length
  · rw [List.getElem?_append_left (by rw [List.length_map]; exact hi), List.getElem?_map] at h
    obtain ⟨d, hd⟩ : ∃ d, ds[i]? = some d := ⟨ds[i], List.getElem?_eq_getElem hi⟩
    rw [hd] at h
    cases h
    obtain ⟨v, hv, r⟩ := hr.get hd
    refine ⟨v, ?_, r⟩
    unfold L2.start
    rw [List.getElem?_append_left (by rw [List.length_map, ← hl]; exact hi), List.getElem?_map, hv]
    rfl
  · rw [List.getElem?_append_right (by rw [List.length_map]; omega), List.getElem?_replicate] at h
    split at h
    · cases h; trivial
    · cases h
theorem fnP {ce : Str → Value} {x qual : Str} {st : Stmt} {f : Addr} {fd : FuncData} {N ps : List Str} {k : Nat} {body : DM Fl} (F : Fun K x qual st f fd) (S : bu N ps (aM st))
    (hb : ∀ (cdv : Value) (A : Around) (outer : List Env) (s : Shared) (H : Hp) (E : XK), bN k (A.deeper (envOfC qual (aM st) s.heap.objs.size f cdv)) →
      dW (bU CX0 P w K mg base N qual (aM st) f cdv A outer s H E).nox EN [] (bt st) body) : aW P w K mg base CX0 (k + 1) f fd ps (spP K ce ps.length (bA body N.length)) := by
  refine F.ok S (fun vs H Q E h => h.1) (fun cdv A outer s H vs Q E hr h => ?_)
  obtain ⟨ts, p, d⟩ := hb cdv A outer s H E hr
  refine ⟨ts, p, ?_⟩
  obtain ⟨hl, Ω, ds, ht, h0, hr, hq⟩ := h
  refine d (L2.start N vs) H _ Ω (aE.start hr ht) _ ?_
  unfold bA at hq
  cases e : body (ds.map .sh ++ List.replicate (N.length - ds.length) .no) with
  | un => rw [e] at hq; exact hq
  | er c => rw [e] at hq; exact hq.elim
  | ok fl δ' =>
    rw [e] at hq
    cases fl with
    | nx => exact fun H' Ω' ex σ' R' _ => hq H' Ω' ex R'.trk .non rfl
    | bk => exact hq.elim
    | ct => exact hq.elim
    | rt d => exact fun H' Ω' ex σ' R' _ v r => hq H' Ω' ex R'.trk v r
    | rto es => exact fun H' Ω' ex σ' R' _ v r => hq H' Ω' ex R'.trk v r
end
section
variable {X : Cx} {E : Str → Hp → Prop} {pos : Pos} {a b c e : Expr} {f g : DM DV} {mp : List Nat}
theorem ah (i : Nat) {x : Str} (hN : X.N[i]? = some x := by rfl) (hv : Vis X.env.scope x := by first | exact Or.inl rfl | exact Or.inr (Or.inl rfl) | exact Or.inr (Or.inr rfl)) (hd : (x == ("__debug__" : Str)) = false := by decide)
    (hcd : (x == ("__classdict__" : Str)) = false := by decide) : PED X E (.Name x pos) (ae i) := ⟨_, pv i hN hv hd hcd, AS⟩
theorem ao {i j} : PED X E (.Constant (.int i) j pos) (fC (.int i)) := ⟨_, si, kD fun _ _ => rfl⟩
theorem d8 {i j} : PED X E (.Constant (.bool i) j pos) (fC (.bl i)) := ⟨_, BB, kD fun _ _ => rfl⟩
theorem lW {j} : PED X E (.Constant .none j pos) (fC .non) := ⟨_, yg, kD fun _ _ => rfl⟩
theorem aH {x j} : PED X E (.Constant (.str x) j pos) (fC (.str x)) := ⟨_, vq, kD fun _ _ => rfl⟩
noncomputable def lR (K : PySem.W.Frag) (mg : Str → Option Value) (x : Str) (d : D) : Prop := ∃ u v, mg x = some u ∧ RelV v u ∧ ∀ H Ω, Rep K H Ω d v
theorem kI {x : Str} {d : D} (hm : lR X.K X.mg x d) (hg : Gl X x := by rfl) (hd : (x == ("__debug__" : Str)) = false := by decide) : PED X E (.Name x pos) (fC d) := by
  obtain ⟨u, v, h1, h2, h3⟩ := hm
  exact ⟨_, hV hg h1 h2 hd, kD h3⟩
noncomputable def j4 (i j : Int) : Bool := (decide (-18446744073709551616 < i) && decide (i < 18446744073709551616)) || (decide (-18446744073709551616 < j) && decide (j < 18446744073709551616))
theorem zf {i j : Int} (h : j4 i j = true) : lK i j := by
  unfold j4 at h
  unfold lK
  simpa using h
noncomputable def cdiv (j : Int) : Bool := decide (0 < j) && decide (j < 1073741824)
noncomputable def aK : D → D → Option DV
  | .int i, .int j => some (.val (.int (i + j)))
  | .str x, .str y => if x.length + y.length ≤ sizeLine then some (.val (.str (x ++ y))) else none
  | .lst xs, .lst ys => if xs.length + ys.length ≤ sizeLine then some (.own (xs ++ ys)) else none
  | _, _ => none
noncomputable def cu : D → D → Option DV
  | .int i, .int j => some (.val (.int (i - j)))
  | _, _ => none
noncomputable def dG (n : Nat) (k : Int) : Bool := decide (-(2 ^ 62) ≤ k) && decide (k < 2 ^ 62) && decide (n * k.toNat ≤ sizeLine)
theorem xY {z : Str} {k : Int} (h : dG z.length k = true) : MulOk z k := by
  unfold dG at h
  simp only [Bool.and_eq_true, decide_eq_true_eq] at h
  obtain ⟨⟨h1, h2⟩, h3⟩ := h
  refine ⟨?_, ?_, ?_⟩
  · rw [decide_eq_false (by omega), decide_eq_false (by omega)]; rfl
  · intro hk _
    have hs : sizeLine ≤ 2 ^ 62 := by decide
    have h4 : (z.length : Int) * k ≤ 2 ^ 63 - 1 := by
      have e : ((z.length * k.toNat : Nat) : Int) = (z.length : Int) * k := by
        rw [Int.natCast_mul, Int.toNat_of_nonneg (by omega)]
      omega
    have : (z.length : Int) ≤ (2 ^ 63 - 1) / k := Int.le_ediv_of_mul_le (by omega) h4
    omega
  · intro _ _
    (show Builtin.Str.tooLong _ = false); unfold Builtin.Str.tooLong; exact decide_eq_false (by omega)
noncomputable def aQ : D → D → Option DV
  | .int i, .int j => if j4 i j then some (.val (.int (i * j))) else none
  | .str z, .int k => if dG z.length k then some (.val (.str (Txt.mul z k))) else none
  | .lst ds, .int k => if dG ds.length k then some (.own (List.replicate k.toNat ds).flatten) else none
  | _, _ => none
noncomputable def bJ : D → D → Option DV
  | .int i, .int j => if cdiv j then some (.val (.int (i / j))) else none
  | _, _ => none
noncomputable def bc : D → D → Option DV
  | .int i, .int j => if decide (0 < j) then some (.val (.int (i % j))) else none
  | _, _ => none
theorem cG {K : PySem.W.Frag} {H : Hp} {Ω : Om} {ds : List D} {v : V} (h : cb K H Ω (.lst ds) v) : ∃ a vs, v = .ref a ∧ Rd H a (.lst vs) ∧ aB K H Ω ds vs := h
theorem en {K : PySem.W.Frag} {H : Hp} {Ω : Om} {ds : List D} {v : V} (h : cb K H Ω (.tup ds) v) : ∃ a vs, v = .ref a ∧ SqT K H a vs ∧ aB K H Ω ds vs := (show ∃ a vs, _ from h)
theorem BK {K : PySem.W.Frag} : DR K (fun x y H Q => rI0 (fun i j => .int (i + j)) x y H Q ∨ (∃ i j, x = .str i ∧ y = .str j ∧ i.length + j.length ≤ sizeLine ∧ Q (.str (i ++ j)) H) ∨ sv x y H Q) aK := by
  intro E σ H δ Ω x y d1 d2 z Q R r1 r2 hz h
  unfold aK at hz
  split at hz
  · cases hz
    exact .inl ⟨_, _, r1, r2, h.now R rfl⟩
  · split at hz
    · rename_i hl
      cases hz
      exact .inr (.inl ⟨_, _, r1, r2, hl, h.now R rfl⟩)
    · cases hz
  · split at hz
    · rename_i hl
      cases hz
      obtain ⟨a, vs, e1, e2, e3⟩ := cG r1
      obtain ⟨b, ws, q1, q2, q3⟩ := cG r2
      refine .inr (.inr ⟨a, b, vs, ws, e1, q1, e2, q2, by rw [← e3.length, ← q3.length]; exact hl, fun p hp => h.alloc1 R hp (e3.append q3)⟩)
    · cases hz
  · cases hz
noncomputable def j5 (X : Cx) (op : Operator) (gg : D → D → Option DV) : Prop := ∃ r, OpR X (binaryOp op) r ∧ DR X.K r gg
theorem bo : j5 X .Add aK := ⟨_, Ct.or (zl.or Br), BK⟩
theorem dY : j5 X .Sub cu := ⟨_, AB, by
  intro E σ H δ Ω x y d1 d2 z Q R r1 r2 hz h
  unfold cu at hz
  split at hz
  · cases hz; exact ⟨_, _, r1, r2, h.now R rfl⟩
  · cases hz⟩
theorem aB.rep {K : PySem.W.Frag} {H : Hp} {Ω : Om} {ds : List D} {vs : List V} (r : aB K H Ω ds vs) : ∀ k : Nat, aB K H Ω (List.replicate k ds).flatten (List.replicate k vs).flatten
  | 0 => .nil
  | k + 1 => by
    rw [List.replicate_succ, List.replicate_succ, List.flatten_cons, List.flatten_cons]
    exact r.append (aB.rep r k)
theorem bL : j5 X .Mult aQ := ⟨_, vQ.or (wq.or BH), by
  intro E σ H δ Ω x y d1 d2 z Q R r1 r2 hz h
  unfold aQ at hz
  split at hz
  · split at hz
    · rename_i hc
      cases hz; exact .inl ⟨_, _, r1, r2, zf hc, h.now R rfl⟩
    · cases hz
  · split at hz
    · rename_i hc
      cases hz; exact .inr (.inl ⟨_, _, r1, r2, xY hc, h.now R rfl⟩)
    · cases hz
  · split at hz
    · rename_i hc
      cases hz
      obtain ⟨a, vs, e1, e2, e3⟩ := cG r1
      unfold dG at hc
      simp only [Bool.and_eq_true, decide_eq_true_eq] at hc
      exact .inr (.inr ⟨a, _, vs, e1, r2, e2, by omega, by omega, by rw [← e3.length]; exact hc.2, fun p hp => h.alloc1 R hp (e3.rep _)⟩)
    · cases hz
  · cases hz⟩
theorem dF : j5 X .FloorDiv bJ := ⟨_, B7, by
  intro E σ H δ Ω x y d1 d2 z Q R r1 r2 hz h
  unfold bJ at hz
  split at hz
  · split at hz
    · rename_i hc
      cases hz
      unfold cdiv at hc
      exact ⟨_, _, r1, r2, (by simpa using hc : _ ∧ _), h.now R rfl⟩
    · cases hz
  · cases hz⟩
theorem cm : j5 X .Mod bc := ⟨_, wo, by
  intro E σ H δ Ω x y d1 d2 z Q R r1 r2 hz h
  unfold bc at hz
  split at hz
  · split at hz
    · rename_i hc
      cases hz
      exact ⟨_, _, r1, r2, by simpa using hc, h.now R rfl⟩
    · cases hz
  · cases hz⟩
theorem az {op : Operator} {gg : D → D → Option DV} (ho : j5 X op gg) (ha : PED X E a f) (hb : PED X E b g) : PED X E (.BinOp a op b pos) (ag f g gg) := by
  obtain ⟨r, h1, h2⟩ := ho
  obtain ⟨ta, p1, d1⟩ := ha
  obtain ⟨tb, p2, d2⟩ := hb
  exact ⟨_, wI h1 p1 p2, nj h2 d1 d2⟩
noncomputable def aX (p : Int → Int → Bool) : D → D → Option DV
  | .int i, .int j => some (.val (.bl (p i j)))
  | _, _ => none
theorem oN {K : PySem.W.Frag} {p : Int → Int → Bool} : DR K (rI0 fun i j => .bl (p i j)) (aX p) := by
  intro E σ H δ Ω x y d1 d2 z Q R r1 r2 hz h
  unfold aX at hz
  split at hz
  · cases hz; exact ⟨_, _, r1, r2, h.now R rfl⟩
  · cases hz
noncomputable def lt (i j : Int) : Bool := decide (i < j)
noncomputable def le (i j : Int) : Bool := decide (i ≤ j)
noncomputable def gt (i j : Int) : Bool := decide (j < i)
noncomputable def eY (X : Cx) (op : CmpOp) (gg : D → D → Option DV) : Prop := ∃ r, OpR X (compareOp op) r ∧ DR X.K r gg
theorem fR : eY X .Lt (aX lt) := ⟨_, Dv, oN (p := lt)⟩
theorem xt : eY X .LtE (aX le) := ⟨_, w5, oN (p := le)⟩
theorem cmp_gt : eY X .Gt (aX gt) := ⟨_, zN, oN (p := gt)⟩
theorem fP {op : CmpOp} {gg : D → D → Option DV} (ho : eY X op gg) (ha : PED X E a f) (hb : PED X E b g) (hm : behindInMarks op b = false) : PED X E (.Compare a [op] [b] pos) (ag f g gg) := by
  obtain ⟨r, h1, h2⟩ := ho
  obtain ⟨ta, p1, d1⟩ := ha; obtain ⟨tb, p2, d2⟩ := hb
  exact ⟨_, zw h1 p1 p2 hm, nj h2 d1 d2⟩
theorem aU {op : CmpOp} {gg : D → D → Option DV} (ho : eY X op gg) (ha : PED X E a f) (hb : PED X E b g) (hm : behindInMarks op b = false) : PTD X E (.Compare a [op] [b] pos) (au (ag f g gg)) := by
  obtain ⟨r, h1, h2⟩ := ho
  obtain ⟨ta, p1, d1⟩ := ha; obtain ⟨tb, p2, d2⟩ := hb
  exact ⟨_, yG h1 p1 p2 hm, rN (nj h2 d1 d2)⟩
theorem jY {fa : DM Bool} (ha : PTD X E a fa) : PWD X E (.BoolOp .And [a] pos) fa := by
  obtain ⟨t, p, d⟩ := ha; exact ⟨_, DF p, d⟩
theorem fm {fa : DM Bool} (ha : PTD X E a fa) : PWD X E (.BoolOp .Or [a] pos) fa := by
  obtain ⟨t, p, d⟩ := ha; exact ⟨_, Dy p, d⟩
theorem kA {fa fb : DM Bool} {rest : List Expr} (ha : PTD X E a fa) (hb : PWD X E (.BoolOp .And (b :: rest) pos) fb) : PWD X E (.BoolOp .And (a :: b :: rest) pos) (bX fa fb) := by
  obtain ⟨t, p, d⟩ := ha; obtain ⟨u, q, e⟩ := hb; exact ⟨_, Ba p q, B5 d e⟩
theorem fJ {fa fb : DM Bool} {rest : List Expr} (ha : PTD X E a fa) (hb : PWD X E (.BoolOp .Or (b :: rest) pos) fb) : PWD X E (.BoolOp .Or (a :: b :: rest) pos) (bO fa fb) := by
  obtain ⟨t, p, d⟩ := ha; obtain ⟨u, q, e⟩ := hb; exact ⟨_, Ds p q, B9 d e⟩
theorem df {fa : DM Bool} (h : PWD X E a fa) : PTD X E a fa := by
  obtain ⟨t, p, d⟩ := h; exact ⟨_, p.pt, d⟩
theorem h8 {fa : DM Bool} (ha : PTD X E a fa) : PTD X E (.UnaryOp .Not a pos) (cH fa) := by
  obtain ⟨t, p, d⟩ := ha; exact ⟨_, Bz p, AN d⟩
theorem pB {op} (ha : PED X E a f) : PED X E (.BoolOp op [a] pos) f := by
  obtain ⟨t, p, d⟩ := ha; exact ⟨_, Df p, d⟩
theorem pI {rest : List Expr} (ha : PED X E a f) (hb : PED X E (.BoolOp .And (b :: rest) pos) g) : PED X E (.BoolOp .And (a :: b :: rest) pos) (eE f g) := by
  obtain ⟨t, p, d⟩ := ha; obtain ⟨u, q, e⟩ := hb; exact ⟨_, xD p q, zC d e⟩
theorem vD (ha : PED X E a f) : PED X E (.UnaryOp .Not a pos) (gk f) := by
  obtain ⟨t, p, d⟩ := ha; exact ⟨_, BS p, xE d⟩
theorem om {fc : DM Bool} (hc : PTD X E c fc) (ha : PED X E a f) (hb : PED X E b g) : PED X E (.IfExp c a b pos) (fS fc f g) := by
  obtain ⟨t, p, d⟩ := hc; obtain ⟨ta, p1, d1⟩ := ha; obtain ⟨tb, p2, d2⟩ := hb
  exact ⟨_, zv p p1 p2, CM d d1 d2⟩
theorem cz (ha : PED X E a f) (he : ∀ whole, isTrue a X.env whole = (do let v ← whole; standAt a.pos; holding [v] (truthy v)) := by intro _; rfl) : PTD X E a (au f) := by
  obtain ⟨ta, p1, d1⟩ := ha
  exact ⟨_, Ao p1 he, Am d1⟩
noncomputable def gIx : D → D → Option DV
  | .lst ds, .int i => (atI ds i).map .val
  | .tup ds, .int i => (atI ds i).map .val
  | .str z, .int i => if z.length ≤ sizeLine then (atI z.cps.toList i).map fun c => .val (.str ⟨#[c]⟩) else none
  | .scr ns, .int i => (atI ns i).map fun n => .val (.int n)
  | _, _ => none
theorem qX {K : PySem.W.Frag} {H : Hp} {Ω : Om} {ds : List D} {vs : List V} {i : Int} {d : D} (r : aB K H Ω ds vs) (h : atI ds i = some d) : ∃ v, atI vs i = some v ∧ Rep K H Ω d v := by
  unfold atI at h ⊢
  rw [← r.length]
  cases e : ixN ds.length i with
  | none => rw [e] at h; cases h
  | some j => rw [e] at h; exact r.get h
theorem ba (ha : PED X E a f) (hb : PED X E b g) (hs : oV b := by intro _ _; rfl) : PED X E (.Subscript a b pos) (ag f g gIx) := by
  obtain ⟨ta, p1, d1⟩ := ha
  obtain ⟨tb, p2, d2⟩ := hb
  refine ⟨_, rd Ad p1 p2 hs, nj ?_ d1 d2⟩
  intro E σ H δ Ω x y d1 d2 z Q R r1 r2 hz h
  unfold gIx at hz
  split at hz
  · obtain ⟨d, e, rfl⟩ := Option.map_eq_some_iff.mp hz
    obtain ⟨p, vs, e1, e2, e3⟩ := cG r1
    obtain ⟨v, q, rv⟩ := qX e3 e
    exact .inl ⟨p, vs, _, v, e1, r2, .inl e2, q, h.now R rv⟩
  · obtain ⟨d, e, rfl⟩ := Option.map_eq_some_iff.mp hz
    obtain ⟨p, vs, e1, e2, e3⟩ := en r1
    obtain ⟨v, q, rv⟩ := qX e3 e
    exact .inr (.inl ⟨p, vs, _, v, e1, r2, e2, q, h.now R rv⟩)
  · split at hz
    · rename_i hl
      obtain ⟨c, e, rfl⟩ := Option.map_eq_some_iff.mp hz
      exact .inr (.inr ⟨_, _, c, r1, r2, hl, e, h.now R rfl⟩)
    · cases hz
  · obtain ⟨n, e, rfl⟩ := Option.map_eq_some_iff.mp hz
    obtain ⟨p, e1, e2⟩ := (show ∃ a, _ from r1)
    refine .inl ⟨p, _, _, .int n, e1, r2, e2.sq, ?_, h.now R rfl⟩
    unfold atI at e ⊢
    rw [List.length_map]
    obtain ⟨j, h1, h2⟩ := Option.bind_eq_some_iff.mp e
    rw [h1]
    show (List.map V.int _)[j]? = _
    rw [List.getElem?_map, h2]
    rfl
  · cases hz
theorem ar : PAD X E [] ai := ⟨_, ic, wU⟩
theorem aj {es : List Expr} {r : DM (List DV)} (ha : PED X E e f) (hr : PAD X E es r) (hs : starEach (e :: es) X.env = (false, eval e X.env) :: starEach es X.env := by rfl) : PAD X E (e :: es) (af f r) := by
  obtain ⟨t, p, d⟩ := ha; obtain ⟨u, q, c⟩ := hr; exact ⟨_, fA p q hs, C0 d c⟩
theorem bP {es : List Expr} {r : DM (List DV)} {k : Nat} (h : PAD X E es r) : PED X E (.Tuple es k pos) (aY r) := by
  obtain ⟨t, p, d⟩ := h; exact ⟨_, BW p, zD d⟩
theorem bR {es : List Expr} {r : DM (List DV)} (h : PAD X E es r) : PED X E (.List es pos) (bF r) := by
  obtain ⟨t, p, d⟩ := h; exact ⟨_, vO p, Dl d⟩
structure aR (P : Program) (w : World) (K : PySem.W.Frag) (mg : Str → Option Value) (base : Heap) (k : Nat) (x : Str) (n : Nat) (M : List D → Ro) : Prop where
  ex : ∃ (f : Addr) (fd : FuncData) (ps : List Str), aW P w K mg base CX0 k f fd ps (spP K (fun _ => .none) n M) ∧ mg x = some (.ref f) ∧ PySem.W.keepIn K (.ref f) = true ∧ Binds K fd ps []
theorem bp {k n : Nat} {x : Str} {M : List D → Ro} {p : Pos} {es : List Expr} {r : DM (List DV)} (F : aR X.prog X.w X.K X.mg X.base k x n M) (hr : bN k X.A) (ha : PAD X EN (e :: es) r) (hg : Gl X x := by rfl)
    (hdb : (x == ("__debug__" : Str)) = false := by decide) (he : starEach (e :: es) X.env = (false, eval e X.env) :: starEach es X.env := by rfl) (hpl : (backTo pos (starEach es X.env)).any (·.1) = false := by rfl) :
    PED X EN (.Call (.Name x p) (e :: es) [] pos) (aD n r M) := by
  obtain ⟨fa, fd, ps, F, hm, kp, b⟩ := F.ex
  obtain ⟨t, q, d⟩ := ha
  exact ⟨_, jh F hr hg hm kp b .nil mf q hdb he hpl, pD (fun _ _ z => z) d⟩
noncomputable def gn (X : Cx) (fv : Value) (gg : List D → Option DV) : Prop := ∃ r, eA X fv r ∧ DC X.K r gg
theorem bY {id : String} {gg : List D → Option DV} {x : Str} {p : Pos} {es : List Expr} {r : DM (List DV)} (hc : gn X (.builtin id) gg) (hm : X.mg x = none) (hv : bootBuiltins x = some (.builtin id)) (ha : PAD X E (e :: es) r) (hg : Gl X x := by rfl)
    (hn : x ≠ "__name__" := by decide) (hdb : (x == ("__debug__" : Str)) = false := by decide) (he : starEach (e :: es) X.env = (false, eval e X.env) :: starEach es X.env := by rfl) (hpl : (backTo pos (starEach es X.env)).any (·.1) = false := by rfl) :
    PED X E (.Call (.Name x p) (e :: es) [] pos) (fCB r gg) := by
  obtain ⟨rr, h1, h2⟩ := hc
  obtain ⟨t, q, d⟩ := ha
  exact ⟨_, pq h1 hg hm hv q hn hdb he hpl, rV h2 d⟩
theorem kc {T : String} {gg : List D → Option DV} {x : Str} {p : Pos} {es : List Expr} {r : DM (List DV)} (hc : gn X (.type T) gg) (hm : X.mg x = none) (hv : bootBuiltins x = some (.type T)) (ha : PAD X E (e :: es) r) (hg : Gl X x := by rfl)
    (hn : x ≠ "__name__" := by decide) (hdb : (x == ("__debug__" : Str)) = false := by decide) (he : starEach (e :: es) X.env = (false, eval e X.env) :: starEach es X.env := by rfl) (hpl : (backTo pos (starEach es X.env)).any (·.1) = false := by rfl) :
    PED X E (.Call (.Name x p) (e :: es) [] pos) (fCB r gg) := by
  obtain ⟨rr, h1, h2⟩ := hc
  obtain ⟨t, q, d⟩ := ha
  exact ⟨_, yf h1 hg hm hv q hn hdb he hpl, rV h2 d⟩
theorem eL {K : PySem.W.Frag} {H : Hp} {Ω : Om} {d : D} {vs : List V} (h : ki K H Ω [d] vs) : ∃ v, vs = [v] ∧ cb K H Ω d v := by
  obtain ⟨v, r, e1, e2, e3⟩ := h
  cases (show r = [] from e3)
  exact ⟨v, e1, e2⟩
noncomputable def bq : List D → Option DV
  | [.lst ds] => some (.val (.int ds.length))
  | [.tup ds] => some (.val (.int ds.length))
  | [.str x] => if x.length ≤ sizeLine then some (.val (.int x.length)) else none
  | [.scr ns] => some (.val (.int ns.length))
  | _ => none
theorem dt : gn X (.builtin "len") bq := ⟨_, xT, by
  intro E σ H δ Ω vs ds z Q R r hz h
  unfold bq at hz
  split at hz
  · cases hz
    obtain ⟨v, e, rv⟩ := eL r
    obtain ⟨a, ws, e1, e2, e3⟩ := cG rv
    subst e1
    exact ⟨.ref a, ws.length, e, .inl ⟨ws, .inl e2, rfl⟩, by rw [← e3.length]; exact h.now R rfl⟩
  · cases hz
    obtain ⟨v, e, rv⟩ := eL r
    obtain ⟨a, ws, e1, e2, e3⟩ := en rv
    subst e1
    exact ⟨.ref a, ws.length, e, .inr ⟨ws, e2, rfl⟩, by rw [← e3.length]; exact h.now R rfl⟩
  · split at hz
    · rename_i x hl
      cases hz
      obtain ⟨v, e, rv⟩ := eL r
      cases (show v = .str x from rv)
      exact ⟨.str x, x.length, e, ⟨hl, rfl⟩, h.now R rfl⟩
    · cases hz
  · rename_i ns
    cases hz
    obtain ⟨v, e, rv⟩ := eL r
    obtain ⟨p, e1, e2⟩ := (show ∃ a, _ from rv)
    subst e1
    exact ⟨.ref p, ns.length, e, .inl ⟨_, e2.sq, by rw [List.length_map]⟩, h.now R rfl⟩
  · cases hz⟩
noncomputable def d4 : List D → Option DV
  | [.lst ds] => some (.own ds)
  | [.tup ds] => some (.own ds)
  | _ => none
theorem kN : gn X (.type "list") d4 := ⟨_, yh, by
  intro E σ H δ Ω vs ds z Q R r hz h
  unfold d4 at hz
  split at hz
  · cases hz
    obtain ⟨v, e, rv⟩ := eL r
    obtain ⟨a, ws, e1, e2, e3⟩ := cG rv
    subst e1
    exact ⟨a, ws, e, .inl (.inl e2), fun p hp => h.alloc1 R hp e3⟩
  · cases hz
    obtain ⟨v, e, rv⟩ := eL r
    obtain ⟨a, ws, e1, e2, e3⟩ := en rv
    subst e1
    exact ⟨a, ws, e, .inr e2, fun p hp => h.alloc1 R hp e3⟩
  · cases hz⟩
noncomputable def tyD : D → String
  | .non => "NoneType" | .bl _ => "bool" | .int _ => "int" | .str _ => "str" | .tup _ => "tuple" | .lst _ => "list" | .scr _ => "list" | .exc _ => "" | .key _ _ => "" | .obj _ _ _ _ => ""
noncomputable def sy : List String := ["int", "bool", "str", "list", "tuple"]
noncomputable def isExc : D → Bool
  | .exc _ => true
  | .key _ _ => true
  | .obj _ _ _ _ => true
  | _ => false
noncomputable def isD (T : String) (d : D) : Option Bool := if isExc d then none else if sy.contains T then some (tyD d == T || (tyD d == "bool" && T == "int")) else none
end
end DL
namespace DL
open PySem PySem.Spec PyProof.Rows L2
section
variable {X : Cx} {E : Str → Hp → Prop} {pos : Pos} {a b c e : Expr} {f g : DM DV} {mp : List Nat}
noncomputable def vg (A B : String) : Option Bool := if (Value.type A == Value.type B) = true then some true else if PySem.W.kitMeta B = true then (fastBuiltinMro A).map (·.contains (Value.type B)) else none
theorem z9 : (sy.all fun T => ["NoneType", "bool", "int", "str", "tuple", "list"].all fun A => vg A T == some (A == T || (A == "bool" && T == "int"))) = true := by decide +kernel
theorem yB {K : PySem.W.Frag} {T : String} {d : D} {bb : Bool} (h : isD T d = some bb) : PySem.W.kitOne K (.type (tyD d)) (.type T) = some bb := by
  unfold isD at h
  split at h
  · cases h
  rename_i hE
  split at h
  · rename_i hT
    cases h
    have h1 := List.all_eq_true.mp z9 T (List.contains_iff_mem.mp hT)
    have h2 := List.all_eq_true.mp h1 (tyD d) (by cases d <;> first | exact absurd rfl hE | simp [tyD])
    exact (beq_iff_eq.mp h2 : vg (tyD d) T = _)
  · cases h
theorem AE {K : PySem.W.Frag} {H : Hp} {Ω : Om} {d : D} {x : V} {T : String} {bb : Bool} (h : cb K H Ω d x) (hd : isD T d = some bb) : TyD K H x (tyD d) := by
  cases d with
  | non => cases (show x = .non from h); exact .non
  | bl y => cases (show x = .bl y from h); exact .bl y
  | int y => cases (show x = .int y from h); exact .int y
  | str y => cases (show x = .str y from h); exact .str y
  | tup ds => obtain ⟨p, vs, e1, e2, e3⟩ := en h; subst e1; exact .tup e2
  | lst ds => obtain ⟨p, vs, e1, e2, e3⟩ := cG h; subst e1; exact .lst (.inl e2)
  | scr ns => obtain ⟨p, e1, e2⟩ := (show ∃ a, _ from h); subst e1; exact .lst e2.sq
  | exc c => cases hd
  | key r n => cases hd
  | obj _ _ _ _ => cases hd
noncomputable def gIs (T : String) (d : D) : Option DV := (isD T d).map fun bb => .val (.bl bb)
theorem n5 {T : String} {x : Str} {p p2 : Pos} (hm : X.mg "isinstance" = none) (hm2 : X.mg x = none) (hv : bootBuiltins x = some (.type T)) (ha : PED X E e f) (hg : Gl X "isinstance" := by rfl) (hg2 : Gl X x := by rfl)
    (hn : x ≠ "__name__" := by decide) (hdb : (x == ("__debug__" : Str)) = false := by decide)
    (hs : starEach [e, .Name x p2] X.env = (false, eval e X.env) :: starEach [.Name x p2] X.env := by rfl) (hs2 : starEach [.Name x p2] X.env = (false, eval (.Name x p2) X.env) :: starEach [] X.env := by rfl)
    (hpl : (backTo pos (starEach [.Name x p2] X.env)).any (·.1) = false := by rfl) :
    PED X E (.Call (.Name "isinstance" p) [e, .Name x p2] [] pos) (fUn f (gIs T)) := by
  obtain ⟨t, q, d⟩ := ha
  refine ⟨_, pq CN hg hm boot_isinstance (fA q (fA (oM (v := .ty T) hg2 hm2 hv rfl hn hdb) ic hs2) hs) (by decide) (by decide) hs hpl, ?_⟩
  intro σ H δ Ω R Q h
  refine d.use R h fun a1 x δ1 H1 Ω1 _ s1 R1 r1 h1 => ?_
  (try dsimp only at h1)
  cases q1 : res δ1 a1 with
  | none => rw [q1] at h1; exact h1.elim
  | some d1 =>
    rw [q1] at h1
    (try dsimp only at h1)
    cases q3 : isD T d1 with
    | none =>
      unfold gIs at h1
      rw [q3] at h1
      exact h1.elim
    | some bb =>
      unfold gIs at h1
      rw [q3] at h1
      exact ⟨x, T, tyD d1, bb, rfl, AE (r1.res R1 q1) q3, yB q3, Wg.now (d := .val (.bl bb)) h1 R1 rfl⟩
noncomputable def MtD (X : Cx) (T id : String) (gg : D → List D → Option DV) : Prop := ∃ r, MtR X id r ∧ ∀ {E : Str → Hp → Prop} {σ : St} {H : Hp} {δ : DSt} {Ω : Om} {x : V} {vs : List V} {d : D} {ds : List D} {z : DV} {Q : VK},
  aE X.K H Ω σ δ → cb X.K H Ω d x → ki X.K H Ω ds vs → gg d ds = some z → Wg E H Ω (PV X.K σ Q) (.ok z δ) → r x vs H Q
noncomputable def fBM (fo : DM DV) (fa : DM (List DV)) (gg : D → List D → Option DV) : DM DV := (fN fo).bd fun o => fun δ0 => match res δ0 o with
  | some (.str _) => (fa.bd fun as => fun δ => match res δ o, fG δ as with
    | some d, some ds => (match gg d ds with | some r => .ok r δ | none => .un)
    | _, _ => .un) δ0
  | _ => .un
theorem xR {id : String} {o : Expr} {es : List Expr} {name : Str} {apos cpos : Pos} {fo : DM DV} {fa : DM (List DV)} {gg : D → List D → Option DV} (hm : MtD X "str" id gg) (slot : Slot "str" name id) (hty : typeOf (.builtin id) = pure (.type "method_descriptor"))
    (ho : PED X E o fo) (ha : PAD X E (e :: es) fa)
    (hbase : attributeBase o name X.env (eval o X.env) = eval o X.env := by rfl)
    (hfew : ((backTo cpos (starEach (e :: es) X.env)).all (fun x => !x.1) && (backToKw cpos (keywordEach [] X.env)).all (fun x => x.1.isSome)
      && decide ((e :: es).length + ([] : List Keyword).length + (if ([] : List Keyword).isEmpty then 0 else 1) < 30)) = true := by rfl)
    (hline : (apos.endLine == cpos.line) = true := by rfl) (hs : starEach (e :: es) X.env = (false, eval e X.env) :: starEach es X.env := by rfl) (hplain : (backTo cpos (starEach es X.env)).any (·.1) = false := by rfl) :
    PED X E (.Call (.Attribute o name apos) (e :: es) [] cpos) (fBM fo fa gg) := by
  obtain ⟨r, h1, h2⟩ := hm
  obtain ⟨to, p1, d1⟩ := ho
  obtain ⟨ta, p2, d2⟩ := ha
  refine ⟨_, pk PySem.F.plainAttrs_str slot hty h1 p1 p2 hbase hfew hline hs hplain, ?_⟩
  intro σ H δ Ω R Q h
  refine d1.use R h fun a1 x δ1 H1 Ω1 _ s1 R1 r1 h1 => ?_
  (try dsimp only at h1)
  split at h1
  · rename_i z q1
    have ty : tyV X.K "str" x H1 := by
      have rb := r1.res R1 q1
      cases (show x = .str z from rb)
      exact rfl
    refine ⟨ty, d2.use R1 h1 fun as vs δ2 H2 Ω2 e2 s2 R2 r2 h3 => ?_⟩
    (try dsimp only at h3)
    cases q2 : res δ2 a1 with
    | none => rw [q2] at h3; exact h3.elim
    | some dd =>
      cases q3 : fG δ2 as with
      | none => rw [q2, q3] at h3; exact h3.elim
      | some ds =>
        rw [q2, q3] at h3
        (try dsimp only at h3)
        cases q4 : gg dd ds with
        | none => rw [q4] at h3; exact h3.elim
        | some z =>
          rw [q4] at h3
          exact h2 R2 ((r1.ext s1 e2).res R2 q2) (r2.all R2 q3) q4 h3
  · exact h1.elim
noncomputable def strsOf : List D → Option (List Str)
  | [] => some []
  | .str x :: r => (strsOf r).map fun xs => x :: xs
  | _ :: _ => none
theorem mL {K : PySem.W.Frag} {H : Hp} {Ω : Om} : ∀ {ds : List D} {vs : List V} {xs : List Str}, aB K H Ω ds vs → strsOf ds = some xs → vs = xs.map V.str
  | [], _, _, r, h => by cases h; exact r
  | d :: ds, _, xs, r, h => by
    obtain ⟨v, q, e1, e2, e3⟩ := (show ∃ v r, _ from r)
    cases d with
    | str x =>
      obtain ⟨ys, h1, rfl⟩ := Option.map_eq_some_iff.mp (show (strsOf ds).map _ = _ from h)
      rw [e1, mL e3 h1, (show v = .str x from e2)]
      rfl
    | _ => cases h
noncomputable def mm : D → List D → Option DV
  | .str sep, [.lst ds] => (strsOf ds).bind fun ys => if (ys.map (·.length)).sum + ys.length * sep.length ≤ 16777216 then some (.val (.str (Txt.join sep ys))) else none
  | _, _ => none
theorem De : MtD X "str" "str.join" mm := ⟨_, yu, by
  intro E σ H δ Ω x vs d ds z Q R r1 r2 hz h
  unfold mm at hz
  split at hz
  · rename_i sep es
    obtain ⟨ys, h1, h2⟩ := Option.bind_eq_some_iff.mp hz
    split at h2
    · rename_i hl
      cases h2
      obtain ⟨v, e, rv⟩ := eL r2
      obtain ⟨a, ws, e1, e2, e3⟩ := cG rv
      subst e1
      have hw := mL e3 h1
      subst hw
      exact ⟨sep, a, ys, r1, e, .inl (.inl e2), hl, h.now R rfl⟩
    · cases h2
  · cases hz⟩
section
variable {tg iter elt : Expr} {ifs : List Expr} {sc : Scope} {fi : DM (List D)} {t : D → DSt → Option DSt} {fc : DM Bool} {fe : DM DV} {N : List Str} {sel : List (Option Nat)}
noncomputable def PID (X : Cx) (E : Str → Hp → Prop) (tg iter : Expr) (fi : DM (List D)) : Prop := ∃ wi, PI X tg iter wi ∧ DI X.K E wi fi
noncomputable def PGD (X : Cx) (mp : List Nat) (tg : Expr) (t : D → DSt → Option DSt) : Prop := ∃ g, PG X tg g ∧ DG X.K mp g t
noncomputable def kW (X : Cx) (ifs : List Expr) (fc : DM Bool) : Prop := ∃ ts, PTs X ifs ts ∧ DT X.K EN ts fc
theorem eP (ha : PED X E a f) : PID X E tg a (fIt f cD) := by
  obtain ⟨t, p, d⟩ := ha; exact ⟨_, zb p, Aq d⟩
theorem gF {r : DM (List DV)} {p : Pos} (hm : X.mg "range" = none) (ha : PAD X E [a] r) (hg : Gl X "range" := by rfl) (hs : starEach [a] X.env = [(false, eval a X.env)] := by rfl) : PID X E tg (.Call (.Name "range" p) [a] [] pos) (dv r) := by
  obtain ⟨t, q, d⟩ := ha; exact ⟨_, vT hg hm q hs, Cy d⟩
theorem cU {i : Nat} {x : Str} (hN : X.N.Nodup) (hi : X.N[i]? = some x := by rfl) (hx : Loc X.env.scope x := by first | exact Or.inl rfl | exact Or.inr rfl) (hm : i ∉ mp := by decide)
    (hf : X.fn x = true ∨ X.env.scope.names.lookup x = some .local := by first | exact .inl rfl | exact .inr rfl) : PGD X mp (.Name x pos) (bg i) := ⟨_, jZ hN hi hx hf, Dw hm⟩
theorem il : kW X [] (.ret true) := ⟨_, Du, fun σ H δ Ω R Q h => Wg.nowB h R⟩
theorem lZ (B : Blk X N sel sc) (hc : X.calm = true) (hi : PID X E tg iter fi) (hg : ∀ b, PGD (blk X N sc b) [] tg t) (ht : ∀ b, kW (blk X N sc b) ifs fc) (he : ∀ b, PED (blk X N sc b) EN elt fe)
    (hs : ∀ x, foldedSetIterable iter X.env x = pure x := by intro _; rfl) : PED X E (.ListComp elt [⟨tg, iter, ifs, 0⟩] sc pos) (fLC fi t fc fe sel) := by
  obtain ⟨wi, p, d⟩ := hi
  refine ⟨_, CZ (g := fun v σ H Q => ∀ b, (hg b).choose v σ H Q) (ts := fun σ H Q => ∀ b, (ht b).choose σ H Q) (te := fun σ H Q => ∀ b, (he b).choose σ H Q) B hc p
    (fun b pins s σ H v u Q I r h => (hg b).choose_spec.1 pins s σ H v u Q I r (h b)) (fun b pins s σ H Q I h => (ht b).choose_spec.1 pins s σ H Q I (h b)) (fun b pins s σ H Q I h => (he b).choose_spec.1 pins s σ H Q I (h b)) hs,
    uF d (fun σ H δ Ω dd x δ' R r e Q h b => (hg b).choose_spec.2 σ H δ Ω dd x δ' R r e Q h) (fun σ H δ Ω R Q h b => (ht b).choose_spec.2 σ H δ Ω R Q h) (fun σ H δ Ω R Q h b => (he b).choose_spec.2 σ H δ Ω R Q h)⟩
end
theorem aZ : dW X E mp [] aO := ⟨_, zy, wu⟩
theorem aw {st : Stmt} {rest : List Stmt} {f1 f2 : DM Fl} (h1 : PSD X E mp st f1) (h2 : dW X E mp rest f2) : dW X E mp (st :: rest) (ak f1 f2) := by
  obtain ⟨t, p, d⟩ := h1; obtain ⟨u, q, r⟩ := h2; exact ⟨_, BZ p q, yQ d r⟩
theorem aA {st : Stmt} {f1 : DM Fl} (h1 : PSD X E mp st f1) : dW X E mp [st] f1 := by
  obtain ⟨t, p, d⟩ := h1; exact ⟨_, vS p, d⟩
theorem jx (i : Nat) {st : Stmt} {f1 : DM Fl} (h1 : PSD X E mp st f1) : PSD X E mp st (fun δ => f1 (frz i δ)) := by
  obtain ⟨t, p, d⟩ := h1; exact ⟨_, p, zS d⟩
theorem aP (h : PED X E e f) : PSD X E mp (.Return (some e) pos) (aI f) := by
  obtain ⟨t, p, d⟩ := h; exact ⟨_, xA p, zx d⟩
theorem vn (h : PED X E e f) (hs : swapsWith e none pos.line X.env = pure false := by rfl) : PSD X E mp (.Expr e pos) (gQ f) := by
  obtain ⟨t, p, d⟩ := h; exact ⟨_, me p hs, AY d⟩
theorem aV {fc : DM Bool} {s1 s2 : List Stmt} {f1 f2 : DM Fl} (hc : PTD X E c fc) (h1 : dW X E mp s1 f1) (h2 : dW X E mp s2 f2) : PSD X E mp (.If c s1 s2 pos) (fIf fc f1 f2) := by
  obtain ⟨t, p, d⟩ := hc; obtain ⟨t1, p1, d1⟩ := h1; obtain ⟨t2, p2, d2⟩ := h2
  exact ⟨_, vX p p1 p2, zc d d1 d2⟩
theorem aT (i : Nat) {x : Str} {pos' : Pos} (hN : X.N.Nodup) (he : PED X E e f) (hi : X.N[i]? = some x := by rfl) (hx : Loc X.env.scope x := by first | exact Or.inl rfl | exact Or.inr rfl) (hm : i ∉ mp := by decide)
    (hs : swapsWith e (some (.Name x pos')) pos.line X.env = pure false := by rfl) (hf : X.fn x = true ∨ X.env.scope.names.lookup x = some .local := by first | exact .inl rfl | exact .inr rfl) : PSD X E mp (.Assign [.Name x pos'] e pos) (aF i f) := by
  obtain ⟨t, p, d⟩ := he; exact ⟨_, qJ hN hi hx p hs hf, rT hm d⟩
theorem di (i : Nat) {x : Str} {pos' : Pos} (hN : X.N.Nodup) (he : PED X E e f) (hi : X.N[i]? = some x := by rfl) (hx : Loc X.env.scope x := by first | exact Or.inl rfl | exact Or.inr rfl) (hm : i ∉ mp := by decide)
    (hs : swapsWith e (some (.Name x pos')) pos.line X.env = pure false := by rfl) (hf : X.fn x = true ∨ X.env.scope.names.lookup x = some .local := by first | exact .inl rfl | exact .inr rfl) : PSD X E mp (.Assign [.Name x pos'] e pos) (bV i f) := by
  obtain ⟨t, p, d⟩ := he; exact ⟨_, qJ hN hi hx p hs hf, ux hm d⟩
theorem cM {tg iter : Expr} {body : List Stmt} {fi : DM (List D)} {t : D → DSt → Option DSt} {fb : DM Fl} (hp : PassesOwn (model X.prog X.w) X.A X.env X.xe) (hc : X.calm = true) (hi : PID X E tg iter fi) (hg : PGD X mp tg t) (hb : dW X E mp body fb)
    (hs : ∀ x, foldedSetIterable iter X.env x = pure x := by intro _; rfl) : PSD X E mp (.For tg iter body [] pos) (b0 fi t fb) := by
  obtain ⟨wi, p1, d1⟩ := hi; obtain ⟨g, p2, d2⟩ := hg; obtain ⟨ts, p3, d3⟩ := hb
  exact ⟨_, Cc hp hc p1 p2 p3 hs, AI d1 d2 d3⟩
theorem sU {body : List Stmt} {fc : DM Bool} {fb : DM Fl} (n : Nat) (hp : PassesOwn (model X.prog X.w) X.A X.env X.xe) (hc : PTD X E c fc) (hb : dW X E mp body fb) : PSD X E mp (.While c body [] pos) (cT fc fb n) := by
  obtain ⟨t, p1, d1⟩ := hc; obtain ⟨ts, p3, d3⟩ := hb
  exact ⟨_, yt hp p1 p3, wF n d1 d3⟩
noncomputable def qw (i : Nat) (f : DM DV) : DM Fl := (fN f).bd fun a δ => match a, δ[i]? with
  | .val d, some (.ow ds) => if ds.length < sizeLine then .ok .nx (δ.set i (.ow (ds ++ [d]))) else .un
  | _, _ => .un
noncomputable def iA (i : Nat) (δ : DSt) : Bool := match δ[i]? with | some (.ow _) => true | _ => false
noncomputable def bE (i : Nat) (f : DM DV) : DM Fl := fun δ => if iA i δ then qw i f δ else .un
section
variable {K : PySem.W.Frag} {H : Hp} {Ω : Om} {σ : St} {δ : DSt}
theorem aE.putOw {i : Nat} {p : Addr} {xs : List V} {es : List D} (R : aE K H Ω σ δ) (hσ : σ[i]? = some (some (.ref p))) (hl : ∃ vs, H p = some vs ∧ cE vs = false) (hp : Ω p = some (i + 2)) (r : aB K H Ω es xs) : aE K (upd H p (.lst xs)) Ω σ (δ.set i (.ow es)) := by
  have hp' : Ω p ≠ none := by rw [hp]; exact Option.some_ne_none _
  refine ⟨by rw [List.length_set]; exact R.len, fun j s h => ?_, fun a k q => ?_⟩
  · by_cases hj : i = j
    · subst hj
      have hl' : i < δ.length := by
        have := (List.getElem?_eq_some_iff.mp h).1
        rwa [List.length_set] at this
      rw [List.getElem?_set_self hl'] at h
      cases h
      exact ⟨p, xs, by rw [hσ]; rfl, cK, hp, r.put hl hp'⟩
    · rw [List.getElem?_set_ne hj] at h
      refine (R.sl j s h).mv (fun _ _ z => z.put hl hp') (fun _ _ z => z.put hl hp') fun a ws e3 e2 => ?_
      have ha : a ≠ p := by
        rintro rfl
        rw [hp] at e3
        exact hj (by have := Option.some.inj e3; omega)
      exact ⟨by rw [bf ha]; exact e2, e3⟩
  · by_cases ha : a = p
    · subst ha; exact ⟨_, cK, rfl⟩
    · obtain ⟨ws, e, f⟩ := R.trk a k q
      exact ⟨ws, by rw [bf ha]; exact e, f⟩
theorem Ext.putOw {p : Addr} {k : Nat} {o : HO} (hl : ∃ vs, H p = some vs ∧ cE vs = false) (hp : Ω p = some (k + 1)) : Ext H Ω (upd H p o) Ω where
  keep := fun b o' q h => by
    have hb : b ≠ p := by
      rintro rfl
      obtain ⟨vs, e, f⟩ := hl
      rw [e] at q
      cases q
      rcases h with h | h | h
      · rw [f] at h; cases h
      · rw [hp] at h; cases h
      · rw [hp] at h; cases h
    rw [bf hb]
    exact q
  new := fun _ q _ => q
  fr := fun _ => Iff.rfl
  live := fun b q => by
    unfold upd at q
    split at q
    · cases q
    · exact q
end
theorem dm (i : Nat) {x : Str} {p apos cpos : Pos} (he : PED X E e f) (hN : X.N[i]? = some x := by rfl) (hv : Vis X.env.scope x := by first | exact Or.inl rfl | exact Or.inr (Or.inl rfl) | exact Or.inr (Or.inr rfl))
    (hd : (x == ("__debug__" : Str)) = false := by decide) (hcd : (x == ("__classdict__" : Str)) = false := by decide)
    (hbase : attributeBase (.Name x p) "append" X.env (eval (.Name x p) X.env) = eval (.Name x p) X.env := by rfl)
    (hfew : ((backTo cpos (starEach [e] X.env)).all (fun x => !x.1) && (backToKw cpos (keywordEach [] X.env)).all (fun x => x.1.isSome)
      && decide (([e] : List Expr).length + ([] : List Keyword).length + (if ([] : List Keyword).isEmpty then 0 else 1) < 30)) = true := by rfl)
    (hline : (apos.endLine == cpos.line) = true := by rfl) (hs : starEach [e] X.env = (false, eval e X.env) :: starEach [] X.env := by rfl)
    (hsw : swapsWith (.Call (.Attribute (.Name x p) "append" apos) [e] [] cpos) none pos.line X.env = pure false := by rfl) :
    PSD X E mp (.Expr (.Call (.Attribute (.Name x p) "append" apos) [e] [] cpos) pos) (bE i f) := by
  obtain ⟨t, q, d⟩ := he
  refine ⟨_, me (pk PySem.F.plainAttrs_list PySem.F.slot_list_append PySem.F.type_list_append sS (pv i hN hv hd hcd) (fA q ic hs) hbase hfew hline hs rfl) hsw, ?_⟩
  intro σ H δ Ω R B h
  unfold bE at h
  split at h
  · rename_i ho
    unfold iA at ho
    split at ho
    · rename_i ds hds
      obtain ⟨a, vs, e1, e2, e3, e4⟩ := R.sl i _ hds
      refine ⟨.ref a, join_some e1, .inl ⟨rfl, vs, SqL.of e2⟩, d.use R h fun a1 y δ1 H1 Ω1 ex s1 R1 r1 h1 => ?_⟩
      (try dsimp only at h1)
      split at h1
      · rename_i dd es hds1
        split at h1
        · rename_i hz
          obtain ⟨a', ws, q1, q2, q3, q4⟩ := R1.sl i _ hds1
          have ea : a' = a := by
            have z := (join_some q1).symm.trans (join_some e1)
            injection z with z
            injection z with z
            injection z
          subst ea
          refine ⟨a', ws, y, rfl, rfl, q2, by rw [← q4.length]; exact hz, ?_⟩
          exact h1 _ Ω1 (.putOw (k := i + 1) ⟨_, q2, rfl⟩ q3) σ (R1.putOw (join_some q1) ⟨_, q2, rfl⟩ q3 (q4.append (.cons r1 .nil))) fun _ _ => rfl
        · exact h1.elim
      · exact h1.elim
    · cases ho
  · exact h.elim
end
end DL
namespace DL
open PySem PySem.Spec PyProof.Rows L2
noncomputable def dZ (f : D → D → Option Bool) : List D → List D → Option Bool
  | [], [] => some true
  | x :: xs, y :: ys => match f x y, dZ f xs ys with | some a, some b => some (a && b) | _, _ => none
  | [], _ :: _ => some false
  | _ :: _, [] => some false
noncomputable def oth : D → Option Bool
  | .scr _ => none
  | .exc _ => none
  | .key _ _ => none
  | .obj _ _ _ _ => none
  | _ => some false
noncomputable def jF (g : List D → List D → Option Bool) : D → D → Option Bool
  | .non, d => (match d with | .non => some true | d => oth d)
  | .int i, d => (match d with | .int j => some (i == j) | .bl _ => none | d => oth d)
  | .str x, d => (match d with | .str y => some (x == y) | d => oth d)
  | .bl x, d => (match d with | .bl y => some (x == y) | .int _ => none | d => oth d)
  | .tup xs, d => (match d with | .tup ys => g xs ys | d => oth d)
  | .lst xs, d => (match d with | .lst ys => g xs ys | d => oth d)
  | _, _ => none
noncomputable def eqG : Nat → List D → List D → Option Bool
  | 0 => fun _ _ => none
  | n + 1 => dZ (jF (eqG n))
noncomputable def cV (n : Nat) (d1 d2 : D) : Option Bool := jF (eqG n) d1 d2
theorem tR {g : List D → List D → Option Bool} {d1 d2 : D} (h : oth d1 = none) : jF g d1 d2 = none := by cases d1 <;> first | rfl | cases h
theorem jl {g : List D → List D → Option Bool} {d1 d2 : D} (h : oth d2 = none) : jF g d1 d2 = none := by cases d1 <;> cases d2 <;> first | rfl | cases h
theorem rJ {f : D → D → Option Bool} : ∀ {xs ys : List D} {b : Bool}, dZ f xs ys = some b → xs.length ≠ ys.length → b = false
  | [], [], _, _, hl => absurd rfl hl
  | [], _ :: _, _, e, _ => by cases e; rfl
  | _ :: _, [], _, e, _ => by cases e; rfl
  | x :: xs, y :: ys, b, e, hl => by
    unfold dZ at e
    split at e
    · rename_i p q h1 h2
      cases e
      rw [rJ h2 (fun z => hl (by rw [List.length_cons, List.length_cons, z])), Bool.and_false]
    · cases e
theorem qO {f : D → D → Option Bool} : ∀ {xs ys : List D} {b : Bool}, dZ f xs ys = some b → xs.length = ys.length →
    ∃ e : Nat → Bool, (∀ i x y, xs[i]? = some x → ys[i]? = some y → f x y = some (e i)) ∧ b = (List.range xs.length).all e
  | [], [], _, h, _ => ⟨fun _ => true, fun _ _ _ z => by simp at z, by cases h; rfl⟩
  | [], _ :: _, _, _, hl => by cases hl
  | _ :: _, [], _, _, hl => by cases hl
  | x :: xs, y :: ys, b, h, hl => by
    unfold dZ at h
    split at h
    · rename_i p q h1 h2
      cases h
      obtain ⟨e, he, hb⟩ := qO h2 (Nat.succ.inj hl)
      refine ⟨fun i => match i with | 0 => p | i + 1 => e i, fun i x' y' z1 z2 => ?_, ?_⟩
      · cases i with
        | zero =>
          have a1 : x = x' := by simpa using z1
          have a2 : y = y' := by simpa using z2
          subst a1 a2
          exact h1
        | succ i => exact he i x' y' (by simpa using z1) (by simpa using z2)
      · rw [hb, List.length_cons, List.range_succ_eq_map, List.all_cons, List.all_map]
        rfl
    · cases h
theorem sX {f : D → D → Option Bool} : ∀ {xs ys : List D} {b : Bool}, dZ f xs ys = some b →
    ∃ e : Nat → Bool, (∀ i x y, xs[i]? = some x → ys[i]? = some y → f x y = some (e i)) ∧ b = ((List.range (min xs.length ys.length)).all e && xs.length == ys.length)
  | [], [], _, h => ⟨fun _ => true, fun _ _ _ z => by simp at z, by cases h; rfl⟩
  | [], _ :: _, _, h => ⟨fun _ => true, fun _ _ _ z => by simp at z, by cases h; rfl⟩
  | _ :: _, [], _, h => ⟨fun _ => true, fun _ _ _ _ z => by simp at z, by cases h; rfl⟩
  | x :: xs, y :: ys, b, h => by
    unfold dZ at h
    split at h
    · rename_i p q h1 h2
      cases h
      obtain ⟨e, he, hb⟩ := sX h2
      refine ⟨fun i => match i with | 0 => p | i + 1 => e i, fun i x' y' z1 z2 => ?_, ?_⟩
      · cases i with
        | zero =>
          have a1 : x = x' := by simpa using z1
          have a2 : y = y' := by simpa using z2
          subst a1 a2
          exact h1
        | succ i => exact he i x' y' (by simpa using z1) (by simpa using z2)
      · rw [hb, List.length_cons, List.length_cons, Nat.succ_min_succ, List.range_succ_eq_map, List.all_cons, List.all_map, Bool.and_assoc]
        congr 1
        congr 1
        by_cases hq : xs.length = ys.length
        · rw [hq]; simp
        · rw [beq_eq_false_iff_ne.mpr hq, beq_eq_false_iff_ne.mpr (fun z => hq (Nat.succ.inj z))]
    · cases h
section
variable {K : PySem.W.Frag} {H : Hp} {Ω : Om} {s : Shared}
structure eR (K : PySem.W.Frag) (H : Hp) (s : Shared) : Prop where
  l : ∀ a xs, Rd H a (.lst xs) → ∃ its : List Value, Vals xs its ∧ s.heap.IsList a its.toArray
  t : ∀ a xs, SqT K H a xs → ∃ its : List Value, Vals xs its ∧ s.heap.IsTuple a its.toArray
theorem eR.of {X : Cx} {pins : List (Addr × Obj)} {σ : St} (I : Inv X pins σ H s) : eR X.K H s :=
  ⟨fun a xs h => by obtain ⟨its, r, p, _⟩ := I.list (.inl h); exact ⟨its, r, p.isList⟩, fun a xs h => by obtain ⟨its, r, p, _⟩ := I.tuple h; exact ⟨its, r, p⟩⟩
theorem zh {h : Heap} {a : Addr} {xs ys : List Value} (p : h.IsList a xs.toArray) (q : h.IsList a ys.toArray) : xs = ys := by
  obtain ⟨o, e, c, n, d⟩ := p
  obtain ⟨o', e', c', n', d'⟩ := q
  rw [e] at e'
  cases e'
  rw [d] at d'
  injection d' with z
  simpa using z
theorem Ah {h : Heap} {a : Addr} {xs ys : List Value} (p : h.IsTuple a xs.toArray) (q : h.IsTuple a ys.toArray) : xs = ys := by
  obtain ⟨o, e, c, n, d⟩ := p
  obtain ⟨o', e', c', n', d'⟩ := q
  rw [e] at e'
  cases e'
  rw [d] at d'
  injection d' with z
  simpa using z
theorem rk {h : Heap} {a : Addr} {xs ys : Array Value} (p : h.IsList a xs) (q : h.IsTuple a ys) : False := by
  obtain ⟨o, e, c, n, d⟩ := p
  obtain ⟨o', e', c', n', d'⟩ := q
  rw [e] at e'
  cases e'
  rw [c] at c'
  exact absurd c' (by decide)
inductive AsX (K : PySem.W.Frag) (H : Hp) (Ω : Om) : D → V → Prop
  | non : AsX K H Ω .non .non
  | bl (b : Bool) : AsX K H Ω (.bl b) (.bl b)
  | int (i : Int) : AsX K H Ω (.int i) (.int i)
  | str (z : Str) : AsX K H Ω (.str z) (.str z)
  | tup (ds : List D) (p : Addr) (vs : List V) (q : SqT K H p vs) (r : aB K H Ω ds vs) : AsX K H Ω (.tup ds) (.ref p)
  | lst (ds : List D) (p : Addr) (vs : List V) (q : Rd H p (.lst vs)) (r : aB K H Ω ds vs) : AsX K H Ω (.lst ds) (.ref p)
  | oth (d : D) (v : V) (h : DL.oth d = none) : AsX K H Ω d v
theorem asX {d : D} {x : V} (h : cb K H Ω d x) : AsX K H Ω d x := by
  cases d with
  | non => cases (show x = .non from h); exact .non
  | bl b => cases (show x = .bl b from h); exact .bl b
  | int i => cases (show x = .int i from h); exact .int i
  | str z => cases (show x = .str z from h); exact .str z
  | tup ds => obtain ⟨p, vs, e, q, r⟩ := en h; subst e; exact .tup ds p vs q r
  | lst ds => obtain ⟨p, vs, e, q, r⟩ := cG h; subst e; exact .lst ds p vs q r
  | _ => exact .oth _ _ rfl
theorem uS {f : D → D → Option Bool} (ih : ∀ {d1 d2 : D} {b : Bool} {v : V}, Rep K H Ω d1 v → Rep K H Ω d2 v → f d1 d2 = some b → b = true) : ∀ {xs ys : List D} {vs : List V} {b : Bool}, aB K H Ω xs vs → aB K H Ω ys vs → dZ f xs ys = some b → b = true
  | [], ys, vs, b, r1, r2, e => by
    cases (show vs = [] from r1)
    cases ys with
    | nil => cases e; rfl
    | cons y ys => obtain ⟨v, q, e1, _⟩ := (show ∃ v r, _ from r2); cases e1
  | x :: xs, ys, vs, b, r1, r2, e => by
    obtain ⟨v, q, e1, e2, e3⟩ := (show ∃ v r, _ from r1)
    subst e1
    cases ys with
    | nil => cases (show _ = [] from r2)
    | cons y ys =>
      obtain ⟨v', q', g1, g2, g3⟩ := (show ∃ v r, _ from r2)
      cases g1
      unfold dZ at e
      split at e
      · rename_i p1 p2 z1 z2
        cases e
        rw [ih e2 g2 z1, uS ih e3 g3 z2]; rfl
      · cases e
theorem vB {g : List D → List D → Option Bool} (hs : eR K H s) (hg : ∀ {xs ys : List D} {vs : List V} {b : Bool}, aB K H Ω xs vs → aB K H Ω ys vs → g xs ys = some b → b = true) {d1 d2 : D} {b : Bool} {v : V} (h1 : cb K H Ω d1 v) (h2 : cb K H Ω d2 v) (e : jF g d1 d2 = some b) : b = true := by
  cases asX h1 with
  | oth d v h => rw [tR h] at e; cases e
  | non => cases d2 <;> first | (cases e; done) | (cases e; rfl) | (cases h2; done) | (obtain ⟨_, _, z, _⟩ := (show ∃ a vs, _ from h2); cases z)
  | bl b => cases d2 <;> first | (cases e; done) | (cases h2; cases e; exact beq_self_eq_true _) | (cases h2; done) | (obtain ⟨_, _, z, _⟩ := (show ∃ a vs, _ from h2); cases z)
  | int i => cases d2 <;> first | (cases e; done) | (cases h2; cases e; exact beq_self_eq_true _) | (cases h2; done) | (obtain ⟨_, _, z, _⟩ := (show ∃ a vs, _ from h2); cases z)
  | str z => cases d2 <;> first | (cases e; done) | (cases h2; cases e; exact beq_self_eq_true _) | (cases h2; done) | (obtain ⟨_, _, z, _⟩ := (show ∃ a vs, _ from h2); cases z)
  | tup ds p vs q r =>
    cases d2 with
    | tup ds2 =>
      obtain ⟨p2, ws, z, q2, r2⟩ := en h2
      cases z
      obtain ⟨i1, k1, z1⟩ := hs.t _ _ q
      obtain ⟨i2, k2, z2⟩ := hs.t _ _ q2
      cases Ah z1 z2
      cases k1.inj k2
      exact hg r r2 e
    | lst ds2 =>
      obtain ⟨p2, ws, z, q2, r2⟩ := cG h2
      cases z
      obtain ⟨_, _, k1⟩ := hs.t _ _ q
      obtain ⟨_, _, k2⟩ := hs.l _ _ q2
      exact (rk k2 k1).elim
    | _ => first | (cases e; done) | (cases h2; done)
  | lst ds p vs q r =>
    cases d2 with
    | lst ds2 =>
      obtain ⟨p2, ws, z, q2, r2⟩ := cG h2
      cases z
      obtain ⟨i1, k1, z1⟩ := hs.l _ _ q
      obtain ⟨i2, k2, z2⟩ := hs.l _ _ q2
      cases zh z1 z2
      cases k1.inj k2
      exact hg r r2 e
    | tup ds2 =>
      obtain ⟨p2, ws, z, q2, r2⟩ := en h2
      cases z
      obtain ⟨_, _, k1⟩ := hs.t _ _ q2
      obtain ⟨_, _, k2⟩ := hs.l _ _ q
      exact (rk k2 k1).elim
    | _ => first | (cases e; done) | (cases h2; done)
theorem rm (hs : eR K H s) : ∀ (n : Nat) {d1 d2 : D} {b : Bool} {v : V}, Rep K H Ω d1 v → Rep K H Ω d2 v → cV n d1 d2 = some b → b = true
  | 0, _, _, _, _, h1, h2, e => vB hs (g := eqG 0) (fun _ _ z => nomatch z) h1.b h2.b e
  | n + 1, _, _, _, _, h1, h2, e => vB hs (g := eqG (n + 1)) (uS (f := cV n) (rm hs n)) h1.b h2.b e
theorem pF (hs : eR K H s) {n : Nat} {A : Around} {d1 d2 : D} {b : Bool} {x y : V} {v u : Value} (hu : A.units < cLine) (h1 : cb K H Ω d1 x) (h2 : cb K H Ω d2 y) (r1 : RelV x v) (r2 : RelV y u) (e : cV n d1 d2 = some b)
    (hc : ∀ xs ys, ¬ (d1 = .tup xs ∧ d2 = .tup ys) ∧ ¬ (d1 = .lst xs ∧ d2 = .lst ys)) : SeqAt.RcAt A s v u b ∧ SeqAt.RcNeAt A s v u (!b) ∧ SeqAt.EqAt A s v u b := by
  have e : jF (eqG n) d1 d2 = some b := e
  cases asX h1 with
  | oth d v h => rw [tR h] at e; cases e
  | non =>
    cases (show v = Value.none from r1)
    cases asX h2 with
    | oth d v h => rw [jl h] at e; cases e
    | non => cases (show u = Value.none from r2); cases e; exact ⟨.none_none, .none_none, .same _⟩
    | bl b2 => cases (show u = Value.bool b2 from r2); cases e; exact ⟨.none_bool _, .none_bool _, .none_bool _⟩
    | int i2 => obtain ⟨t2, rfl⟩ := (show ∃ t, u = Value.int i2 t from r2); cases e; exact ⟨.none_int _ _, .none_int _ _, .none_int _ _⟩
    | str i2 => obtain ⟨t2, rfl⟩ := (show ∃ t, u = Value.str i2 t from r2); cases e; exact ⟨.none_str _ _, .none_str _ _, .none_str _ _⟩
    | tup _ p2 _ q2 _ => cases (show u = Value.ref p2 from r2); obtain ⟨_, _, k⟩ := hs.t _ _ q2; cases e; exact ⟨.none_tuple k hu, .none_tuple k hu, .none_tuple k hu⟩
    | lst _ p2 _ q2 _ => cases (show u = Value.ref p2 from r2); obtain ⟨_, _, k⟩ := hs.l _ _ q2; cases e; exact ⟨.none_list k hu, .none_list k hu, .none_list k hu⟩
  | bl b1 =>
    cases (show v = Value.bool b1 from r1)
    cases asX h2 with
    | oth d v h => rw [jl h] at e; cases e
    | non => cases (show u = Value.none from r2); cases e; exact ⟨.bool_none _, .bool_none _, .bool_none _⟩
    | bl b2 => cases (show u = Value.bool b2 from r2); cases e; exact ⟨.bool_bool _ _, .bool_bool _ _, .bool_bool _ _⟩
    | int i2 => cases e
    | str z2 => obtain ⟨t2, rfl⟩ := (show ∃ t, u = Value.str z2 t from r2); cases e; exact ⟨.bool_str _ _ _, .bool_str _ _ _, .bool_str _ _ _⟩
    | tup _ p2 _ q2 _ => cases (show u = Value.ref p2 from r2); obtain ⟨_, _, hl2⟩ := hs.t _ _ q2; cases e; exact ⟨.bool_tuple _ hl2 hu, .bool_tuple _ hl2 hu, .bool_tuple _ hl2 hu⟩
    | lst _ p2 _ q2 _ => cases (show u = Value.ref p2 from r2); obtain ⟨_, _, hl2⟩ := hs.l _ _ q2; cases e; exact ⟨.bool_list _ hl2 hu, .bool_list _ hl2 hu, .bool_list _ hl2 hu⟩
  | int i1 =>
    obtain ⟨t1, rfl⟩ := (show ∃ t, v = Value.int i1 t from r1)
    cases asX h2 with
    | oth d v h => rw [jl h] at e; cases e
    | non => cases (show u = Value.none from r2); cases e; exact ⟨.int_none _ _, .int_none _ _, .int_none _ _⟩
    | bl b2 => cases e
    | int i2 => obtain ⟨t2, rfl⟩ := (show ∃ t, u = Value.int i2 t from r2); cases e; exact ⟨.int_int _ _ _ _, .int_int _ _ _ _, .int_int _ _ _ _⟩
    | str z2 => obtain ⟨t2, rfl⟩ := (show ∃ t, u = Value.str z2 t from r2); cases e; exact ⟨.int_str _ _ _ _, .int_str _ _ _ _, .int_str _ _ _ _⟩
    | tup _ p2 _ q2 _ => cases (show u = Value.ref p2 from r2); obtain ⟨_, _, hl2⟩ := hs.t _ _ q2; cases e; exact ⟨.int_tuple _ _ hl2 hu, .int_tuple _ _ hl2 hu, .int_tuple _ _ hl2 hu⟩
    | lst _ p2 _ q2 _ => cases (show u = Value.ref p2 from r2); obtain ⟨_, _, hl2⟩ := hs.l _ _ q2; cases e; exact ⟨.int_list _ _ hl2 hu, .int_list _ _ hl2 hu, .int_list _ _ hl2 hu⟩
  | str z1 =>
    obtain ⟨t1, rfl⟩ := (show ∃ t, v = Value.str z1 t from r1)
    cases asX h2 with
    | oth d v h => rw [jl h] at e; cases e
    | non => cases (show u = Value.none from r2); cases e; exact ⟨.str_none _ _, .str_none _ _, .str_none _ _⟩
    | bl b2 => cases (show u = Value.bool b2 from r2); cases e; exact ⟨.str_bool _ _ _, .str_bool _ _ _, .str_bool _ _ _⟩
    | int i2 => obtain ⟨t2, rfl⟩ := (show ∃ t, u = Value.int i2 t from r2); cases e; exact ⟨.str_int _ _ _ _, .str_int _ _ _ _, .str_int _ _ _ _⟩
    | str z2 => obtain ⟨t2, rfl⟩ := (show ∃ t, u = Value.str z2 t from r2); cases e; exact ⟨.str_str _ _ _ _, .str_str _ _ _ _, .str_str _ _ _ _⟩
    | tup _ p2 _ q2 _ => cases (show u = Value.ref p2 from r2); obtain ⟨_, _, hl2⟩ := hs.t _ _ q2; cases e; exact ⟨.str_tuple _ _ hl2 hu, .str_tuple _ _ hl2 hu, .str_tuple _ _ hl2 hu⟩
    | lst _ p2 _ q2 _ => cases (show u = Value.ref p2 from r2); obtain ⟨_, _, hl2⟩ := hs.l _ _ q2; cases e; exact ⟨.str_list _ _ hl2 hu, .str_list _ _ hl2 hu, .str_list _ _ hl2 hu⟩
  | tup _ p1 _ q1 _ =>
    cases (show v = Value.ref p1 from r1); obtain ⟨_, _, hl1⟩ := hs.t _ _ q1
    cases asX h2 with
    | oth d v h => rw [jl h] at e; cases e
    | non => cases (show u = Value.none from r2); cases e; exact ⟨.tuple_none hl1 hu, .tuple_none hl1 hu, .tuple_none hl1 hu⟩
    | bl b2 => cases (show u = Value.bool b2 from r2); cases e; exact ⟨.tuple_bool _ hl1 hu, .tuple_bool _ hl1 hu, .tuple_bool _ hl1 hu⟩
    | int i2 => obtain ⟨t2, rfl⟩ := (show ∃ t, u = Value.int i2 t from r2); cases e; exact ⟨.tuple_int _ _ hl1 hu, .tuple_int _ _ hl1 hu, .tuple_int _ _ hl1 hu⟩
    | str z2 => obtain ⟨t2, rfl⟩ := (show ∃ t, u = Value.str z2 t from r2); cases e; exact ⟨.tuple_str _ _ hl1 hu, .tuple_str _ _ hl1 hu, .tuple_str _ _ hl1 hu⟩
    | tup _ p2 _ q2 _ => exact absurd ⟨rfl, rfl⟩ (hc _ _).1
    | lst _ p2 _ q2 _ => cases (show u = Value.ref p2 from r2); obtain ⟨_, _, hl2⟩ := hs.l _ _ q2; cases e; exact ⟨.tuple_list hl1 hl2 hu, .tuple_list hl1 hl2 hu, .tuple_list hl1 hl2 hu⟩
  | lst _ p1 _ q1 _ =>
    cases (show v = Value.ref p1 from r1); obtain ⟨_, _, hl1⟩ := hs.l _ _ q1
    cases asX h2 with
    | oth d v h => rw [jl h] at e; cases e
    | non => cases (show u = Value.none from r2); cases e; exact ⟨.list_none hl1 hu, .list_none hl1 hu, .list_none hl1 hu⟩
    | bl b2 => cases (show u = Value.bool b2 from r2); cases e; exact ⟨.list_bool _ hl1 hu, .list_bool _ hl1 hu, .list_bool _ hl1 hu⟩
    | int i2 => obtain ⟨t2, rfl⟩ := (show ∃ t, u = Value.int i2 t from r2); cases e; exact ⟨.list_int _ _ hl1 hu, .list_int _ _ hl1 hu, .list_int _ _ hl1 hu⟩
    | str z2 => obtain ⟨t2, rfl⟩ := (show ∃ t, u = Value.str z2 t from r2); cases e; exact ⟨.list_str _ _ hl1 hu, .list_str _ _ hl1 hu, .list_str _ _ hl1 hu⟩
    | tup _ p2 _ q2 _ => cases (show u = Value.ref p2 from r2); obtain ⟨_, _, hl2⟩ := hs.t _ _ q2; cases e; exact ⟨.list_tuple hl1 hl2 hu, .list_tuple hl1 hl2 hu, .list_tuple hl1 hl2 hu⟩
    | lst _ p2 _ q2 _ => exact absurd ⟨rfl, rfl⟩ (hc _ _).2
theorem rZ {xs : List V} {its : List Value} (r : Vals xs its) {j : Nat} (h : j < its.toArray.size) : ∃ x, xs[j]? = some x ∧ RelV x its.toArray[j] := by
  have hl := r.length
  have h' : j < its.length := by simpa using h
  obtain ⟨x, hx⟩ : ∃ x, xs[j]? = some x := ⟨xs[j]'(by omega), List.getElem?_eq_getElem (by omega)⟩
  obtain ⟨u, hu, ru⟩ := r.get hx
  rw [List.getElem?_eq_getElem h'] at hu
  cases hu
  exact ⟨x, hx, by simpa using ru⟩
theorem o9 (hs : eR K H s) {n : Nat} (ih : ∀ (A : Around) (d1 d2 : D) (b : Bool) (x y : V) (v u : Value), A.units + n < cLine → Rep K H Ω d1 x → Rep K H Ω d2 y → RelV x v → RelV y u → cV n d1 d2 = some b → SeqAt.EqAt A s v u b)
    {A : Around} {d1 d2 : D} {b : Bool} {x y : V} {v u : Value} (hu : A.units + (n + 1) < cLine) (h1 : cb K H Ω d1 x) (h2 : cb K H Ω d2 y) (r1 : RelV x v) (r2 : RelV y u) (e : cV (n + 1) d1 d2 = some b) : SeqAt.RcAt A s v u b ∧ SeqAt.RcNeAt A s v u (!b) := by
  have items : ∀ {xs ys : List D} {vs ws : List V} {i1 i2 : List Value} {ee : Nat → Bool}, aB K H Ω xs vs → aB K H Ω ys ws → Vals vs i1 → Vals ws i2 → (∀ i x y, xs[i]? = some x → ys[i]? = some y → cV n x y = some (ee i)) →
      ∀ j (q1 : j < i1.toArray.size) (q2 : j < i2.toArray.size), SeqAt.EqAt A.in1 s i1.toArray[j] i2.toArray[j] (ee j) := by
    intro xs ys vs ws i1 i2 ee p1 p2 p3 p4 he j q1 q2
    obtain ⟨x1, g1, g2⟩ := rZ p3 q1
    obtain ⟨y1, g3, g4⟩ := rZ p4 q2
    have l1 := p1.length
    have l2 := p2.length
    have b1 : j < xs.length := by rw [l1]; exact (List.getElem?_eq_some_iff.mp g1).1
    have b2 : j < ys.length := by rw [l2]; exact (List.getElem?_eq_some_iff.mp g3).1
    obtain ⟨x2, z1, z2⟩ := p1.get (List.getElem?_eq_getElem b1)
    obtain ⟨y2, z3, z4⟩ := p2.get (List.getElem?_eq_getElem b2)
    rw [g1] at z1; cases z1
    rw [g3] at z3; cases z3
    exact ih A.in1 _ _ _ _ _ _ _ (by show A.units + 1 + n < cLine; omega) z2 z4 g2 g4 (he j _ _ (List.getElem?_eq_getElem b1) (List.getElem?_eq_getElem b2))
  by_cases ht : ∃ xs ys, d1 = .tup xs ∧ d2 = .tup ys
  · obtain ⟨xs, ys, rfl, rfl⟩ := ht
    obtain ⟨p1, vs, e1, q1, w1⟩ := en h1
    obtain ⟨p2, ws, e2, q2, w2⟩ := en h2
    cases e1; cases e2
    cases (show v = Value.ref p1 from r1); cases (show u = Value.ref p2 from r2)
    obtain ⟨i1, g1, hl1⟩ := hs.t _ _ q1
    obtain ⟨i2, g2, hl2⟩ := hs.t _ _ q2
    obtain ⟨ee, he, hb⟩ := sX (f := cV n) e
    have hb' : b = ((List.range (min i1.toArray.size i2.toArray.size)).all ee && i1.toArray.size == i2.toArray.size) := by
      rw [hb, List.size_toArray, List.size_toArray, ← g1.length, ← g2.length, ← w1.length, ← w2.length]
    rw [hb']
    exact ⟨.tuples hl1 hl2 (by omega) (items w1 w2 g1 g2 he), .tuples hl1 hl2 (by omega) (items w1 w2 g1 g2 he)⟩
  · by_cases hl : ∃ xs ys, d1 = .lst xs ∧ d2 = .lst ys
    · obtain ⟨xs, ys, rfl, rfl⟩ := hl
      obtain ⟨p1, vs, e1, q1, w1⟩ := cG h1
      obtain ⟨p2, ws, e2, q2, w2⟩ := cG h2
      cases e1; cases e2
      cases (show v = Value.ref p1 from r1); cases (show u = Value.ref p2 from r2)
      obtain ⟨i1, g1, hl1⟩ := hs.l _ _ q1
      obtain ⟨i2, g2, hl2⟩ := hs.l _ _ q2
      have e' : dZ (cV n) xs ys = some b := e
      have s1 : i1.toArray.size = xs.length := by rw [List.size_toArray, ← g1.length, ← w1.length]
      have s2 : i2.toArray.size = ys.length := by rw [List.size_toArray, ← g2.length, ← w2.length]
      by_cases hlen : xs.length = ys.length
      · obtain ⟨ee, he, hb⟩ := qO e' hlen
        have hb' : b = (List.range i1.toArray.size).all ee := by rw [hb, s1]
        rw [hb']
        exact ⟨.lists hl1 hl2 (by rw [s1, s2, hlen]) (by omega) (items w1 w2 g1 g2 he), .lists hl1 hl2 (by rw [s1, s2, hlen]) (by omega) (items w1 w2 g1 g2 he)⟩
      · have hb := rJ e' hlen
        subst hb
        have hne : (i1.toArray.size != i2.toArray.size) = true := by rw [s1, s2]; simpa using hlen
        exact ⟨.lists_lengths hl1 hl2 hne (by omega), .lists_lengths hl1 hl2 hne (by omega)⟩
    · have := pF hs (A := A) (by omega) h1 h2 r1 r2 e fun xs ys => ⟨fun z => ht ⟨xs, ys, z⟩, fun z => hl ⟨xs, ys, z⟩⟩
      exact ⟨this.1, this.2.1⟩
theorem qy (hs : eR K H s) : ∀ (n : Nat) (A : Around) (d1 d2 : D) (b : Bool) (x y : V) (v u : Value), A.units + n < cLine → Rep K H Ω d1 x → Rep K H Ω d2 y → RelV x v → RelV y u → cV n d1 d2 = some b → SeqAt.EqAt A s v u b := by
  intro n
  induction n with
  | zero =>
    intro A d1 d2 b x y v u hu h1 h2 r1 r2 e
    refine (pF hs (by omega) h1.b h2.b r1 r2 e fun xs ys => ⟨?_, ?_⟩).2.2
    · rintro ⟨rfl, rfl⟩; cases e
    · rintro ⟨rfl, rfl⟩; cases e
  | succ n ih =>
    intro A d1 d2 b x y v u hu h1 h2 r1 r2 e
    by_cases hc : ∀ xs ys, ¬ (d1 = .tup xs ∧ d2 = .tup ys) ∧ ¬ (d1 = .lst xs ∧ d2 = .lst ys)
    · exact (pF hs (by omega) h1.b h2.b r1 r2 e hc).2.2
    · have rc := (o9 hs ih hu h1.b h2.b r1 r2 e).1
      have refs : ∃ p q, x = .ref p ∧ y = .ref q := by
        apply Classical.byContradiction
        intro hn
        apply hc
        intro xs ys
        refine ⟨?_, ?_⟩
        · rintro ⟨rfl, rfl⟩
          obtain ⟨p, _, e1, _⟩ := (show ∃ a vs, _ from h1)
          obtain ⟨q, _, e2, _⟩ := (show ∃ a vs, _ from h2)
          exact hn ⟨p, q, e1, e2⟩
        · rintro ⟨rfl, rfl⟩
          obtain ⟨p, _, e1, _⟩ := (show ∃ a vs, _ from h1)
          obtain ⟨q, _, e2, _⟩ := (show ∃ a vs, _ from h2)
          exact hn ⟨p, q, e1, e2⟩
      obtain ⟨p, q, rfl, rfl⟩ := refs
      cases (show v = Value.ref p from r1); cases (show u = Value.ref q from r2)
      by_cases hpq : p = q
      · subst hpq
        rw [rm hs (n + 1) h1 h2 e]
        exact .same _
      · exact .of_refs hpq rc
end
section
variable {X : Cx}
noncomputable def gEq (d1 d2 : D) : Option DV := (cV 8 d1 d2).map fun b => .val (.bl b)
noncomputable def gNe (d1 d2 : D) : Option DV := (cV 8 d1 d2).map fun b => .val (.bl (!b))
noncomputable def ve (K : PySem.W.Frag) (neg : Bool) : R2 := fun x y H Q => ∃ Ω d1 d2 b, cb K H Ω d1 x ∧ cb K H Ω d2 y ∧ cV 8 d1 d2 = some b ∧ Q (.bl (if neg then !b else b)) H
theorem v9 (hu : X.A.units + 64 < cLine) : OpR X (compareOp .Eq) (ve X.K false) := by
  intro pins s σ H x y v u Q I rx ry h
  obtain ⟨Ω, d1, d2, b, h1, h2, e, q⟩ := h
  exact (o9 (eR.of I) (n := 7) (qy (eR.of I) 7) (by omega) h1 h2 rx ry e).1 _ _ _ _ ⟨.bl b, H, I, rfl, q⟩
theorem xw (hu : X.A.units + 64 < cLine) : OpR X (compareOp .NotEq) (ve X.K true) := by
  intro pins s σ H x y v u Q I rx ry h
  obtain ⟨Ω, d1, d2, b, h1, h2, e, q⟩ := h
  exact (o9 (eR.of I) (n := 7) (qy (eR.of I) 7) (by omega) h1 h2 rx ry e).2 _ _ _ _ ⟨.bl (!b), H, I, rfl, q⟩
theorem bB (hu : X.A.units + 64 < cLine) : eY X .Eq gEq := ⟨_, v9 hu, by
  intro E σ H δ Ω x y d1 d2 z Q R r1 r2 hz h
  obtain ⟨b, e, rfl⟩ := Option.map_eq_some_iff.mp hz
  exact ⟨Ω, d1, d2, b, r1, r2, e, h.now R rfl⟩⟩
theorem kP (hu : X.A.units + 64 < cLine) : eY X .NotEq gNe := ⟨_, xw hu, by
  intro E σ H δ Ω x y d1 d2 z Q R r1 r2 hz h
  obtain ⟨b, e, rfl⟩ := Option.map_eq_some_iff.mp hz
  exact ⟨Ω, d1, d2, b, r1, r2, e, h.now R rfl⟩⟩
end
end DL
namespace DL
open PySem PySem.Spec PyProof.Rows L2
noncomputable def DO (K : PySem.W.Frag) (E : Str → Hp → Prop) (to : TO) (f : DM (Option Int)) : Prop := ∀ σ H δ Ω, aE K H Ω σ δ → ∀ Q : Option Int → Hp → Prop, Wg E H Ω (fun o δ' H' Ω' => aE K H' Ω' σ δ' → Q o H') (f δ) → to σ H Q
noncomputable def POD (X : Cx) (E : Str → Hp → Prop) (e : Option Expr) (f : DM (Option Int)) : Prop := ∃ t, PO X e t ∧ DO X.K E t f
noncomputable def fE : DM (Option Int) := .ret none
noncomputable def bT (f : DM DV) : DM (Option Int) := (fN f).bd fun a δ => match res δ a with
  | some (.int i) => .ok (some i) δ
  | _ => .un
noncomputable def cutD {α : Type} (xs : List α) (lo hi : Option Int) : List α := (xs.drop (HT.sIx xs.length 0 lo)).take (HT.sIx xs.length xs.length hi - HT.sIx xs.length 0 lo)
noncomputable def dP (d : D) (lo hi : Option Int) : Option DV := match d with
  | .lst ds => some (.own (cutD ds lo hi))
  | .str z => if z.length ≤ sizeLine then some (.val (.str (Txt.slice z lo hi))) else none
  | _ => none
noncomputable def cO (f : DM DV) (lo hi : DM (Option Int)) : DM DV := (fN f).bd fun a => lo.bd fun l => hi.bd fun u => fun δ => match res δ a with
  | some d => (match dP d l u with | some r => .ok r δ | none => .un)
  | none => .un
section
variable {X : Cx} {E : Str → Hp → Prop} {pos p2 : Pos} {e : Expr} {f : DM DV} {lo hi : Option Expr} {fl fu : DM (Option Int)}
theorem jy : POD X E none fE := ⟨_, yc, fun σ H δ Ω R Q h => h H Ω .refl R⟩
theorem eF (h : PED X E e f) : POD X E (some e) (bT f) := by
  obtain ⟨t, p, d⟩ := h
  refine ⟨_, zQ p, fun σ H δ Ω R Q h => ?_⟩
  refine d.use R h fun a x δ1 H1 Ω1 _ s1 R1 r1 h1 => ?_
  (try dsimp only at h1)
  split at h1
  · rename_i i q1
    exact ⟨i, r1.res R1 q1, h1 H1 Ω1 .refl R1⟩
  · exact h1.elim
theorem fW (he : PED X E e f) (hl : POD X E lo fl) (hu : POD X E hi fu) : PED X E (.Subscript e (.Slice lo hi none p2) pos) (cO f fl fu) := by
  obtain ⟨t, p, d⟩ := he
  obtain ⟨tl, pl, dl⟩ := hl
  obtain ⟨tu, pu, du⟩ := hu
  refine ⟨_, Bl (AM.or zX) p pl pu, fun σ H δ Ω R Q h => ?_⟩
  refine d.use R h fun a x δ1 H1 Ω1 _ s1 R1 r1 h1 => ?_
  refine dl σ H1 δ1 Ω1 R1 _ (Wg.bd h1 fun l δ2 H2 Ω2 e2 h2 R2 => ?_)
  refine du σ H2 δ2 Ω2 R2 _ (Wg.bd h2 fun u δ3 H3 Ω3 e3 h3 R3 => ?_)
  have r3 := r1.ext s1 (e2.trans e3)
  cases q : res δ3 a with
  | none => rw [q] at h3; exact h3.elim
  | some dd =>
    rw [q] at h3
    cases dd with
    | lst ds =>
      obtain ⟨b, vs, e1, q2, q3⟩ := cG (r3.res R3 q)
      refine .inl ⟨b, vs, e1, .inl q2, fun p hp => ?_⟩
      have hc : aB X.K H3 Ω3 (cutD ds l u) (jL vs l u) := by
        unfold cutD jL
        rw [q3.length]
        exact (q3.drop _).take _
      exact Wg.alloc1 h3 R3 hp hc
    | str z =>
      unfold dP at h3
      (try dsimp only at h3)
      split at h3
      · rename_i r hr
        split at hr
        · rename_i hz
          cases hr
          exact .inr ⟨z, r3.res R3 q, hz, Wg.now h3 R3 rfl⟩
        · cases hr
      · exact h3.elim
    | _ => exact h3.elim
end
end DL
namespace DL
open PySem PySem.Spec PyProof.Rows L2
theorem nO {K : PySem.W.Frag} {mg : Str → Option Value} {x : Str} {i : Int} {t : Tok} (h : mg x = some (.int i t)) : lR K mg x (.int i) := ⟨_, .int i, h, ⟨t, rfl⟩, fun _ _ => rfl⟩
theorem Cz {K : PySem.W.Frag} {ce : Str → Value} {M : List D → Ro} {H : Hp} {a : Addr} {ns : List Int} {E : XK} (hM : M [.scr ns] = .ok (.bl true)) (hO : nq H) (hS : SqL K H a (ns.map V.int)) : spP K ce 1 M [.ref a] H (fun v _ => v = .bl true) E := by
  refine ⟨rfl, fun _ => none, [.scr ns], fun _ _ q => (by cases q), fun _ _ q => (by cases q), .cons (show ∃ a, _ from ⟨a, rfl, ?_⟩) .nil, ?_⟩
  · rcases hS with (h | ⟨o, h⟩) | h
    · rcases hO a with z | ⟨o, xs, z⟩ <;> (rw [z] at h; cases h)
    · exact .inl ⟨o, h⟩
    · exact .inr h
  · rw [hM]
    exact fun H' Ω' _ _ v r => r
end DL
namespace DL
open PySem L2
theorem str_len (a b : Str) : (a ++ b).length = a.length + b.length := by
  show (Str.append a b).length = _
  unfold Str.append Str.length
  exact Array.size_append
theorem Bd (sep : Str) (ls : List Str) : Txt.join sep ls = Str.join sep ls := StrLaws.glued_eq_join sep ls
theorem tN : ∀ (xs : List Str), strsOf (xs.map D.str) = some xs
  | [] => rfl
  | x :: xs => by
    show (strsOf (xs.map D.str)).map _ = _
    rw [tN xs]; rfl
theorem rE {fe : DM DV} {fc : DM Bool} {rest : DSt} {g : D → D} {p : D → Bool} : ∀ (ds : List D) (s0 : Sl) (out : List D), out.length + ds.length ≤ sizeLine →
    (∀ d ∈ ds, fc (.sh d :: rest) = .ok (p d) (.sh d :: rest)) → (∀ d ∈ ds, p d = true → fN fe (.sh d :: rest) = .ok (.val (g d)) (.sh d :: rest)) →
    cf (bg 0) fc fe ds (s0 :: rest) out = some (out ++ (ds.filter p).map g)
  | [], _, out, _, _, _ => by simp [cf]
  | d :: ds, s0, out, hl, hc, he => by
    have h1 := hc d List.mem_cons_self
    have hl' : out.length + (ds.length + 1) ≤ sizeLine := hl
    have ih := fun out' (h : out'.length + ds.length ≤ sizeLine) => rE ds (.sh d) out' h (fun x hx => hc x (List.mem_cons_of_mem _ hx)) (fun x hx => he x (List.mem_cons_of_mem _ hx))
    unfold cf
    show (match fc (.sh d :: rest) with | .ok true δ2 => _ | .ok false δ2 => _ | _ => _) = _
    rw [h1]
    cases hp : p d with
    | false =>
      show cf (bg 0) fc fe ds (.sh d :: rest) out = _
      rw [ih out (by omega), List.filter_cons_of_neg (by simp [hp])]
    | true =>
      show (match fN fe (.sh d :: rest) with | .ok (.val v) δ3 => _ | _ => _) = _
      rw [he d List.mem_cons_self hp]
      show (if out.length < sizeLine then cf (bg 0) fc fe ds (.sh d :: rest) (out ++ [g d]) else none) = _
      rw [if_pos (by omega), ih _ (by rw [List.length_append, List.length_singleton]; omega), List.filter_cons_of_pos hp, List.map_cons, List.append_assoc]
      rfl
theorem comp_map {fe : DM DV} {rest : DSt} {g : D → D} (ds : List D) (s0 : Sl) (hl : ds.length ≤ sizeLine) (he : ∀ d ∈ ds, fN fe (.sh d :: rest) = .ok (.val (g d)) (.sh d :: rest)) :
    cf (bg 0) (.ret true) fe ds (s0 :: rest) [] = some (ds.map g) := by
  have := rE (fc := .ret true) (p := fun _ => true) (g := g) ds s0 [] (by simpa using hl) (fun _ _ => rfl) (fun d hd _ => he d hd)
  rw [List.filter_eq_self.mpr (fun _ _ => rfl), List.nil_append] at this
  exact this
noncomputable def okD : Nat → D → Bool
  | _, .non => true
  | _, .int _ => true
  | _, .str _ => true
  | _, .bl _ => true
  | n + 1, .tup xs => xs.all (okD n)
  | n + 1, .lst xs => xs.all (okD n)
  | _, _ => false
theorem lV : ∀ (n : Nat) (d : D), okD n d = true → cV n d d = some true := by
  intro n
  induction n with
  | zero => intro d h; cases d <;> first | (cases h; done) | rfl | exact congrArg some (beq_self_eq_true _)
  | succ n ih =>
    have items : ∀ xs : List D, xs.all (okD n) = true → dZ (cV n) xs xs = some true := by
      intro xs
      induction xs with
      | nil => intro _; rfl
      | cons x xs ihx =>
        intro h
        rw [List.all_cons, Bool.and_eq_true] at h
        unfold dZ
        rw [ih x h.1, ihx h.2]
        rfl
    intro d h
    cases d with
    | tup xs => exact items xs h
    | lst xs => exact items xs h
    | _ => first | (cases h; done) | rfl | exact congrArg some (beq_self_eq_true _)
theorem yW {lo : Int} {n : Nat} {d : D} (h : d ∈ bK lo n) : ∃ k : Nat, k < n ∧ d = .int (lo + k) := by
  unfold bK at h
  obtain ⟨k, hk, e⟩ := List.mem_map.mp h
  exact ⟨k, List.mem_range.mp hk, e.symm⟩
theorem uz {n : Nat} {d : D} (h : d ∈ bK 0 n) : ∃ k : Nat, k < n ∧ d = .int (k : Int) := by
  obtain ⟨k, hk, e⟩ := yW h
  exact ⟨k, hk, by rw [e, Int.zero_add]⟩
theorem iC (lo : Int) (n : Nat) : (bK lo n).length = n := by unfold bK; rw [List.length_map, List.length_range]
end DL
namespace DL
open PySem L2
section
variable {f f1 f2 g fo : DM DV} {fa r : DM (List DV)} {δ δ1 δ2 δ3 : DSt} {a a1 a2 : DV} {d d1 d2 : D} {z : DV} {as : List DV} {ds es : List D} {i n : Nat} {R : Rs Fl} {S S1 : DM Fl} {c c1 : DM Bool} {b b1 : Bool}
theorem aq (h : δ[i]? = some (.sh d)) : ae i δ = .ok (.val d) δ := by unfold ae; rw [h]
theorem hZ (h : δ[i]? = some (.ow ds)) : ae i δ = .ok (.slot i) δ := by unfold ae; rw [h]
theorem ax : fC d δ = .ok (.val d) δ := rfl
theorem aN : ai δ = .ok [] δ := rfl
theorem ay (h1 : f δ = .ok a δ1) (h2 : r δ1 = .ok as δ2) : af f r δ = .ok (norm a :: as) δ2 := by unfold af fN DM.bd DM.ret; simp only [h1, h2]
theorem aC {gg : D → D → Option DV} (h1 : f1 δ = .ok a1 δ1) (h2 : f2 δ1 = .ok a2 δ2) (e1 : res δ2 (norm a1) = some d1) (e2 : res δ2 (norm a2) = some d2) (hg : gg d1 d2 = some z) : ag f1 f2 gg δ = .ok z δ2 := by
  unfold ag fN DM.bd DM.ret; simp only [h1, h2, e1, e2, hg]
theorem fw {gg : D → Option DV} (h1 : f δ = .ok a δ1) (e1 : res δ1 (norm a) = some d1) (hg : gg d1 = some z) : fUn f gg δ = .ok z δ1 := by
  unfold fUn fN DM.bd DM.ret; simp only [h1, e1, hg]
theorem dE {gg : List D → Option DV} (h : fa δ = .ok as δ1) (e : fG δ1 as = some ds) (hg : gg ds = some z) : fCB fa gg δ = .ok z δ1 := by
  unfold fCB DM.bd; simp only [h, e, hg]
theorem d6 {M : List D → Ro} (h : fa δ = .ok as δ1) (e : cw as = some ds) (hn : ds.length = n) (hM : M ds = .ok d) : aD n fa M δ = .ok (.val d) δ1 := by
  unfold aD DM.bd; simp only [h, e, hn, if_true, hM]
noncomputable def nH : Ro → DSt → Rs DV
  | .un, _ => .un
  | .er c, _ => .er c
  | .ok d, δ => .ok (.val d) δ
  | .own es, δ => .ok (.own es) δ
theorem Bs {M : List D → Ro} {ro : Ro} {Z : Rs DV} (h : fa δ = .ok as δ1) (e : cw as = some ds) (hn : ds.length = n) (hM : M ds = ro) (hr : nH ro δ1 = Z) : aD n fa M δ = Z := by
  unfold aD DM.bd; simp only [h, e, hn, if_true, hM]; cases ro <;> exact hr
theorem zJ : nH (.ok d) δ = .ok (.val d) δ := rfl
theorem xH : nH (.own ds) δ = .ok (.own ds) δ := rfl
theorem dA {M : List D → Ro} (h : fa δ = .ok as δ1) (e : cw as = some ds) (hn : ds.length = n) (hM : M ds = .own es) : aD n fa M δ = .ok (.own es) δ1 := by
  unfold aD DM.bd; simp only [h, e, hn, if_true, hM]
theorem dy (h : fa δ = .ok as δ1) (e : cw as = some ds) (hl : ds.length ≤ sizeLine) : aY fa δ = .ok (.val (.tup ds)) δ1 := by
  unfold aY DM.bd; simp only [h, e, hl, if_true]
theorem cX (h : fa δ = .ok as δ1) (e : cw as = some ds) (hl : ds.length ≤ sizeLine) : bF fa δ = .ok (.own ds) δ1 := by
  unfold bF DM.bd; simp only [h, e, hl, if_true]
theorem bM (h : f δ = .ok a δ1) (e : norm a = .val d) : aF i f δ = .ok .nx (δ1.set i (.sh d)) := by
  unfold aF fN DM.bd DM.ret; simp only [h, e]
theorem eo (h : f δ = .ok (.own ds) δ1) : bV i f δ = .ok .nx (δ1.set i (.ow ds)) := by
  unfold bV DM.bd; simp only [h]
noncomputable def mB (r : Rs Fl) (S1 : DM Fl) : Rs Fl := match r with
  | .ok .nx δ' => S1 δ'
  | r => r
theorem aG {R1 : Rs Fl} (h1 : S δ = R1) (h2 : mB R1 S1 = R) : ak S S1 δ = R := by unfold ak; rw [h1]; exact h2
theorem aJ (h : S1 δ = R) : mB (.ok .nx δ) S1 = R := h
theorem jK : mB (.ok (.rt d) δ) S1 = .ok (.rt d) δ := rfl
theorem lP : mB (.ok (.rto ds) δ) S1 = .ok (.rto ds) δ := rfl
theorem cx : aO δ = .ok .nx δ := rfl
theorem nk (h : f δ = .ok (.own ds) δ1) : aI f δ = .ok (.rto ds) δ1 := by unfold aI DM.bd; simp only [h]
theorem iP (h : f δ = .ok (.slot i) δ1) (e : δ1[i]? = some (.ow ds)) : aI f δ = .ok (.rto ds) (δ1.set i .no) := by unfold aI DM.bd; simp only [h, e]
noncomputable def kB (r : Rs DV) : Rs Fl := match r with
  | .un => .un
  | .er c => .er c
  | .ok (.val d) δ => .ok (.rt d) δ
  | .ok (.own ds) δ => .ok (.rto ds) δ
  | .ok (.slot i) δ => (match δ[i]? with | some (.ow ds) => .ok (.rto ds) (δ.set i .no) | _ => .un)
  | .ok (.fld _ _) _ => .un
theorem eX {Z : Rs DV} (h : f δ = Z) (h2 : kB Z = R) : aI f δ = R := by
  subst h
  rw [← h2]
  unfold aI DM.bd kB
  cases f δ with
  | un => rfl
  | er c => rfl
  | ok a δ' => cases a <;> rfl
theorem gz : kB (.ok (.val d) δ) = .ok (.rt d) δ := rfl
theorem o8 : kB (.ok (.own ds) δ) = .ok (.rto ds) δ := rfl
theorem wC (e : δ[i]? = some (.ow ds)) : kB (.ok (.slot i) δ) = .ok (.rto ds) (δ.set i .no) := by unfold kB; simp only [e]
theorem bz (h : f δ = .ok a δ1) (e : res δ1 (norm a) = some (.bl b)) : au f δ = .ok b δ1 := by unfold au fN DM.bd DM.ret; simp only [h, e]
theorem gI (ho : δ[i]? = some (.ow es)) (h : f δ = .ok a δ1) (e : norm a = .val d) (e2 : δ1[i]? = some (.ow ds)) (hl : ds.length < sizeLine) : bE i f δ = .ok .nx (δ1.set i (.ow (ds ++ [d]))) := by
  unfold bE iA qw fN DM.bd DM.ret; simp only [ho, if_true, h, e, e2, hl]
theorem kj {fi : DM (List D)} {t : D → DSt → Option DSt} {fc : DM Bool} {fe : DM DV} {sel : List (Option Nat)} (h : fi δ = .ok ds δ1) (hc : cf t fc fe ds (iU δ1 sel) [] = some es) : fLC fi t fc fe sel δ = .ok (.own es) δ1 := by
  unfold fLC DM.bd; simp only [h, hc]
theorem jW {j : Int} (h : fa δ = .ok as δ1) (e : as = [.val (.int j)]) (hs : gB j = true) : dv fa δ = .ok (bK 0 j.toNat) δ1 := by subst e; unfold dv DM.bd; simp only [h, hs, if_true]
theorem ik {gg : D → Option (List D)} (h : f δ = .ok a δ1) (e : norm a = .val d) (hg : gg d = some ds) : fIt f gg δ = .ok ds δ1 := by unfold fIt fN DM.bd DM.ret; simp only [h, e, hg]
theorem fz {fi : DM (List D)} {t : D → DSt → Option DSt} (h : fi δ = .ok ds δ1) (hr : bD t S ds δ1 = R) : b0 fi t S δ = R := by unfold b0 DM.bd; simp only [h]; exact hr
theorem B0 {gg : D → List D → Option DV} {x : Str} (h1 : fo δ = .ok a δ1) (e0 : res δ1 (norm a) = some (.str x)) (h2 : fa δ1 = .ok as δ2) (e1 : res δ2 (norm a) = some d) (e2 : fG δ2 as = some ds) (hg : gg d ds = some z) : fBM fo fa gg δ = .ok z δ2 := by
  unfold fBM fN DM.bd DM.ret; simp only [h1, e0, h2, e1, e2, hg]
theorem lu {lo hi : DM (Option Int)} {l u : Option Int} (h : f δ = .ok a δ1) (hl : lo δ1 = .ok l δ2) (hu : hi δ2 = .ok u δ3) (e : res δ3 (norm a) = some d) (hg : dP d l u = some z) : cO f lo hi δ = .ok z δ3 := by
  unfold cO fN DM.bd DM.ret; simp only [h, hl, hu, e, hg]
theorem lA : fE δ = .ok none δ := rfl
theorem lN {j : Int} (h : f δ = .ok a δ1) (e : res δ1 (norm a) = some (.int j)) : bT f δ = .ok (some j) δ1 := by unfold bT fN DM.bd DM.ret; simp only [h, e]
theorem qx {Z : Rs DV} (h : f δ = .ok a δ1) (e : res δ1 (norm a) = some (.bl b)) (hb : b = true) (hr : g δ1 = Z) : eE f g δ = Z := by
  unfold eE kh fN DM.bd DM.ret; simp only [h, e, hb, if_true]; exact hr
theorem wR (h : f δ = .ok a δ1) (e : res δ1 (norm a) = some (.bl b)) (hb : b = false) : eE f g δ = .ok (.val (.bl false)) δ1 := by
  unfold eE kh fN DM.bd DM.ret; simp only [h, e, hb, Bool.false_eq_true, if_false]; rfl
theorem vf (h : f δ = .ok a δ1) (e : res δ1 (norm a) = some (.bl b)) : gk f δ = .ok (.val (.bl (!b))) δ1 := by
  unfold gk kh fN DM.bd DM.ret; simp only [h, e]; rfl
theorem lJ (h : c δ = .ok b δ1) : cH c δ = .ok (!b) δ1 := by unfold cH DM.bd; simp only [h]; rfl
theorem uH {Z : Rs Bool} (h : c δ = .ok b δ1) (hb : b = true) (hr : c1 δ1 = Z) : bX c c1 δ = Z := by unfold bX DM.bd; simp only [h, hb, if_true]; exact hr
theorem zK (h : c δ = .ok b δ1) (hb : b = false) : bX c c1 δ = .ok false δ1 := by unfold bX DM.bd; simp only [h, hb, Bool.false_eq_true, if_false]; rfl
theorem rC {Z : Rs Bool} (h : c δ = .ok b δ1) (hb : b = false) (hr : c1 δ1 = Z) : bO c c1 δ = Z := by unfold bO DM.bd; simp only [h, hb, Bool.false_eq_true, if_false]; exact hr
theorem bj (h : c δ = .ok b δ1) (hr : (if b = true then S δ1 else S1 δ1) = R) : fIf c S S1 δ = R := by unfold fIf DM.bd; simp only [h]; cases b <;> exact hr
theorem yF {Z : Rs DV} (h : f δ = .ok a δ1) (e : res δ1 (norm a) = some (.bl b)) (hr : (if b = true then g δ1 else .ok (.val (.bl false)) δ1) = Z) : eE f g δ = Z := by
  cases b with
  | true => exact qx h e rfl hr
  | false => exact (wR h e rfl).trans hr
theorem AK {Z : Rs DV} (h : c δ = .ok b δ1) (hr : (if b = true then f δ1 else g δ1) = Z) : fS c f g δ = Z := by unfold fS DM.bd; simp only [h]; cases b <;> exact hr
theorem Ci {Z : Rs Bool} (h : c δ = .ok b δ1) (hr : (if b = true then .ok true δ1 else c1 δ1) = Z) : bO c c1 δ = Z := by unfold bO DM.bd; simp only [h]; cases b <;> exact hr
theorem cy {α : Type} {x y z : α} (hb : b = true) (h : x = z) : (if b = true then x else y) = z := by rw [hb]; exact h
theorem cg {α : Type} {x y z : α} (hb : b = false) (h : y = z) : (if b = true then x else y) = z := by rw [hb]; exact h
theorem qk {t : D → DSt → Option DSt} : bD t S [] δ = .ok .nx δ := rfl
theorem cB {t : D → DSt → Option DSt} (ht : t d δ = some δ1) (hb : S δ1 = .ok .nx δ2) (hr : bD t S ds δ2 = R) : bD t S (d :: ds) δ = R := by unfold bD; rw [ht]; dsimp only; rw [hb]; exact hr
theorem rA {t : D → DSt → Option DSt} (ht : t d δ = some δ1) (hb : S δ1 = .ok (.rt d1) δ2) : bD t S (d :: ds) δ = .ok (.rt d1) δ2 := by unfold bD; rw [ht]; dsimp only; rw [hb]
theorem dM {body : DM Fl} (h : body (ds.map .sh ++ List.replicate (n - ds.length) .no) = .ok (.rt d) δ1) : bA body n ds = .ok d := by unfold bA; rw [h]
theorem cQ {body : DM Fl} (h : body (ds.map .sh ++ List.replicate (n - ds.length) .no) = .ok (.rto es) δ1) : bA body n ds = .own es := by unfold bA; rw [h]
theorem kJ {i j : Int} : aK (.int i) (.int j) = some (.val (.int (i + j))) := rfl
theorem iH {x y : Str} (h : x.length + y.length ≤ sizeLine) : aK (.str x) (.str y) = some (.val (.str (x ++ y))) := if_pos h
theorem mF {xs ys : List D} (h : xs.length + ys.length ≤ sizeLine) : aK (.lst xs) (.lst ys) = some (.own (xs ++ ys)) := if_pos h
theorem BI {i j : Int} (h : j4 i j = true) : aQ (.int i) (.int j) = some (.val (.int (i * j))) := if_pos h
theorem iL {i j : Int} (h : cdiv j = true) : bJ (.int i) (.int j) = some (.val (.int (i / j))) := if_pos h
theorem eO {i j : Int} (h : decide (0 < j) = true) : bc (.int i) (.int j) = some (.val (.int (i % j))) := if_pos h
theorem oZ {j : Int} (h : atI ds j = some d) : gIx (.lst ds) (.int j) = some (.val d) := by show (atI ds j).map DV.val = _; rw [h]; rfl
theorem sZ {j : Int} (h : atI ds j = some d) : gIx (.tup ds) (.int j) = some (.val d) := by show (atI ds j).map DV.val = _; rw [h]; rfl
theorem nM {α : Type} (x : α) (xs : List α) : atI (x :: xs) 0 = some x := by
  unfold atI ixN
  rw [if_pos (Int.le_refl 0), if_pos (by rw [List.length_cons]; omega)]
  rfl
theorem iz : gIx (.lst (d :: ds)) (.int 0) = some (.val d) := oZ (nM d ds)
theorem yq {α : Type} {xs : List α} {j : Int} {x : α} (h0 : 0 ≤ j) (h : xs[j.toNat]? = some x) : atI xs j = some x := by
  have hl := (List.getElem?_eq_some_iff.mp h).1
  unfold atI ixN
  rw [if_pos h0, if_pos (by omega)]
  exact h
theorem iE {x : Str} (h : x.length ≤ sizeLine) : bq [.str x] = some (.val (.int x.length)) := if_pos h
theorem CW {sep : Str} {ys : List Str} (e : strsOf ds = some ys) (h : (ys.map (·.length)).sum + ys.length * sep.length ≤ 16777216) : mm (.str sep) [.lst ds] = some (.val (.str (Txt.join sep ys))) := by
  show (strsOf ds).bind _ = _; rw [e]; exact if_pos h
theorem gH {b : Bool} (h : cV 8 d1 d2 = some b) : gEq d1 d2 = some (.val (.bl b)) := by unfold gEq; rw [h]; rfl
theorem gr {b : Bool} (h : cV 8 d1 d2 = some b) : gNe d1 d2 = some (.val (.bl (!b))) := by unfold gNe; rw [h]; rfl
theorem zR {i j : Int} (h1 : -18446744073709551616 < i) (h2 : i < 18446744073709551616) : j4 i j = true := by unfold j4; rw [decide_eq_true h1, decide_eq_true h2]; rfl
theorem jq {j : Int} (h1 : -4611686018427387904 ≤ j) (h2 : j < 4611686018427387904) : gB j = true := by unfold gB; simp; exact ⟨by omega, by omega⟩
theorem hX {l u : Option Int} : dP (.lst ds) l u = some (.own (cutD ds l u)) := rfl
end
end DL
namespace DL
open PySem PySem.Spec PyProof.Rows L2
section
variable {X : Cx} {E : Str → Hp → Prop} {pos : Pos} {a b c e : Expr} {f g h : DM DV} {mp : List Nat}
noncomputable def intsOf : List D → Option (List Int)
  | [] => some []
  | .int i :: r => (intsOf r).map fun xs => i :: xs
  | _ :: _ => none
noncomputable def iF : List D → Option (List Bool)
  | [] => some []
  | .bl i :: r => (iF r).map fun xs => i :: xs
  | _ :: _ => none
theorem qp {K : PySem.W.Frag} {H : Hp} {Ω : Om} : ∀ {ds : List D} {vs : List V} {xs : List Int}, aB K H Ω ds vs → intsOf ds = some xs → vs = xs.map V.int
  | [], _, _, r, h => by cases h; exact r
  | d :: ds, _, xs, r, h => by
    obtain ⟨v, q, e1, e2, e3⟩ := (show ∃ v r, _ from r)
    cases d with
    | int x =>
      obtain ⟨ys, h1, rfl⟩ := Option.map_eq_some_iff.mp (show (intsOf ds).map _ = _ from h)
      rw [e1, qp e3 h1, (show v = .int x from e2)]
      rfl
    | _ => cases h
theorem pU {K : PySem.W.Frag} {H : Hp} {Ω : Om} : ∀ {ds : List D} {vs : List V} {xs : List Bool}, aB K H Ω ds vs → iF ds = some xs → vs = xs.map V.bl
  | [], _, _, r, h => by cases h; exact r
  | d :: ds, _, xs, r, h => by
    obtain ⟨v, q, e1, e2, e3⟩ := (show ∃ v r, _ from r)
    cases d with
    | bl x =>
      obtain ⟨ys, h1, rfl⟩ := Option.map_eq_some_iff.mp (show (iF ds).map _ = _ from h)
      rw [e1, pU e3 h1, (show v = .bl x from e2)]
      rfl
    | _ => cases h
noncomputable def fT : List D → Option DV
  | [.lst ds] => (intsOf ds).map fun ns => .val (.int ns.sum)
  | _ => none
theorem ox (hc : X.calm = true) : gn X (.builtin "sum") fT := ⟨_, BO hc, by
  intro E σ H δ Ω vs ds z Q R r hz h
  unfold fT at hz
  split at hz
  · obtain ⟨ns, h1, rfl⟩ := Option.map_eq_some_iff.mp hz
    obtain ⟨v, e, rv⟩ := eL r
    obtain ⟨a, ws, e1, e2, e3⟩ := cG rv
    subst e1
    have hw := qp e3 h1
    subst hw
    exact ⟨a, ns, e, .inl e2, h.now R rfl⟩
  · cases hz⟩
noncomputable def lM : List D → Option DV
  | [.lst ds] => (iF ds).map fun ns => .val (.bl (ns.any id))
  | _ => none
theorem Bf (hc : X.calm = true) : gn X (.builtin "any") lM := ⟨_, yd hc, by
  intro E σ H δ Ω vs ds z Q R r hz h
  unfold lM at hz
  split at hz
  · obtain ⟨ns, h1, rfl⟩ := Option.map_eq_some_iff.mp hz
    obtain ⟨v, e, rv⟩ := eL r
    obtain ⟨a, ws, e1, e2, e3⟩ := cG rv
    subst e1
    have hw := pU e3 h1
    subst hw
    exact ⟨a, ns, e, .inl e2, h.now R rfl⟩
  · cases hz⟩
theorem qH {K : PySem.W.Frag} {H : Hp} {Ω : Om} {d d' : D} {vs : List V} (h : ki K H Ω [d, d'] vs) : ∃ v v', vs = [v, v'] ∧ cb K H Ω d v ∧ cb K H Ω d' v' := by
  obtain ⟨v, r, e1, e2, e3⟩ := h
  obtain ⟨v', r', e1', e2', e3'⟩ := e3
  cases (show r' = [] from e3')
  subst e1'
  exact ⟨v, v', e1, e2, e2'⟩
noncomputable def bQ (i j : Int) : Int := if j < i then j else i
noncomputable def fk : List D → Option DV
  | [.int i, .int j] => some (.val (.int (bQ i j)))
  | _ => none
theorem nr (hc : X.calm = true) : gn X (.builtin "min") fk := ⟨_, Co hc, by
  intro E σ H δ Ω vs ds z Q R r hz h
  unfold fk at hz
  split at hz
  · cases hz
    obtain ⟨v, v', e, rv, rv'⟩ := qH r
    cases (show v = .int _ from rv)
    cases (show v' = .int _ from rv')
    exact ⟨_, _, e, h.now R rfl⟩
  · cases hz⟩
noncomputable def mD : List D → Option DV
  | [.lst ds] => some (.val (.tup ds))
  | [.tup ds] => some (.val (.tup ds))
  | _ => none
theorem C7 : gn X (.type "tuple") mD := ⟨_, wZ, by
  intro E σ H δ Ω vs ds z Q R r hz h
  unfold mD at hz
  split at hz
  · cases hz
    obtain ⟨v, e, rv⟩ := eL r
    obtain ⟨a, ws, e1, e2, e3⟩ := cG rv
    subst e1
    exact ⟨a, ws, e, .inl ⟨.inl e2, fun p hp => h.allocT R hp e3⟩⟩
  · cases hz
    obtain ⟨v, e, rv⟩ := eL r
    have rv' := rv
    obtain ⟨a, ws, e1, e2, e3⟩ := en rv
    subst e1
    exact ⟨a, ws, e, .inr ⟨e2, h.now R rv'⟩⟩
  · cases hz⟩
noncomputable def i5 (k : Str) (ys : List Str) : Bool := ys.any fun y => decide (y = k)
theorem uf (k : Str) (ys : List Str) : inV (.str k) (ys.map V.str) = i5 k ys := by
  unfold inV i5
  rw [List.any_map]
  have : ((fun y => eqV y (.str k)) ∘ V.str) = fun y => decide (y = k) := by
    funext y
    show (y == k) = decide (y = k)
    by_cases hy : y = k
    · subst hy; simp
    · rw [decide_eq_false hy]; exact beq_eq_false_iff_ne.mpr hy
  rw [this]
theorem rO (ys : List Str) : (ys.map V.str).all fO = true := by
  rw [List.all_map]
  exact List.all_eq_true.mpr fun _ _ => rfl
noncomputable def gIn : D → D → Option DV
  | .str k, .tup ds => (strsOf ds).map fun ys => .val (.bl (i5 k ys))
  | .str k, .lst ds => (strsOf ds).map fun ys => .val (.bl (i5 k ys))
  | _, _ => none
theorem pw : eY X .In gIn := ⟨_, xP, by
  intro E σ H δ Ω x y d1 d2 z Q R r1 r2 hz h
  unfold gIn at hz
  split at hz
  · obtain ⟨ys, h1, rfl⟩ := Option.map_eq_some_iff.mp hz
    obtain ⟨a, ws, e1, e2, e3⟩ := en r2
    cases mL e3 h1
    cases (show x = .str _ from r1)
    exact ⟨a, _, e1, .inr e2, rfl, rO ys, by rw [uf]; exact h.now R rfl⟩
  · obtain ⟨ys, h1, rfl⟩ := Option.map_eq_some_iff.mp hz
    obtain ⟨a, ws, e1, e2, e3⟩ := cG r2
    cases mL e3 h1
    cases (show x = .str _ from r1)
    exact ⟨a, _, e1, .inl (.inl e2), rfl, rO ys, by rw [uf]; exact h.now R rfl⟩
  · cases hz⟩
noncomputable def oC : D → Bool
  | .non => true
  | _ => false
theorem tI {K : PySem.W.Frag} {H : Hp} {Ω : Om} {d : D} {v : V} (h : cb K H Ω d v) : decide (v = .non) = oC d := by
  cases d with
  | non => cases (show v = .non from h); rfl
  | bl y => cases (show v = .bl y from h); rfl
  | int y => cases (show v = .int y from h); rfl
  | str y => cases (show v = .str y from h); rfl
  | tup ds => obtain ⟨p, vs, e1, e2, e3⟩ := en h; subst e1; rfl
  | lst ds => obtain ⟨p, vs, e1, e2, e3⟩ := cG h; subst e1; rfl
  | scr ns => obtain ⟨p, e1, e2⟩ := (show ∃ a, _ from h); subst e1; rfl
  | exc c => obtain ⟨p, C, e1, e2⟩ := (show ∃ a C, _ from h); subst e1; rfl
  | key r n => obtain ⟨p, e1, e2⟩ := (show ∃ a, _ from h); subst e1; rfl
  | obj ks vs as bs => obtain ⟨p, a1, a2, a3, kvs, xs, ys, e1, e2⟩ := (show ∃ p a1 a2 a3 kvs xs ys, _ from h); subst e1; rfl
noncomputable def mj : D → D → Option DV
  | d, .non => some (.val (.bl (oC d)))
  | _, _ => none
noncomputable def kU : D → D → Option DV
  | d, .non => some (.val (.bl (!oC d)))
  | _, _ => none
theorem zM : eY X .Is mj := ⟨_, Dj, by
  intro E σ H δ Ω x y d1 d2 z Q R r1 r2 hz h
  unfold mj at hz
  split at hz
  · cases hz
    exact ⟨r2, by rw [tI r1]; exact h.now R rfl⟩
  · cases hz⟩
theorem xb : eY X .IsNot kU := ⟨_, As, by
  intro E σ H δ Ω x y d1 d2 z Q R r1 r2 hz h
  unfold kU at hz
  split at hz
  · cases hz
    exact ⟨r2, by rw [tI r1]; exact h.now R rfl⟩
  · cases hz⟩
noncomputable def ft : D → Option DV
  | .int i => some (.val (.int (-i)))
  | _ => none
theorem n8 (ha : PED X E a f) : PED X E (.UnaryOp .USub a pos) (fUn f ft) := by
  obtain ⟨t, p, d⟩ := ha
  refine ⟨_, Cr CP p, xF ?_ d⟩
  intro E σ H δ Ω x d1 z Q R r1 hz h
  unfold ft at hz
  split at hz
  · cases hz; exact ⟨_, r1, h.now R rfl⟩
  · cases hz
noncomputable def kF (z : Str) : List D := z.cps.toList.map fun c => D.str ⟨#[c]⟩
noncomputable def fK : D → Option (List D)
  | .str z => some (kF z)
  | _ => none
theorem Cw {K : PySem.W.Frag} {H : Hp} {Ω : Om} (z : Str) : Yl K (Its z) H Ω (kF z) where
  go := fun i H' Ω' e hi => by
    unfold kF at hi
    rw [List.length_map] at hi
    show i < z.cps.size
    simpa using hi
  yld := fun i d H' Ω' x H'' e hd hy => by
    obtain ⟨q, c, h1, h2⟩ := hy
    subst q
    unfold kF at hd
    rw [List.getElem?_map] at hd
    have h1' : z.cps.toList[i]? = some c := by simpa using h1
    rw [h1'] at hd
    cases hd
    exact ⟨h2, .inl rfl⟩
  stop := fun H' Ω' e => by
    unfold kF
    rw [List.length_map]
    show z.cps.size ≤ _
    simp
theorem mh {tg : Expr} (ha : PED X E a f) : PID X E tg a (fIt f fK) := by
  obtain ⟨t, p, d⟩ := ha
  refine ⟨_, xl p, ?_⟩
  intro σ H δ Ω R Q h
  refine d.use R h fun a x δ1 H1 Ω1 _ s1 R1 r1 h1 => ?_
  cases a with
  | val d =>
    cases d with
    | str z => exact ⟨z, r1, h1 H1 Ω1 .refl R1 _ fun Ω2 q => Cw z⟩
    | _ => exact h1.elim
  | slot i => exact h1.elim
  | fld _ _ => exact h1.elim
  | own ds => exact h1.elim
noncomputable def pM (K : PySem.W.Frag) (mg : Str → Option Value) (x : Str) (kvs : List (Str × Int)) : Prop := ∃ a, mg x = some (.ref a) ∧ kK K a kvs
theorem yU {K : PySem.W.Frag} {mg : Str → Option Value} {x : Str} {a : Addr} {kvs : List (Str × Int)} (h : mg x = some (.ref a)) (T : kK K a kvs) : pM K mg x kvs := ⟨a, h, T⟩
noncomputable def gY (kvs : List (Str × Int)) : D → Option DV
  | .str k => (tabAt k kvs).map fun n => .val (.int n)
  | _ => none
theorem tq {x : Str} {kvs : List (Str × Int)} {p : Pos} (hm : pM X.K X.mg x kvs) (ha : PED X E a f) (hg : Gl X x := by rfl) (hd : (x == ("__debug__" : Str)) = false := by decide) (hs : oV a := by intro _ _; rfl) :
    PED X E (.Subscript (.Name x p) a pos) (fUn f (gY kvs)) := by
  obtain ⟨ad, h1, T⟩ := hm
  obtain ⟨t, q, d⟩ := ha
  refine ⟨_, rd xQ (hV (v := .ref ad) hg h1 rfl hd) q hs, ?_⟩
  intro σ H δ Ω R Q w
  refine d.use R w fun a1 y δ1 H1 Ω1 _ s1 R1 r1 w1 => ?_
  cases q1 : res δ1 a1 with
  | none => rw [q1] at w1; exact w1.elim
  | some d1 =>
    rw [q1] at w1
    cases d1 with
    | str k =>
      unfold gY at w1
      (try dsimp only at w1)
      cases q2 : tabAt k kvs with
      | none => rw [q2] at w1; exact w1.elim
      | some n => rw [q2] at w1; exact ⟨k, ad, kvs, n, rfl, r1.res R1 q1, T, q2, Wg.now (d := .val (.int n)) w1 R1 rfl⟩
    | _ => exact w1.elim
theorem lh {i j k : Nat} {x y : Str} {p p1 p2 : Pos} (hN : X.N.Nodup) (hc : X.calm = true := by rfl) (hi : X.N[i]? = some x := by rfl) (hj : X.N[j]? = some y := by rfl)
    (hx : Loc X.env.scope x := by first | exact Or.inl rfl | exact Or.inr rfl) (hy : Loc X.env.scope y := by first | exact Or.inl rfl | exact Or.inr rfl) (hm : ∀ q ∈ [i, j], q ∉ mp := by decide)
    (hfx : X.fn x = true ∨ X.env.scope.names.lookup x = some .local := by first | exact .inl rfl | exact .inr rfl) (hfy : X.fn y = true ∨ X.env.scope.names.lookup y = some .local := by first | exact .inl rfl | exact .inr rfl) :
    PGD X mp (.Tuple [.Name x p1, .Name y p2] k p) (b9 [i, j]) :=
  ⟨_, rG (n := 2) hc (kS (jZ hN hi hx hfx) (kS (jZ hN hj hy hfy) tj)), su (is := [i, j]) (n := 2) hm rfl⟩
theorem mK {i j l k : Nat} {x y z : Str} {p p1 p2 p3 : Pos} (hN : X.N.Nodup) (hc : X.calm = true := by rfl) (hi : X.N[i]? = some x := by rfl) (hj : X.N[j]? = some y := by rfl) (hl : X.N[l]? = some z := by rfl)
    (hx : Loc X.env.scope x := by first | exact Or.inl rfl | exact Or.inr rfl) (hy : Loc X.env.scope y := by first | exact Or.inl rfl | exact Or.inr rfl) (hz : Loc X.env.scope z := by first | exact Or.inl rfl | exact Or.inr rfl) (hm : ∀ q ∈ [i, j, l], q ∉ mp := by decide)
    (hfx : X.fn x = true ∨ X.env.scope.names.lookup x = some .local := by first | exact .inl rfl | exact .inr rfl) (hfy : X.fn y = true ∨ X.env.scope.names.lookup y = some .local := by first | exact .inl rfl | exact .inr rfl)
    (hfz : X.fn z = true ∨ X.env.scope.names.lookup z = some .local := by first | exact .inl rfl | exact .inr rfl) :
    PGD X mp (.Tuple [.Name x p1, .Name y p2, .Name z p3] k p) (b9 [i, j, l]) :=
  ⟨_, rG (n := 3) hc (kS (jZ hN hi hx hfx) (kS (jZ hN hj hy hfy) (kS (jZ hN hl hz hfz) tj))), su (is := [i, j, l]) (n := 3) hm rfl⟩
section
variable {tg iter elt : Expr} {ifs : List Expr} {sc : Scope} {fi : DM (List D)} {t : D → DSt → Option DSt} {fc : DM Bool} {fe : DM DV} {N : List Str} {sel : List (Option Nat)}
theorem ur {i : Nat} {x : Str} {pos' spos : Pos} (B : Blk X N sel sc) (hc : X.calm = true) (hN : X.N.Nodup) (hx : X.N[i]? = some x) (hl : X.env.scope.names.lookup x = some .local) (hi : PID X E tg iter fi)
    (hg : ∀ b, PGD (blk X N sc b) [] tg t) (ht : ∀ b, kW (blk X N sc b) ifs fc) (he : ∀ b, PED (blk X N sc b) EN elt fe)
    (hsw : swapsWith (.ListComp elt [⟨tg, iter, ifs, 0⟩] sc pos) (some (.Name x pos')) spos.line X.env = pure true)
    (hs : ∀ x, foldedSetIterable iter X.env x = pure x) : ∃ te, DE X.K E te (fLC fi t fc fe sel) ∧ PS X (.Assign [.Name x pos'] (.ListComp elt [⟨tg, iter, ifs, 0⟩] sc pos) spos) (kO te (iq i)) := by
  obtain ⟨wi, p, d⟩ := hi
  exact ⟨_, uF d (fun σ H δ Ω dd x δ' R r e Q h b => (hg b).choose_spec.2 σ H δ Ω dd x δ' R r e Q h) (fun σ H δ Ω R Q h b => (ht b).choose_spec.2 σ H δ Ω R Q h) (fun σ H δ Ω R Q h b => (he b).choose_spec.2 σ H δ Ω R Q h),
    Bq (g := fun v σ H Q => ∀ b, (hg b).choose v σ H Q) (ts := fun σ H Q => ∀ b, (ht b).choose σ H Q) (te := fun σ H Q => ∀ b, (he b).choose σ H Q) B hc hN hx hl p
    (fun b pins s σ H v u Q I r h => (hg b).choose_spec.1 pins s σ H v u Q I r (h b)) (fun b pins s σ H Q I h => (ht b).choose_spec.1 pins s σ H Q I (h b)) (fun b pins s σ H Q I h => (he b).choose_spec.1 pins s σ H Q I (h b)) hsw hs⟩
theorem qb (i : Nat) {x : Str} {pos' spos : Pos} (hN : X.N.Nodup) (B : Blk X N sel sc) (hc : X.calm = true) (hi : PID X E tg iter fi)
    (hg : ∀ b, PGD (blk X N sc b) [] tg t) (ht : ∀ b, kW (blk X N sc b) ifs fc) (he : ∀ b, PED (blk X N sc b) EN elt fe)
    (hx : X.N[i]? = some x := by rfl) (hl : X.env.scope.names.lookup x = some .local := by rfl) (hm : i ∉ mp := by decide)
    (hsw : swapsWith (.ListComp elt [⟨tg, iter, ifs, 0⟩] sc pos) (some (.Name x pos')) spos.line X.env = pure true := by rfl)
    (hs : ∀ x, foldedSetIterable iter X.env x = pure x := by intro _; rfl) : PSD X E mp (.Assign [.Name x pos'] (.ListComp elt [⟨tg, iter, ifs, 0⟩] sc pos) spos) (aF i (fLC fi t fc fe sel)) := by
  obtain ⟨te, d, p⟩ := ur (i := i) B hc hN hx hl hi hg ht he hsw hs
  exact ⟨_, p, rT hm d⟩
theorem rj (i : Nat) {x : Str} {pos' spos : Pos} (hN : X.N.Nodup) (B : Blk X N sel sc) (hc : X.calm = true) (hi : PID X E tg iter fi)
    (hg : ∀ b, PGD (blk X N sc b) [] tg t) (ht : ∀ b, kW (blk X N sc b) ifs fc) (he : ∀ b, PED (blk X N sc b) EN elt fe)
    (hx : X.N[i]? = some x := by rfl) (hl : X.env.scope.names.lookup x = some .local := by rfl) (hm : i ∉ mp := by decide)
    (hsw : swapsWith (.ListComp elt [⟨tg, iter, ifs, 0⟩] sc pos) (some (.Name x pos')) spos.line X.env = pure true := by rfl)
    (hs : ∀ x, foldedSetIterable iter X.env x = pure x := by intro _; rfl) : PSD X E mp (.Assign [.Name x pos'] (.ListComp elt [⟨tg, iter, ifs, 0⟩] sc pos) spos) (bV i (fLC fi t fc fe sel)) := by
  obtain ⟨te, d, p⟩ := ur (i := i) B hc hN hx hl hi hg ht he hsw hs
  exact ⟨_, p, ux hm d⟩
end
noncomputable def eQ (i : Nat) : DM Fl := fun δ => match δ[i]? with
  | some (.ow ds) => .ok .nx (δ.set i (.ow ds.reverse))
  | _ => .un
theorem mI (i : Nat) {x : Str} {p apos cpos : Pos} (hN : X.N[i]? = some x := by rfl) (hv : Vis X.env.scope x := by first | exact Or.inl rfl | exact Or.inr (Or.inl rfl) | exact Or.inr (Or.inr rfl))
    (hd : (x == ("__debug__" : Str)) = false := by decide) (hcd : (x == ("__classdict__" : Str)) = false := by decide)
    (hbase : attributeBase (.Name x p) "reverse" X.env (eval (.Name x p) X.env) = eval (.Name x p) X.env := by rfl)
    (hline : (apos.endLine == cpos.line) = true := by rfl)
    (hsw : swapsWith (.Call (.Attribute (.Name x p) "reverse" apos) [] [] cpos) none pos.line X.env = pure false := by rfl) :
    PSD X E mp (.Expr (.Call (.Attribute (.Name x p) "reverse" apos) [] [] cpos) pos) (eQ i) := by
  refine ⟨_, me (zt PySem.F.plainAttrs_list PySem.F.slot_list_reverse PySem.F.type_list_reverse ya (pv i hN hv hd hcd) hbase hline) hsw, ?_⟩
  intro σ H δ Ω R B h
  unfold eQ at h
  split at h
  · rename_i ds hds
    obtain ⟨a, vs, e1, e2, e3, e4⟩ := R.sl i _ hds
    refine ⟨.ref a, join_some e1, .inl ⟨rfl, vs, SqL.of e2⟩, a, vs, rfl, rfl, e2, ?_⟩
    exact h _ Ω (.putOw (k := i + 1) ⟨_, e2, rfl⟩ e3) σ (R.putOw (join_some e1) ⟨_, e2, rfl⟩ e3 e4.reverse) fun _ _ => rfl
  · exact h.elim
noncomputable def rL (i : Nat) (f : DM DV) : DM Fl := (fN f).bd fun a δ => match res δ a, δ[i]? with
  | some (.lst es), some (.ow ds) => if ds.length + es.length ≤ sizeLine then .ok .nx (δ.set i (.ow (ds ++ es))) else .un
  | _, _ => .un
noncomputable def bS (i : Nat) (f : DM DV) : DM Fl := fun δ => if iA i δ then rL i f δ else .un
theorem gu (i : Nat) {x : Str} {p apos cpos : Pos} (he : PED X E e f) (hN : X.N[i]? = some x := by rfl) (hv : Vis X.env.scope x := by first | exact Or.inl rfl | exact Or.inr (Or.inl rfl) | exact Or.inr (Or.inr rfl))
    (hd : (x == ("__debug__" : Str)) = false := by decide) (hcd : (x == ("__classdict__" : Str)) = false := by decide)
    (hbase : attributeBase (.Name x p) "extend" X.env (eval (.Name x p) X.env) = eval (.Name x p) X.env := by rfl)
    (hfew : ((backTo cpos (starEach [e] X.env)).all (fun x => !x.1) && (backToKw cpos (keywordEach [] X.env)).all (fun x => x.1.isSome)
      && decide (([e] : List Expr).length + ([] : List Keyword).length + (if ([] : List Keyword).isEmpty then 0 else 1) < 30)) = true := by rfl)
    (hline : (apos.endLine == cpos.line) = true := by rfl) (hs : starEach [e] X.env = (false, eval e X.env) :: starEach [] X.env := by rfl)
    (hsw : swapsWith (.Call (.Attribute (.Name x p) "extend" apos) [e] [] cpos) none pos.line X.env = pure false := by rfl) :
    PSD X E mp (.Expr (.Call (.Attribute (.Name x p) "extend" apos) [e] [] cpos) pos) (bS i f) := by
  obtain ⟨t, q, d⟩ := he
  refine ⟨_, me (pk PySem.F.plainAttrs_list PySem.F.slot_list_extend PySem.F.type_list_extend vW (pv i hN hv hd hcd) (fA q ic hs) hbase hfew hline hs rfl) hsw, ?_⟩
  intro σ H δ Ω R B h
  unfold bS at h
  split at h
  · rename_i ho
    unfold iA at ho
    split at ho
    · rename_i ds hds
      obtain ⟨a, vs, e1, e2, e3, e4⟩ := R.sl i _ hds
      refine ⟨.ref a, join_some e1, .inl ⟨rfl, vs, SqL.of e2⟩, d.use R h fun a1 y δ1 H1 Ω1 ex s1 R1 r1 h1 => ?_⟩
      (try dsimp only at h1)
      split at h1
      · rename_i es ds1 hres hds1
        split at h1
        · rename_i hz
          obtain ⟨a', ws, q1, q2, q3, q4⟩ := R1.sl i _ hds1
          have ea : a' = a := by
            have z := (join_some q1).symm.trans (join_some e1)
            injection z with z
            injection z with z
            injection z
          subst ea
          obtain ⟨b, zs, u1, u2, u3⟩ := cG (r1.res R1 hres)
          subst u1
          refine ⟨a', b, ws, zs, rfl, rfl, q2, u2, by rw [← q4.length, ← u3.length]; exact hz, ?_⟩
          exact h1 _ Ω1 (.putOw (k := i + 1) ⟨_, q2, rfl⟩ q3) σ (R1.putOw (join_some q1) ⟨_, q2, rfl⟩ q3 (q4.append u3)) fun _ _ => rfl
        · exact h1.elim
      · exact h1.elim
    · cases ho
  · exact h.elim
noncomputable def cW (lo : Int) : List D → List D
  | [] => []
  | d :: ds => .tup [.int lo, d] :: cW (lo + 1) ds
theorem kZ : ∀ (ds : List D) (lo : Int), (cW lo ds).length = ds.length
  | [], _ => rfl
  | _ :: ds, lo => by show (cW (lo + 1) ds).length + 1 = ds.length + 1; rw [kZ ds]
theorem oY : ∀ (ds : List D) (lo : Int) (i : Nat), (cW lo ds)[i]? = (ds[i]?).map fun d => D.tup [.int (lo + i), d]
  | [], _, _ => rfl
  | d :: ds, lo, 0 => by
    show some (D.tup [.int lo, d]) = some (D.tup [.int (lo + 0), d])
    rw [Int.add_zero]
  | d :: ds, lo, i + 1 => by
    show (cW (lo + 1) ds)[i]? = (ds[i]?).map _
    rw [oY ds (lo + 1) i]
    have : lo + 1 + (i : Int) = lo + ((i + 1 : Nat) : Int) := by omega
    rw [this]
noncomputable def ot : D → Option (List D)
  | .lst ds => some (cW 1 ds)
  | _ => none
noncomputable def mE (f : DM DV) : DM (List D) := fIt f ot
theorem xO {K : PySem.W.Frag} {H : Hp} {Ω : Om} {a : Addr} {vs : List V} {ds : List D} (h : ShL H Ω a vs) (r : aB K H Ω ds vs) (ht : ∀ H' Ω', Ext H Ω H' Ω' → True) : Yl K (Itn K a) H Ω (cW 1 ds) where
  go := fun i H' Ω' e hi => by
    rw [kZ] at hi
    obtain ⟨v, q, _⟩ := r.get (List.getElem?_eq_getElem hi)
    exact ⟨vs, v, (.inl (h.ext e).1), q⟩
  yld := fun i d H' Ω' x H'' e hd hy => by
    obtain ⟨p, y, hp, rfl, rfl, hy⟩ := hy
    rw [oY] at hd
    obtain ⟨d', hd', rfl⟩ := Option.map_eq_some_iff.mp hd
    obtain ⟨v, q, rv⟩ := (r.ext e).get hd'
    have := hy vs (.inl (h.ext e).1)
    rw [q] at this
    obtain rfl := Option.some.inj this
    have ex : Ext H' Ω' (upd H' p (.tup [.int (1 + (i : Int)), v])) Ω' := ⟨fun b o' q' _ => by rw [bf (cn q' hp)]; exact q', fun _ q' _ => q', fun _ => Iff.rfl, fun b q' => by
      unfold upd at q'
      split at q'
      · cases q'
      · exact q'⟩
    exact ⟨(show ∃ a vs, _ from ⟨p, _, rfl, SqT.of cK, .cons rfl (.cons (Rep.ext ex rv) .nil)⟩), .inr ⟨p, _, hp, rfl⟩⟩
  stop := fun H' Ω' e => ⟨vs, (.inl (h.ext e).1), by rw [kZ, r.length]; exact Nat.le_refl _⟩
theorem Ay {elts : List Expr} {kk : Nat} {tpos kpos p : Pos} {j : _} {ip : Pos} (hm : X.mg "enumerate" = none) (ha : PED X E a f) (hg : Gl X "enumerate" := by rfl) (hs : starEach [a] X.env = [(false, eval a X.env)] := by rfl) :
    PID X E (.Tuple elts kk tpos) (.Call (.Name "enumerate" p) [a] [⟨some "start", .Constant (.int 1) j ip, kpos⟩] pos) (mE f) := by
  obtain ⟨t, q, d⟩ := ha
  refine ⟨_, wH q hg hm hs, ?_⟩
  intro σ H δ Ω R Q h
  refine d.use R h fun a x δ1 H1 Ω1 _ s1 R1 r1 h1 => ?_
  cases a with
  | val d =>
    cases d with
    | lst ds =>
      obtain ⟨b, vs, e1, e2, e3⟩ := (show ∃ a vs, _ from r1)
      exact ⟨b, vs, e1, e2.1, h1 H1 Ω1 .refl R1 _ fun Ω2 z => xO (e2.less z) (e3.less z) fun _ _ _ => trivial⟩
    | _ => exact h1.elim
  | slot i => exact h1.elim
  | fld _ _ => exact h1.elim
  | own ds => exact h1.elim
theorem wX {δ δ1 : DSt} {aa : DV} {ds : List D} (h : f δ = .ok aa δ1) (e : norm aa = .val (.lst ds)) : mE f δ = .ok (cW 1 ds) δ1 := by unfold mE fIt fN DM.bd DM.ret; simp only [h, e]; rfl
theorem fh {i : Nat} {δ δ1 : DSt} {aa : DV} {es ds ds0 : List D} (ho : δ[i]? = some (.ow ds0)) (h : f δ = .ok aa δ1) (e : res δ1 (norm aa) = some (.lst es)) (e2 : δ1[i]? = some (.ow ds)) (hl : ds.length + es.length ≤ sizeLine) : bS i f δ = .ok .nx (δ1.set i (.ow (ds ++ es))) := by
  unfold bS
  have : iA i δ = true := by unfold iA; rw [ho]
  simp only [this, if_true]
  unfold rL fN DM.bd DM.ret
  simp only [h, e, e2, hl, if_true]
theorem vv {i : Nat} {δ : DSt} {ds : List D} (h : δ[i]? = some (.ow ds)) : eQ i δ = .ok .nx (δ.set i (.ow ds.reverse)) := by unfold eQ; rw [h]
end
end DL
namespace DL
open PySem PySem.Spec PyProof.Rows L2
inductive Rn where
  | un | ok (d : D) (mss : List (List D)) | own (ds : List D) (mss : List (List D))
noncomputable def ek : DSt → List Nat → List (List D) → DSt
  | δ, i :: is, ms :: mss => ek (δ.set i (.ow ms)) is mss
  | δ, _, _ => δ
noncomputable def cL (δ : DSt) : List Nat → Option (List (List D))
  | [] => some []
  | i :: is => match δ[i]?, cL δ is with
    | some (.ow ms), some r => some (ms :: r)
    | _, _ => none
theorem pK : ∀ (is : List Nat) (δ : DSt) (mss : List (List D)), (ek δ is mss).length = δ.length
  | [], _, _ => rfl
  | _ :: _, _, [] => rfl
  | i :: is, δ, ms :: mss => by
    show (ek (δ.set i (.ow ms)) is mss).length = _
    rw [pK is, List.length_set]
theorem o5 : ∀ (is : List Nat) (δ : DSt) (mss : List (List D)) {j : Nat} {s : Sl}, mss.length = is.length → (ek δ is mss)[j]? = some s →
    (∃ (k : Nat) (ms : List D), is[k]? = some j ∧ mss[k]? = some ms ∧ s = .ow ms) ∨ (j ∉ is ∧ δ[j]? = some s)
  | [], δ, mss, j, s, hl, h => by
    right
    cases mss with
    | nil => exact ⟨by simp, h⟩
    | cons _ _ => simp at hl
  | i :: is, δ, mss, j, s, hl, h => by
    cases mss with
    | nil => simp at hl
    | cons ms mss =>
      have h : (ek (δ.set i (.ow ms)) is mss)[j]? = some s := h
      rcases o5 is (δ.set i (.ow ms)) mss (by simpa using hl) h with ⟨k, m, e1, e2, e3⟩ | ⟨e1, e2⟩
      · exact .inl ⟨k + 1, m, by simpa using e1, by simpa using e2, e3⟩
      · by_cases hj : j = i
        · subst hj
          left
          have hlt : j < δ.length := by
            have := (List.getElem?_eq_some_iff.mp e2).1
            rwa [List.length_set] at this
          rw [List.getElem?_set_self hlt] at e2
          cases e2
          exact ⟨0, ms, rfl, rfl, rfl⟩
        · rw [List.getElem?_set_ne (Ne.symm hj)] at e2
          exact .inr ⟨fun z => (List.mem_cons.mp z).elim hj e1, e2⟩
section
variable {K : PySem.W.Frag} {E : Str → Hp → Prop} {H H' : Hp} {Ω Ω' : Om} {σ : St} {δ : DSt} {pr : Nat → Addr} {jf : Nat → Nat}
noncomputable def cJ (K : PySem.W.Frag) (H : Hp) (Ω : Om) (pr : Nat → Addr) : List Nat → List (List D) → Prop
  | [], mss => mss = []
  | i :: is, mss => ∃ ms r, mss = ms :: r ∧ (∃ xs, H (pr i) = some (.lst xs) ∧ Ω (pr i) = some (i + 2) ∧ aB K H Ω ms xs) ∧ cJ K H Ω pr is r
theorem cJ.len : ∀ {is : List Nat} {mss : List (List D)}, cJ K H Ω pr is mss → mss.length = is.length
  | [], _, h => by rw [(show _ = [] from h)]; rfl
  | i :: is, _, h => by
    obtain ⟨ms, r, rfl, _, h2⟩ := h
    rw [List.length_cons, List.length_cons, cJ.len h2]
theorem cJ.at : ∀ {is : List Nat} {mss : List (List D)} {k i : Nat} {ms : List D}, cJ K H Ω pr is mss → is[k]? = some i → mss[k]? = some ms → ∃ xs, H (pr i) = some (.lst xs) ∧ Ω (pr i) = some (i + 2) ∧ aB K H Ω ms xs
  | [], _, _, _, _, _, e, _ => by simp at e
  | a :: is, _, 0, i, ms, h, e, e2 => by
    obtain ⟨m, r, rfl, h1, h2⟩ := h
    have : a = i := by simpa using e
    subst this
    have : m = ms := by simpa using e2
    subst this
    exact h1
  | a :: is, _, k + 1, i, ms, h, e, e2 => by
    obtain ⟨m, r, rfl, h1, h2⟩ := h
    exact cJ.at (k := k) h2 (by simpa using e) (by simpa using e2)
theorem cJ.mem {is : List Nat} {mss : List (List D)} {i : Nat} (h : cJ K H Ω pr is mss) (hi : i ∈ is) : ∃ xs, H (pr i) = some (.lst xs) ∧ Ω (pr i) = some (i + 2) := by
  obtain ⟨k, hk, e⟩ := List.mem_iff_getElem.mp hi
  have hm : k < mss.length := by rw [h.len]; exact hk
  obtain ⟨xs, h1, h2, _⟩ := h.at (k := k) (i := i) (ms := mss[k]) (by rw [List.getElem?_eq_getElem hk, e]) (List.getElem?_eq_getElem hm)
  exact ⟨xs, h1, h2⟩
noncomputable def RnQ (K : PySem.W.Frag) (H : Hp) (Ω : Om) (pr : Nat → Addr) (is : List Nat) (Q : VK) : Rn → Prop
  | .un => False
  | .ok d mss => ∀ H' Ω', Ext H Ω H' Ω' → Trk H' Ω' → cJ K H' Ω' pr is mss → ∀ v, Rep K H' Ω' d v → Q v H'
  | .own ds mss => ∀ H' Ω', Ext H Ω H' Ω' → Trk H' Ω' → cJ K H' Ω' pr is mss → ∀ v, dg K H' Ω' [] (.own ds) v → Q v H'
noncomputable def qr (K : PySem.W.Frag) (H : Hp) (Ω : Om) (is : List Nat) (ds : List D) (vs : List V) : Prop := ds.length = vs.length ∧ ∀ j d, j ∉ is → ds[j]? = some d → ∃ v, vs[j]? = some v ∧ Rep K H Ω d v
noncomputable def spN (K : PySem.W.Frag) (n : Nat) (is : List Nat) (M : List D → List (List D) → Rn) : Sp := fun vs H Q _ => vs.length = n ∧ ∃ Ω ds pr mss, Trk H Ω ∧ (∀ i ∈ is, vs[i]? = some (.ref (pr i))) ∧ cJ K H Ω pr is mss ∧ (∀ b k, Ω b = some k → k = 0 ∨ ∃ i ∈ is, b = pr i) ∧ qr K H Ω is ds vs ∧ RnQ K H Ω pr is Q (M ds mss)
noncomputable def fL (n : Nat) (is : List Nat) (ds : List D) (mss : List (List D)) : DSt := ek (ds.map .sh ++ List.replicate (n - ds.length) .no) is mss
noncomputable def runN (body : DM Fl) (n : Nat) (is : List Nat) (ds : List D) (mss : List (List D)) : Rn := match body (fL n is ds mss) with
  | .ok (.rt d) δ' => (match cL δ' is with | some mss' => .ok d mss' | _ => .un)
  | .ok (.rto es) δ' => (match cL δ' is with | some mss' => .own es mss' | _ => .un)
  | .ok .nx δ' => (match cL δ' is with | some mss' => .ok .non mss' | _ => .un)
  | _ => .un
theorem aE.fL {N : List Str} {is : List Nat} {ds : List D} {mss : List (List D)} {vs : List V} (hr : qr K H Ω is ds vs) (ht : Trk H Ω) (hv : ∀ i ∈ is, vs[i]? = some (.ref (pr i))) (hm : cJ K H Ω pr is mss) :
    aE K H Ω (L2.start N vs) (DL.fL N.length is ds mss) := by
  obtain ⟨hl, hr⟩ := hr
  have hget : ∀ j, j < vs.length → (L2.start N vs)[j]? = (vs[j]?).map some := fun j hj => by
    unfold L2.start
    rw [List.getElem?_append_left (by rw [List.length_map]; exact hj), List.getElem?_map]
  refine ⟨by unfold L2.start DL.fL; rw [pK, List.length_append, List.length_append, List.length_map, List.length_map, List.length_replicate, List.length_replicate, hl], fun j s h => ?_, ht⟩
  unfold DL.fL at h
  rcases o5 is _ mss hm.len h with ⟨k, ms, e1, e2, rfl⟩ | ⟨e1, h⟩
  · have hj : j ∈ is := List.mem_of_getElem? e1
    have hv' := hv j hj
    obtain ⟨xs, h1, h2, h3⟩ := hm.at e1 e2
    have hjv : j < vs.length := (List.getElem?_eq_some_iff.mp hv').1
    exact ⟨pr j, xs, by rw [hget j hjv, hv']; rfl, h1, h2, h3⟩
  · by_cases hj : j < ds.length
    · rw [List.getElem?_append_left (by rw [List.length_map]; exact hj), List.getElem?_map] at h
      obtain ⟨d, hd⟩ : ∃ d, ds[j]? = some d := ⟨ds[j], List.getElem?_eq_getElem hj⟩
      rw [hd] at h
      cases h
      obtain ⟨v, hv', r⟩ := hr j d e1 hd
      exact ⟨v, by rw [hget j (by omega), hv']; rfl, r⟩
    · rw [List.getElem?_append_right (by rw [List.length_map]; omega), List.getElem?_replicate] at h
      split at h
      · cases h; trivial
      · cases h
theorem aE.lists {is : List Nat} {mss : List (List D)} (R : aE K H Ω σ δ) (hσ : ∀ i ∈ is, σ[i]? = some (some (.ref (pr i)))) (h : cL δ is = some mss) : cJ K H Ω pr is mss := by
  induction is generalizing mss with
  | nil => cases h; rfl
  | cons i is ih =>
    unfold cL at h
    split at h
    · rename_i ms r e1 e2
      cases h
      obtain ⟨b, ys, q1, q2, q3, q4⟩ := R.sl i _ e1
      rw [hσ i List.mem_cons_self] at q1
      cases q1
      exact ⟨ms, r, rfl, ⟨ys, q2, q3, q4⟩, ih (fun j hj => hσ j (List.mem_cons_of_mem _ hj)) e2⟩
    · cases h
end
section
variable {P : Program} {w : World} {K : PySem.W.Frag} {mg : Str → Option Value} {base : Heap}
theorem fnN (is : List Nat) {x qual : Str} {st : Stmt} {f : Addr} {fd : FuncData} {N ps : List Str} {k : Nat} {body : DM Fl} (F : Fun K x qual st f fd) (S : bu N ps (aM st))
    (hb : ∀ (cdv : Value) (A : Around) (outer : List Env) (s : Shared) (H : Hp) (E : XK), bN k (A.deeper (envOfC qual (aM st) s.heap.objs.size f cdv)) →
      dW (bU CX0 P w K mg base N qual (aM st) f cdv A outer s H E).nox EN is (bt st) body) : aW P w K mg base CX0 (k + 1) f fd ps (spN K ps.length is (runN body N.length is)) := by
  refine F.ok S (fun vs H Q E h => h.1) (fun cdv A outer s H vs Q E hr h => ?_)
  obtain ⟨ts, p, d⟩ := hb cdv A outer s H E hr
  refine ⟨ts, p, ?_⟩
  obtain ⟨hl, Ω, ds, pr, mss, ht, hv, hm, h0, hr, hq⟩ := h
  have hs : ∀ i ∈ is, (L2.start N vs)[i]? = some (some (.ref (pr i))) := fun i hi => by
    have := hv i hi
    have hlt := (List.getElem?_eq_some_iff.mp this).1
    unfold L2.start
    rw [List.getElem?_append_left (by rw [List.length_map]; exact hlt), List.getElem?_map, this]; rfl
  refine d (L2.start N vs) H _ Ω (aE.fL hr ht hv hm) _ ?_
  unfold runN at hq
  have fin : ∀ {H' : Hp} {Ω' : Om} {σ' : St} {δ' : DSt} {mss' : List (List D)}, aE K H' Ω' σ' δ' → (∀ j ∈ is, σ'[j]? = (L2.start N vs)[j]?) → cL δ' is = some mss' → cJ K H' Ω' pr is mss' :=
    fun R' m' e' => R'.lists (fun i hi => by rw [m' i hi]; exact hs i hi) e'
  cases e : body (DL.fL N.length is ds mss) with
  | un => rw [e] at hq; exact hq
  | er c => rw [e] at hq; exact hq.elim
  | ok fl δ' =>
    rw [e] at hq
    cases fl with
    | nx =>
      dsimp only at hq
      cases q : cL δ' is with
      | none => rw [q] at hq; exact hq.elim
      | some mss' =>
        rw [q] at hq
        exact fun H' Ω' ex σ' R' m' => hq H' Ω' ex R'.trk (fin R' m' q) .non rfl
    | bk => exact hq.elim
    | ct => exact hq.elim
    | rt d =>
      dsimp only at hq
      cases q : cL δ' is with
      | none => rw [q] at hq; exact hq.elim
      | some mss' =>
        rw [q] at hq
        exact fun H' Ω' ex σ' R' m' v rv => hq H' Ω' ex R'.trk (fin R' m' q) v rv
    | rto es =>
      dsimp only at hq
      cases q : cL δ' is with
      | none => rw [q] at hq; exact hq.elim
      | some mss' =>
        rw [q] at hq
        exact fun H' Ω' ex σ' R' m' v rv => hq H' Ω' ex R'.trk (fin R' m' q) v rv
end
noncomputable def slotsOf (as : List DV) : List Nat → Option (List Nat)
  | [] => some []
  | i :: is => match as[i]?, slotsOf as is with
    | some (.slot j), some r => some (j :: r)
    | _, _ => none
noncomputable def eS (is : List Nat) : Nat → List DV → Option (List D)
  | _, [] => some []
  | k, .val d :: r => (eS is (k + 1) r).map fun ds => d :: ds
  | k, _ :: r => if k ∈ is then (eS is (k + 1) r).map fun ds => .non :: ds else none
noncomputable def mC : Rn → DSt → List Nat → Rs DV
  | .un, _, _ => .un
  | .ok d mss, δ, js => .ok (.val d) (ek δ js mss)
  | .own es mss, δ, js => .ok (.own es) (ek δ js mss)
noncomputable def gD (n : Nat) (is : List Nat) (fa : DM (List DV)) (M : List D → List (List D) → Rn) : DM DV := fa.bd fun as δ => match slotsOf as is with
  | some js => if js.Nodup then (match cL δ js, eS is 0 as with
    | some mss, some ds => if ds.length = n then mC (M ds mss) δ js else .un
    | _, _ => .un) else .un
  | none => .un
theorem oS {as : List DV} : ∀ {is js : List Nat}, slotsOf as is = some js → ∀ k i : Nat, is[k]? = some i → ∃ j : Nat, js[k]? = some j ∧ as[i]? = some (DV.slot j)
  | [], _, _, _, _, e => by simp at e
  | a :: is, js, h, k, i, e => by
    unfold slotsOf at h
    split at h
    · rename_i j r e1 e2
      cases h
      cases k with
      | zero =>
        have : a = i := by simpa using e
        subst this
        exact ⟨j, rfl, e1⟩
      | succ k =>
        obtain ⟨j', z1, z2⟩ := oS e2 k i (by simpa using e)
        exact ⟨j', by simpa using z1, z2⟩
    · cases h
theorem uN {as : List DV} : ∀ {is js : List Nat}, slotsOf as is = some js → js.length = is.length
  | [], _, h => by cases h; rfl
  | a :: is, js, h => by
    unfold slotsOf at h
    split at h
    · rename_i j r e1 e2
      cases h
      rw [List.length_cons, List.length_cons, uN e2]
    · cases h
theorem uq {δ : DSt} : ∀ {js : List Nat} {mss : List (List D)}, cL δ js = some mss → ∀ k j : Nat, js[k]? = some j → ∃ ms : List D, mss[k]? = some ms ∧ δ[j]? = some (Sl.ow ms)
  | [], _, _, _, _, e => by simp at e
  | a :: js, mss, h, k, j, e => by
    unfold cL at h
    split at h
    · rename_i ms r e1 e2
      cases h
      cases k with
      | zero =>
        have : a = j := by simpa using e
        subst this
        exact ⟨ms, rfl, e1⟩
      | succ k =>
        obtain ⟨m, z1, z2⟩ := uq e2 k j (by simpa using e)
        exact ⟨m, by simpa using z1, z2⟩
    · cases h
section
variable {K : PySem.W.Frag} {E : Str → Hp → Prop} {H H' : Hp} {Ω Ω' : Om} {σ : St} {δ : DSt} {pr : Nat → Addr} {jf : Nat → Nat} {is : List Nat}
theorem cY.get : ∀ {as : List DV} {vs : List V} {i : Nat} {a : DV}, cY K H Ω σ as vs → as[i]? = some a → ∃ v, vs[i]? = some v ∧ dg K H Ω σ a v
  | [], _, _, _, _, e => by simp at e
  | b :: r, _, 0, a, h, e => by
    obtain ⟨v, q, e1, e2, e3⟩ := h
    subst e1
    have : b = a := by simpa using e
    subst this
    exact ⟨v, rfl, e2⟩
  | _ :: r, _, i + 1, a, h, e => by
    obtain ⟨v, q, e1, e2, e3⟩ := h
    subst e1
    obtain ⟨w, q1, q2⟩ := cY.get (i := i) e3 (by simpa using e)
    exact ⟨w, by simpa using q1, q2⟩
theorem qd : ∀ {as : List DV} {vs : List V} {ds : List D} {k : Nat}, cY K H Ω σ as vs → eS is k as = some ds → ds.length = vs.length ∧ ∀ j d, k + j ∉ is → ds[j]? = some d → ∃ v, vs[j]? = some v ∧ Rep K H Ω d v
  | [], _, _, _, h, e => by
    cases e
    cases (show _ = [] from h)
    exact ⟨rfl, fun j d _ q => by simp at q⟩
  | a :: r, _, ds, k, h, e => by
    obtain ⟨v, q, e1, e2, e3⟩ := h
    subst e1
    have key : ∀ (d0 : D) (ds' : List D), eS is (k + 1) r = some ds' → ds = d0 :: ds' → (k ∉ is → Rep K H Ω d0 v) → ds.length = (v :: q).length ∧ ∀ j d, k + j ∉ is → ds[j]? = some d → ∃ v', (v :: q)[j]? = some v' ∧ Rep K H Ω d v' := by
      intro d0 ds' h1 h2 h3
      subst h2
      obtain ⟨l, f⟩ := qd e3 h1
      refine ⟨by rw [List.length_cons, List.length_cons, l], fun j d hj hd => ?_⟩
      cases j with
      | zero =>
        have : d0 = d := by simpa using hd
        subst this
        exact ⟨v, rfl, h3 (by simpa using hj)⟩
      | succ j =>
        obtain ⟨v', q1, q2⟩ := f j d (by rw [show k + 1 + j = k + (j + 1) by omega]; exact hj) (by simpa using hd)
        exact ⟨v', by simpa using q1, q2⟩
    cases a with
    | val d0 =>
      unfold eS at e
      obtain ⟨ds', h1, h2⟩ := Option.map_eq_some_iff.mp e
      exact key d0 ds' h1 h2.symm fun _ => e2
    | fld _ _ =>
      unfold eS at e
      split at e
      · rename_i hk
        obtain ⟨ds', h1, h2⟩ := Option.map_eq_some_iff.mp e
        exact key .non ds' h1 h2.symm fun z => absurd hk z
      · cases e
    | slot j =>
      unfold eS at e
      split at e
      · rename_i hk
        obtain ⟨ds', h1, h2⟩ := Option.map_eq_some_iff.mp e
        exact key .non ds' h1 h2.symm fun z => absurd hk z
      · cases e
    | own es =>
      unfold eS at e
      split at e
      · rename_i hk
        obtain ⟨ds', h1, h2⟩ := Option.map_eq_some_iff.mp e
        exact key .non ds' h1 h2.symm fun z => absurd hk z
      · cases e
noncomputable def fF (Ω : Om) (pr : Nat → Addr) (is : List Nat) : Om := fun b => match is.find? (fun i => decide (pr i = b)) with | some i => some (i + 2) | none => under Ω b
noncomputable def dB (Ω Ω' : Om) (pr : Nat → Addr) (jf : Nat → Nat) (is : List Nat) : Om := fun b => match is.find? (fun i => decide (pr i = b)) with | some i => some (jf i + 2) | none => back Ω Ω' b
noncomputable def Inj (pr : Nat → Addr) (is : List Nat) : Prop := ∀ i ∈ is, ∀ i' ∈ is, pr i = pr i' → i = i'
theorem uJ (hi : Inj pr is) {i : Nat} (h : i ∈ is) : is.find? (fun j => decide (pr j = pr i)) = some i := by
  cases e : is.find? (fun j => decide (pr j = pr i)) with
  | none => exact absurd (decide_eq_true rfl) (List.find?_eq_none.mp e i h)
  | some j =>
    have h1 := List.mem_of_find?_eq_some e
    have h2 : pr j = pr i := by simpa using List.find?_some e
    rw [hi j h1 i h h2]
theorem sY {b : Addr} (h : ∀ i ∈ is, pr i ≠ b) : is.find? (fun i => decide (pr i = b)) = none := List.find?_eq_none.mpr fun i hi z => h i hi (of_decide_eq_true z)
theorem C2 (hi : Inj pr is) {i : Nat} (h : i ∈ is) : fF Ω pr is (pr i) = some (i + 2) := by unfold fF; rw [uJ hi h]
theorem iV {b : Addr} (h : ∀ i ∈ is, pr i ≠ b) : fF Ω pr is b = under Ω b := by unfold fF; rw [sY h]
theorem tw (hi : Inj pr is) {i : Nat} (h : i ∈ is) : dB Ω Ω' pr jf is (pr i) = some (jf i + 2) := by unfold dB; rw [uJ hi h]
theorem j1 {b : Addr} (h : ∀ i ∈ is, pr i ≠ b) : dB Ω Ω' pr jf is b = back Ω Ω' b := by unfold dB; rw [sY h]
theorem sJ (hp : ∀ i ∈ is, Ω (pr i) ≠ none) (b : Addr) (h : Ω b = none) : fF Ω pr is b = none := by
  rw [iV (fun i hi z => hp i hi (by rw [z]; exact h))]; exact fB h
theorem n4 (hp : ∀ i ∈ is, Ω' (pr i) ≠ none) (b : Addr) (h : Ω' b = none) : dB Ω Ω' pr jf is b = none := by
  rw [j1 (fun i hi z => hp i hi (by rw [z]; exact h))]; exact fD b h
theorem kL (b : Addr) : (∃ i ∈ is, pr i = b) ∨ ∀ i ∈ is, pr i ≠ b := by
  by_cases h : ∃ i ∈ is, pr i = b
  · exact .inl h
  · exact .inr fun i hi z => h ⟨i, hi, z⟩
theorem Ext.dB (hi : Inj pr is) (hp : ∀ i ∈ is, Ω (pr i) = some (jf i + 2) ∧ ∃ xs, H (pr i) = some (.lst xs)) (e : Ext H (fF Ω pr is) H' Ω') : Ext H Ω H' (DL.dB Ω Ω' pr jf is) where
  keep := fun b o q h => by
    rcases kL (pr := pr) (is := is) b with ⟨i, him, rfl⟩ | hb
    · obtain ⟨h1, xs, h2⟩ := hp i him
      rw [h2] at q
      cases q
      rcases h with h | h | h
      · cases h
      · rw [h1] at h; cases h
      · rw [h1] at h; cases h
    · refine e.keep b o q (h.imp_right fun z => ?_)
      rw [iV hb]
      exact z.imp fB iw
  new := fun b q h => by
    have hb : ∀ i ∈ is, pr i ≠ b := fun i him z => by have := (hp i him).1; rw [z, q] at this; cases this
    rw [j1 hb]
    exact fD b (e.new b (by rw [iV hb]; exact fB q) h)
  fr := fun b => by
    rcases kL (pr := pr) (is := is) b with ⟨i, him, rfl⟩ | hb
    · rw [(hp i him).1, tw hi him]
    · rw [j1 hb]
      constructor
      · intro h
        have := (e.fr b).mp (by rw [iV hb]; exact iw h)
        rw [nt this]
        exact h
      · intro h
        unfold DL.back at h
        split at h
        · exact h
        · cases h
        · cases h
  live := e.live
theorem aE.dB {mss mss' : List (List D)} (R : aE K H Ω σ δ) (hi : Inj pr is) (hp : ∀ i ∈ is, Ω (pr i) = some (jf i + 2) ∧ ∃ xs, H (pr i) = some (.lst xs)) (hσ : ∀ i ∈ is, σ[jf i]? = some (some (.ref (pr i)))) (e : Ext H (fF Ω pr is) H' Ω') (ht : Trk H' Ω')
    (hm : cJ K H' Ω' pr is mss') : aE K H' (DL.dB Ω Ω' pr jf is) σ (ek δ (is.map jf) mss') := by
  have ex := Ext.dB hi hp e
  have hn : ∀ i ∈ is, Ω' (pr i) ≠ none := fun i him => by obtain ⟨xs, _, h2⟩ := hm.mem him; rw [h2]; exact Option.some_ne_none _
  refine ⟨by rw [pK]; exact R.len, fun j s h => ?_, fun a k q => ?_⟩
  · rcases o5 (is.map jf) δ mss' (by rw [List.length_map]; exact hm.len) h with ⟨k, ms, e1, e2, rfl⟩ | ⟨e1, h⟩
    · rw [List.getElem?_map] at e1
      obtain ⟨i, z1, rfl⟩ := Option.map_eq_some_iff.mp e1
      have him : i ∈ is := List.mem_of_getElem? z1
      obtain ⟨xs, h1, h2, h3⟩ := hm.at z1 e2
      exact ⟨pr i, xs, by rw [hσ i him]; rfl, h1, tw hi him, h3.less (n4 hn)⟩
    · refine (R.sl j s h).mv (fun _ _ => .ext ex) (fun _ _ => .ext ex) fun a ws w3 w2 => ?_
      have ha : ∀ i ∈ is, pr i ≠ a := by
        rintro i him rfl
        rw [(hp i him).1] at w3
        exact e1 (List.mem_map.mpr ⟨i, him, by have := Option.some.inj w3; omega⟩)
      have h0 : fF Ω pr is a = some 0 := by rw [iV ha]; exact iw w3
      refine ⟨e.keep a _ w2 (.inr (.inr h0)), ?_⟩
      rw [j1 ha, nt ((e.fr a).mp h0)]
      exact w3
  · rcases kL (pr := pr) (is := is) a with ⟨i, him, rfl⟩ | ha
    · obtain ⟨xs, h1, _⟩ := hm.mem him; exact ⟨_, h1, rfl⟩
    · rw [j1 ha] at q
      unfold DL.back at q
      split at q
      · rename_i z; exact ht a _ z
      · rename_i z; exact ht a _ z
      · cases q
theorem map_inj {f : Nat → Nat} : ∀ {l : List Nat}, (l.map f).Nodup → ∀ a ∈ l, ∀ b ∈ l, f a = f b → a = b
  | [], _, a, ha, _, _, _ => nomatch ha
  | x :: l, h, a, ha, b, hb, e => by
    rw [List.map_cons, List.nodup_cons] at h
    rcases List.mem_cons.mp ha with z | ha' <;> rcases List.mem_cons.mp hb with z' | hb'
    · rw [z, z']
    · subst z; exact absurd (List.mem_map.mpr ⟨b, hb', e.symm⟩) h.1
    · subst z'; exact absurd (List.mem_map.mpr ⟨a, ha', e⟩) h.1
    · exact map_inj h.2 a ha' b hb' e
noncomputable def jOf (as : List DV) (i : Nat) : Nat := match as[i]? with | some (.slot j) => j | _ => 0
noncomputable def aOf (σ : St) (as : List DV) (i : Nat) : Addr := match σ[jOf as i]? with | some (some (.ref p)) => p | _ => 0
theorem xB {as : List DV} {is js : List Nat} (h : slotsOf as is = some js) : js = is.map (jOf as) := by
  apply List.ext_getElem?
  intro k
  rw [List.getElem?_map]
  cases e : is[k]? with
  | none =>
    rw [List.getElem?_eq_none_iff] at e
    rw [List.getElem?_eq_none (by rw [uN h]; exact e)]; rfl
  | some i =>
    obtain ⟨j, z1, z2⟩ := oS h k i e
    rw [z1]
    show some j = some (jOf as i)
    unfold jOf
    rw [z2]
theorem qh {pr : Nat → Addr} {as : List DV} : ∀ {is : List Nat} {mss : List (List D)}, cL δ (is.map (jOf as)) = some mss → (∀ i ∈ is, ∀ ms, δ[jOf as i]? = some (.ow ms) → ∃ xs, H (pr i) = some (.lst xs) ∧ Ω (pr i) = some (i + 2) ∧ aB K H Ω ms xs) → cJ K H Ω pr is mss
  | [], _, h, _ => by cases h; rfl
  | i :: is, mss, h, f => by
    rw [List.map_cons] at h
    unfold cL at h
    split at h
    · rename_i ms r e1 e2
      cases h
      exact ⟨ms, r, rfl, f i List.mem_cons_self ms e1, qh e2 fun i' hi' => f i' (List.mem_cons_of_mem _ hi')⟩
    · cases h
theorem sV {n : Nat} {M : List D → List (List D) → Rn} {Ex : XK} {t : TA} {fa : DM (List DV)} (ha : DA K E t fa) : DE K E (nB (spN K n is M) [] Ex t) (gD n is fa M) := by
  intro σ H δ Ω R Q h
  refine ha.use R h fun as vs δ1 H1 Ω1 _ s1 R1 r1 h1 => ?_
  (try dsimp only at h1)
  split at h1
  · rename_i js hjs
    split at h1
    · rename_i hnd
      split at h1
      · rename_i mss ds hms hds
        split at h1
        · rename_i hn
          have hje := xB hjs
          subst hje
          obtain ⟨hl, hrep⟩ := qd r1 hds
          have all : ∀ i ∈ is, as[i]? = some (.slot (jOf as i)) ∧ ∃ ms xs, δ1[jOf as i]? = some (.ow ms) ∧ σ[jOf as i]? = some (some (.ref (aOf σ as i))) ∧ H1 (aOf σ as i) = some (.lst xs) ∧ Ω1 (aOf σ as i) = some (jOf as i + 2) ∧ aB K H1 Ω1 ms xs := by
            intro i hi
            obtain ⟨k, hk, e⟩ := List.mem_iff_getElem.mp hi
            obtain ⟨j, z1, z2⟩ := oS hjs k i (by rw [List.getElem?_eq_getElem hk, e])
            have hj : jOf as i = j := by unfold jOf; rw [z2]
            obtain ⟨ms, z3, z4⟩ := uq hms k j z1
            obtain ⟨p, xs, q1, q2, q3, q4⟩ := R1.sl j _ z4
            have q1 := join_some q1
            have hp : aOf σ as i = p := by unfold aOf; rw [hj, q1]
            rw [hj, hp]
            exact ⟨z2, ms, xs, z4, q1, q2, q3, q4⟩
          have hinj : Inj (aOf σ as) is := fun i hi i' hi' e => by
            obtain ⟨_, _, _, _, _, _, o1, _⟩ := all i hi
            obtain ⟨_, _, _, _, _, _, o2, _⟩ := all i' hi'
            rw [e, o2] at o1
            exact (map_inj hnd i' hi' i hi (by have := Option.some.inj o1; omega)).symm
          have hp : ∀ i ∈ is, Ω1 (aOf σ as i) = some (jOf as i + 2) ∧ ∃ xs, H1 (aOf σ as i) = some (.lst xs) := fun i hi => by
            obtain ⟨_, _, xs, _, _, o1, o2, _⟩ := all i hi
            exact ⟨o2, xs, o1⟩
          have hσ : ∀ i ∈ is, σ[jOf as i]? = some (some (.ref (aOf σ as i))) := fun i hi => by
            obtain ⟨_, _, _, _, o1, _⟩ := all i hi
            exact o1
          have hnn : ∀ i ∈ is, Ω1 (aOf σ as i) ≠ none := fun i hi => by rw [(hp i hi).1]; exact Option.some_ne_none _
          show spN K n is M (vs ++ []) H1 Q Ex
          rw [List.append_nil]
          refine ⟨by rw [← hl]; exact hn, fF Ω1 (aOf σ as) is, ds, aOf σ as, mss, fun b k q => ?_, fun i hi => ?_, ?_, fun b k q => ?_, ⟨hl, fun k d hk hd => ?_⟩, ?_⟩
          · rcases kL (pr := aOf σ as) (is := is) b with ⟨i, hi, rfl⟩ | hb
            · obtain ⟨xs, q2⟩ := (hp i hi).2; exact ⟨_, q2, rfl⟩
            · rw [iV hb] at q; exact jP R1.trk b k q
          · obtain ⟨o1, _⟩ := all i hi
            obtain ⟨v, hv, rv⟩ := r1.get o1
            have rv : σ[jOf as i]? = some (some v) := rv
            rw [hσ i hi] at rv
            cases rv
            exact hv
          · refine qh hms fun i hi ms hms' => ?_
            obtain ⟨_, ms2, xs, o1, _, o2, o3, o4⟩ := all i hi
            rw [hms'] at o1
            cases o1
            exact ⟨xs, o2, C2 hinj hi, o4.less (sJ hnn)⟩
          · rcases kL (pr := aOf σ as) (is := is) b with ⟨i, hi, rfl⟩ | hb
            · exact .inr ⟨i, hi, rfl⟩
            · rw [iV hb] at q; exact .inl (mJ b k q)
          · obtain ⟨v', z1, z2⟩ := hrep k d (by rw [Nat.zero_add]; exact hk) hd
            exact ⟨v', z1, z2.less (sJ hnn)⟩
          · have fin : ∀ {H' : Hp} {Ω' : Om} {mss' : List (List D)}, Ext H1 (fF Ω1 (aOf σ as) is) H' Ω' → Trk H' Ω' → cJ K H' Ω' (aOf σ as) is mss' → aE K H' (DL.dB Ω1 Ω' (aOf σ as) (jOf as) is) σ (ek δ1 (is.map (jOf as)) mss') := fun e' t' z => aE.dB (mss := mss) R1 hinj hp hσ e' t' z
            have hn' : ∀ {H' : Hp} {Ω' : Om} {mss' : List (List D)}, cJ K H' Ω' (aOf σ as) is mss' → ∀ i ∈ is, Ω' (aOf σ as i) ≠ none := fun z i hi => by obtain ⟨_, _, h2⟩ := z.mem hi; rw [h2]; exact Option.some_ne_none _
            cases q5 : M ds mss with
            | un => rw [q5] at h1; exact h1
            | ok d mss' =>
              rw [q5] at h1
              exact fun H' Ω' e' t' z v rv => h1 H' _ (Ext.dB hinj hp e') (fin e' t' z) v (rv.less (n4 (hn' z)))
            | own es mss' =>
              rw [q5] at h1
              intro H' Ω' e' t' z v ⟨a, ws, w1, w2, w3, w4⟩
              have hap : ∀ i ∈ is, aOf σ as i ≠ a := by
                rintro i hi rfl
                obtain ⟨_, _, h2⟩ := z.mem hi
                rw [h2] at w3
                cases w3
              exact h1 H' _ (Ext.dB hinj hp e') (fin e' t' z) v ⟨a, ws, w1, w2, by rw [j1 hap]; exact kH w3, w4.less (n4 (hn' z))⟩
        · exact h1.elim
      · exact h1.elim
    · exact h1.elim
  · exact h1.elim
end
section
variable {X : Cx} {E : Str → Hp → Prop} {pos : Pos} {e : Expr}
structure jD (P : Program) (w : World) (K : PySem.W.Frag) (mg : Str → Option Value) (base : Heap) (k : Nat) (x : Str) (n : Nat) (is : List Nat) (M : List D → List (List D) → Rn) : Prop where
  ex : ∃ (f : Addr) (fd : FuncData) (ps : List Str), aW P w K mg base CX0 k f fd ps (spN K n is M) ∧ mg x = some (.ref f) ∧ PySem.W.keepIn K (.ref f) = true ∧ Binds K fd ps []
theorem BQ {k n : Nat} {is : List Nat} {x : Str} {M : List D → List (List D) → Rn} {p : Pos} {es : List Expr} {r : DM (List DV)} (F : jD X.prog X.w X.K X.mg X.base k x n is M) (hr : bN k X.A) (ha : PAD X EN (e :: es) r) (hg : Gl X x := by rfl)
    (hdb : (x == ("__debug__" : Str)) = false := by decide) (he : starEach (e :: es) X.env = (false, eval e X.env) :: starEach es X.env := by rfl) (hpl : (backTo pos (starEach es X.env)).any (·.1) = false := by rfl) :
    PED X EN (.Call (.Name x p) (e :: es) [] pos) (gD n is r M) := by
  obtain ⟨fa, fd, ps, F, hm, kp, b⟩ := F.ex
  obtain ⟨t, q, d⟩ := ha
  exact ⟨_, jh F hr hg hm kp b .nil mf q hdb he hpl, sV d⟩
end
section
variable {δ δ1 : DSt} {d : D} {ds es : List D} {mss mss' : List (List D)} {is js : List Nat} {n : Nat} {as : List DV} {fa : DM (List DV)} {body : DM Fl}
theorem BC (h : body (fL n is ds mss) = .ok (.rt d) δ1) (e : cL δ1 is = some mss') : runN body n is ds mss = .ok d mss' := by unfold runN; simp only [h, e]
theorem kM (h : body (fL n is ds mss) = .ok (.rto es) δ1) (e : cL δ1 is = some mss') : runN body n is ds mss = .own es mss' := by unfold runN; simp only [h, e]
theorem rR : mC (.ok d mss) δ js = .ok (.val d) (ek δ js mss) := rfl
theorem nW : mC (.own es mss) δ js = .ok (.own es) (ek δ js mss) := rfl
theorem mZ {M : List D → List (List D) → Rn} {rn : Rn} {Z : Rs DV} (h : fa δ = .ok as δ1) (e : slotsOf as is = some js) (hn : js.Nodup) (e2 : cL δ1 js = some mss) (e3 : eS is 0 as = some ds) (hl : ds.length = n) (hM : M ds mss = rn) (hr : mC rn δ1 js = Z) : gD n is fa M δ = Z := by
  unfold gD DM.bd
  simp only [h, e, hn, e2, e3, hl, if_true, hM]
  exact hr
end
end DL
namespace L2
open PySem PySem.Spec PyProof.Rows
section
variable {X : Cx}
noncomputable def nD (K : PySem.W.Frag) (lo : Int) (a : Addr) : It :=
  ⟨fun i H => ∃ xs x, SqL K H a xs ∧ xs[i]? = some x, fun i H v H' => ∃ p x, H p = none ∧ v = .ref p ∧ H' = upd H p (.tup [.int (lo + (i : Int)), x]) ∧ ∀ xs, SqL K H a xs → xs[i]? = some x, fun i H => ∃ xs, SqL K H a xs ∧ xs.length ≤ i⟩
theorem Dx {P : Program} {w : World} {K : PySem.W.Frag} {elts : List Expr} {kk : Nat} {pos : Pos} (lo : Int) (a it e : Addr) (hne : e ≠ it) : Turn P w K (.Tuple elts kk pos) (nD K lo a) [e, it] e (fun i h => (∃ old, IsEnum h e it (lo + (i : Int)) old) ∧ h.IsListIter it a i) where
  mem := by simp
  obj := fun i h st b hb => by
    obtain ⟨⟨old, h1⟩, o, h2, h3, h4⟩ := st
    have z : b = e ∨ b = it := by simpa using hb
    rcases z with z | z
    · subst z
      exact ⟨_, h1, fun v q => by
        have q' : Data.fields _ = Data.cell v := q
        cases q'⟩
    · subst z; exact ⟨o, h2, fun v q => by rw [h4] at q; cases q⟩
  keep := fun i h h' st k => ⟨st.1.imp fun old q => k e (by simp) _ q, st.2.at fun o q => k it (by simp) o q⟩
  item := by
    intro X hP hw hK hc i pins s σ H E I hf st hg
    subst hP hw hK
    obtain ⟨xs, x, hq, hx⟩ := hg
    obtain ⟨its, rv, p, hz⟩ := I.list hq
    obtain ⟨u, hu, ru⟩ := rv.get hx
    have fe := hf e (by simp)
    have fi := hf it (by simp)
    obtain ⟨⟨old, h1⟩, h2⟩ := st
    have elt : e < s.heap.objs.size := Heap.lt_size h1
    refine vH h1 h2 p.isList (x := u) (by simpa using hu) hne fun h' ho hit ht hsz hk => ?_
    refine ⟨_, rfl, wpAny_letOwnedTupleGo_enum ho fun hq2 he2 sb2 => ?_⟩
    replace sb2 : Heap.SameBut e h' hq2 := sb2
    have hfr := I.hok.fresh (Nat.le_refl s.heap.objs.size)
    refine ⟨.ref s.heap.objs.size, _, I.turnedT (xs := [.int (lo + (i : Int)), x]) (fun b o n1 n2 q => (sb2.2 b n1).trans (hk b o n1 n2 q)) fe fi (Nat.le_refl _) ?_, rfl, ⟨_, x, hfr, rfl, rfl, fun ys hy => by rw [I.list_inj hy hq]; exact hx⟩,
      ⟨⟨u, ?_⟩, hit.at fun o q => (sb2.2 it (Ne.symm hne)).trans q⟩, fun b hb => ?_⟩
    · refine ⟨by show 2 ≤ sizeLine; decide, [.int (lo + (i : Int)) s.toks, u], .cons ⟨_, rfl⟩ (.cons ru .nil), ?_⟩
      exact ⟨_, (sb2.2 _ (Nat.ne_of_gt elt)).trans ht, rfl, _, rfl⟩
    · have e1 : (lo + ((i + 1 : Nat) : Int)) = lo + (i : Int) + 1 := by omega
      rw [e1]; exact he2
    · have z : b = e ∨ b = it := by simpa using hb
      have hne' : b ≠ s.heap.objs.size := by
        rcases z with z | z
        · rw [z]; exact Nat.ne_of_lt elt
        · rw [z]; obtain ⟨o, q, _⟩ := h2; exact Nat.ne_of_lt (Heap.lt_size q)
      rw [bf hne']
      exact (hf b hb).1
  done := by
    intro X hP hw hK hc i pins s σ H E I hf st hg
    subst hP hw hK
    obtain ⟨xs, hq, hx⟩ := hg
    obtain ⟨its, rv, p, hz⟩ := I.list hq
    have hl := rv.length
    obtain ⟨⟨old, h1⟩, h2⟩ := st
    exact u5 (I.ok.hd hc) h1 h2 p.isList (by simp; omega) fun h' eb => ⟨rfl, I.turned1 (t' := s.toks) (fun b o hb q => eb b o hb q) (hf it (by simp))⟩
  self := fun _ _ _ _ _ st h => by
    obtain ⟨⟨old, h1⟩, h2⟩ := st
    exact wpAny_pyIter_enum h1 h
noncomputable def Az (K : PySem.W.Frag) (lo : Int) (tl : TE) : TI := fun σ H R => tl σ H fun x H1 => ∃ a xs, x = .ref a ∧ Rd H1 a (.lst xs) ∧ R (nD K lo a) H1
theorem CY {elts : List Expr} {kk : Nat} {tpos p pos : Pos} {l : Expr} {tl : TE} (hl : PE X l tl) (hg : Gl X "enumerate") (hm : X.mg "enumerate" = none) (hs : starEach [l] X.env = [(false, eval l X.env)]) :
    PI X (.Tuple elts kk tpos) (.Call (.Name "enumerate" p) [l] [] pos) (Az X.K 0 tl) := by
  intro pins s σ H R I h
  have ha : PA X [l] (ma tl mT) := fA hl ic (by rw [hs]; rfl)
  refine Call_ (gy I hg hm boot_enumerate (PyProof.Rows.callWith_type1 (thn (ha pos pins s σ H (fun vs H1 => match vs with | [x] => ∃ a xs, x = .ref a ∧ Rd H1 a (.lst xs) ∧ R (nD X.K 0 a) H1 | _ => False) I h) fun us s1 ⟨vs, H1, I1, r1, q1⟩ => ?_) hs rfl))
  cases r1 with
  | nil => exact q1.elim
  | cons r rr =>
    cases rr with
    | cons _ _ => exact q1.elim
    | nil =>
    obtain ⟨a, xs, e2, hq, q⟩ := q1
    subst e2
    cases r
    obtain ⟨its, n, rv, ho, hz⟩ := I1.plain hq
    refine call_enumerate_list ⟨_, ho, rfl, n, rfl⟩ fun h' he hit hsz hk => wpAny_pyIter_enum he ?_
    have I3 : Inv X pins σ H1 { s1 with heap := h' } := I1.kept (t' := s1.toks) hk
    refine ⟨s1.heap.objs.size + 1, [s1.heap.objs.size + 1, s1.heap.objs.size], _, _, H1, rfl, I3, Dx 0 a s1.heap.objs.size (s1.heap.objs.size + 1) (Nat.succ_ne_self _), ⟨⟨.none, he⟩, hit⟩, fun b hb => ?_, q⟩
    have z : b = s1.heap.objs.size + 1 ∨ b = s1.heap.objs.size := by simpa using hb
    have hb' : s1.heap.objs.size ≤ b := by rcases z with z | z <;> rw [z] <;> omega
    exact I1.fpOk hb' (I1.hok.fresh hb')
noncomputable def Itv (K : PySem.W.Frag) (n : Nat) (a : Addr) : It :=
  ⟨fun i H => ∃ xs x, SqL K H a xs ∧ xs.length = n ∧ i < n ∧ xs[n - 1 - i]? = some x, fun i H v H' => H' = H ∧ ∀ xs, SqL K H a xs → xs[n - 1 - i]? = some v, fun i H => n ≤ i⟩
theorem zk {P : Program} {w : World} {K : PySem.W.Frag} {tg : Expr} (n : Nat) (a it : Addr) : Turn P w K tg (Itv K n a) [it] it (fun i h => i ≤ n ∧ h.IsRevIter it a ((n : Int) - 1 - (i : Int))) where
  mem := by simp
  obj := fun i h st b hb => by
    have e : b = it := by simpa using hb
    subst e
    obtain ⟨_, o, e, c, d⟩ := st
    exact ⟨o, e, fun v z => by rw [d] at z; cases z⟩
  keep := fun i h h' st k => ⟨st.1, st.2.at fun o e => k it (by simp) o e⟩
  item := by
    intro X hP hw hK hc i pins s σ H E I hf st hg
    subst hP hw hK
    obtain ⟨xs, x, hq, hn, hi, hx⟩ := hg
    obtain ⟨its, rv, p, hz⟩ := I.list hq
    obtain ⟨u, hu, ru⟩ := rv.get hx
    obtain ⟨f0, f1, f2, f3, f4, f5⟩ := hf it (by simp)
    obtain ⟨hle, st⟩ := st
    have e : (n : Int) - 1 - (i : Int) = ((n - 1 - i : Nat) : Int) := by omega
    rw [e] at st
    refine wpAny_pyNext_rev_item st p.isList (x := u) (by simpa using hu) fun h' st' sb => ?_
    have I1 : Inv X pins σ H { s with heap := h' } := I.turned (t' := s.toks) (fun b o hb e => (sb.2 b hb).trans e) f0 f1 f3 f4 f5
    have e2 : ((n - 1 - i : Nat) : Int) - 1 = (n : Int) - 1 - ((i + 1 : Nat) : Int) := by omega
    rw [e2] at st'
    obtain ⟨o, e, c, d⟩ := id st'
    exact ⟨u, rfl, kT (s := { s with heap := h' }) e c d (by decide) ⟨x, H, I1, ru, ⟨rfl, fun ys hy => by rw [I.list_inj hy hq]; exact hx⟩, ⟨hi, st'⟩, fun b hb => (hf b hb).1⟩⟩
  done := by
    intro X hP hw hK hc i pins s σ H E I hf st hg
    subst hP hw hK
    obtain ⟨hle, st⟩ := st
    have hi : n ≤ i := hg
    have e : (n : Int) - 1 - (i : Int) = -1 := by omega
    rw [e] at st
    obtain ⟨f0, f1, f2, f3, f4, f5⟩ := hf it (by simp)
    exact wpAny_pyNext_rev_end (I.ok.hd hc) st fun h' eb => ⟨rfl, I.turned (t' := s.toks) (fun b o hb e => eb b o hb e) f0 f1 f3 f4 f5⟩
  self := fun _ _ _ _ _ st h => wpAny_pyIter_revIter st.2 h
noncomputable def zA (K : PySem.W.Frag) (tl : TE) : TI := fun σ H R => tl σ H fun x H1 => ∃ a xs, x = .ref a ∧ Rd H1 a (.lst xs) ∧ R (Itv K xs.length a) H1
theorem boot_reversed : bootBuiltins "reversed" = some (.type "reversed") := by decide +kernel
theorem Ce {tg : Expr} {p pos : Pos} {l : Expr} {tl : TE} (hl : PE X l tl) (hg : Gl X "reversed") (hm : X.mg "reversed" = none) (hs : starEach [l] X.env = [(false, eval l X.env)]) :
    PI X tg (.Call (.Name "reversed" p) [l] [] pos) (zA X.K tl) := by
  intro pins s σ H R I h
  have ha : PA X [l] (ma tl mT) := fA hl ic (by rw [hs]; rfl)
  refine Call_ (gy I hg hm boot_reversed (PyProof.Rows.callWith_type1 (thn (ha pos pins s σ H (fun vs H1 => match vs with | [x] => ∃ a xs, x = .ref a ∧ Rd H1 a (.lst xs) ∧ R (Itv X.K xs.length a) H1 | _ => False) I h) fun us s1 ⟨vs, H1, I1, r1, q1⟩ => ?_) hs rfl))
  cases r1 with
  | nil => exact q1.elim
  | cons r rr =>
    cases rr with
    | cons _ _ => exact q1.elim
    | nil =>
    obtain ⟨a, xs, e2, hq, q⟩ := q1
    subst e2
    cases r
    obtain ⟨its, n, rv, ho, hz⟩ := I1.plain hq
    have hlen := rv.length
    have hl1 : s1.heap.IsList a its.toArray := ⟨_, ho, rfl, n, rfl⟩
    refine call_reversed_list hl1 ?_
    have hit : (s1.heap.push (revObj a ((its.toArray.size : Int) - 1))).IsRevIter s1.heap.objs.size a ((xs.length : Int) - 1 - ((0 : Nat) : Int)) := ⟨_, Heap.get?_push_size _ rfl, rfl, by
      show Data.fields #[Value.ref a, rawInt ((its.toArray.size : Int) - 1)] = _
      have : ((its.toArray.size : Int) - 1) = (xs.length : Int) - 1 - ((0 : Nat) : Int) := by simp [hlen]
      rw [this]⟩
    refine wpAny_pyIter_revIter hit ?_
    have I3 : Inv X pins σ H1 { s1 with heap := s1.heap.push (revObj a ((its.toArray.size : Int) - 1)) } := I1.kept (t' := s1.toks) fun b u q => Heap.get?_push_of_some _ q
    refine ⟨s1.heap.objs.size, [s1.heap.objs.size], _, _, H1, rfl, I3, zk xs.length a s1.heap.objs.size, ⟨Nat.zero_le _, hit⟩, fun b hb => ?_, q⟩
    have z : b = s1.heap.objs.size := by simpa using hb
    have hb' : s1.heap.objs.size ≤ b := by rw [z]; exact Nat.le_refl _
    exact I1.fpOk hb' (I1.hok.fresh hb')
end
end L2
namespace DL
open PySem PySem.Spec PyProof.Rows L2
noncomputable def CD : D → Option (List D)
  | .lst ds => some (cW 0 ds)
  | _ => none
noncomputable def nv (f : DM DV) : DM (List D) := fIt f CD
noncomputable def zE : D → Option (List D)
  | .lst ds => some ds.reverse
  | _ => none
noncomputable def lX (f : DM DV) : DM (List D) := fIt f zE
theorem yC {K : PySem.W.Frag} {H : Hp} {Ω : Om} {a : Addr} {vs : List V} {ds : List D} (lo : Int) (h : ShL H Ω a vs) (r : aB K H Ω ds vs) : Yl K (nD K lo a) H Ω (cW lo ds) where
  go := fun i H' Ω' e hi => by
    rw [kZ] at hi
    obtain ⟨v, q, _⟩ := r.get (List.getElem?_eq_getElem hi)
    exact ⟨vs, v, (.inl (h.ext e).1), q⟩
  yld := fun i d H' Ω' x H'' e hd hy => by
    obtain ⟨p, y, hp, rfl, rfl, hy⟩ := hy
    rw [oY] at hd
    obtain ⟨d', hd', rfl⟩ := Option.map_eq_some_iff.mp hd
    obtain ⟨v, q, rv⟩ := (r.ext e).get hd'
    have := hy vs (.inl (h.ext e).1)
    rw [q] at this
    obtain rfl := Option.some.inj this
    have ex : Ext H' Ω' (upd H' p (.tup [.int (lo + (i : Int)), v])) Ω' := ⟨fun b o' q' _ => by rw [bf (cn q' hp)]; exact q', fun _ q' _ => q', fun _ => Iff.rfl, fun b q' => by
      unfold upd at q'
      split at q'
      · cases q'
      · exact q'⟩
    exact ⟨(show ∃ a vs, _ from ⟨p, _, rfl, SqT.of cK, .cons rfl (.cons (Rep.ext ex rv) .nil)⟩), .inr ⟨p, _, hp, rfl⟩⟩
  stop := fun H' Ω' e => ⟨vs, (.inl (h.ext e).1), by rw [kZ, r.length]; exact Nat.le_refl _⟩
theorem AU {K : PySem.W.Frag} {H : Hp} {Ω : Om} {a : Addr} {vs : List V} {ds : List D} (h : ShL H Ω a vs) (r : aB K H Ω ds vs) : Yl K (Itv K vs.length a) H Ω ds.reverse where
  go := fun i H' Ω' e hi => by
    rw [List.length_reverse] at hi
    have hl := r.length
    obtain ⟨v, q, _⟩ := r.get (i := ds.length - 1 - i) (List.getElem?_eq_getElem (by omega))
    exact ⟨vs, v, .inl (h.ext e).1, rfl, by omega, by rw [← hl]; exact q⟩
  yld := fun i d H' Ω' x H'' e hd hy => by
    obtain ⟨rfl, hy⟩ := hy
    have hi : i < ds.length := by
      have := (List.getElem?_eq_some_iff.mp hd).1
      rwa [List.length_reverse] at this
    rw [List.getElem?_reverse hi] at hd
    obtain ⟨v, q, rv⟩ := (r.ext e).get hd
    have := hy vs (.inl (h.ext e).1)
    rw [← r.length, q] at this
    obtain rfl := Option.some.inj this
    exact ⟨rv, .inl rfl⟩
  stop := fun H' Ω' e => by
    show vs.length ≤ ds.reverse.length
    rw [List.length_reverse, r.length]
    exact Nat.le_refl _
section
variable {X : Cx} {E : Str → Hp → Prop} {pos : Pos} {a : Expr} {f : DM DV}
theorem AA {elts : List Expr} {kk : Nat} {tpos p : Pos} (hm : X.mg "enumerate" = none) (ha : PED X E a f) (hg : Gl X "enumerate" := by rfl) (hs : starEach [a] X.env = [(false, eval a X.env)] := by rfl) :
    PID X E (.Tuple elts kk tpos) (.Call (.Name "enumerate" p) [a] [] pos) (nv f) := by
  obtain ⟨t, q, d⟩ := ha
  refine ⟨_, CY q hg hm hs, ?_⟩
  intro σ H δ Ω R Q h
  refine d.use R h fun a x δ1 H1 Ω1 _ s1 R1 r1 h1 => ?_
  cases a with
  | val d =>
    cases d with
    | lst ds =>
      obtain ⟨b, vs, e1, e2, e3⟩ := (show ∃ a vs, _ from r1)
      exact ⟨b, vs, e1, e2.1, h1 H1 Ω1 .refl R1 _ fun Ω2 z => yC 0 (e2.less z) (e3.less z)⟩
    | _ => exact h1.elim
  | _ => exact h1.elim
theorem Bk {tg : Expr} {p : Pos} (hm : X.mg "reversed" = none) (ha : PED X E a f) (hg : Gl X "reversed" := by rfl) (hs : starEach [a] X.env = [(false, eval a X.env)] := by rfl) :
    PID X E tg (.Call (.Name "reversed" p) [a] [] pos) (lX f) := by
  obtain ⟨t, q, d⟩ := ha
  refine ⟨_, Ce q hg hm hs, ?_⟩
  intro σ H δ Ω R Q h
  refine d.use R h fun a x δ1 H1 Ω1 _ s1 R1 r1 h1 => ?_
  cases a with
  | val d =>
    cases d with
    | lst ds =>
      obtain ⟨b, vs, e1, e2, e3⟩ := (show ∃ a vs, _ from r1)
      exact ⟨b, vs, e1, e2.1, h1 H1 Ω1 .refl R1 _ fun Ω2 z => AU (e2.less z) (e3.less z)⟩
    | _ => exact h1.elim
  | _ => exact h1.elim
theorem Ae {δ δ1 : DSt} {aa : DV} {ds : List D} (h : f δ = .ok aa δ1) (e : norm aa = .val (.lst ds)) : nv f δ = .ok (cW 0 ds) δ1 := by unfold nv fIt fN DM.bd DM.ret; simp only [h, e]; rfl
theorem C6 {δ δ1 : DSt} {aa : DV} {ds : List D} (h : f δ = .ok aa δ1) (e : norm aa = .val (.lst ds)) : lX f δ = .ok ds.reverse δ1 := by unfold lX fIt fN DM.bd DM.ret; simp only [h, e]; rfl
end
end DL
namespace L2
open PySem PySem.Spec PyProof.Rows
noncomputable abbrev gC (h : Heap) (e it : Addr) (i : Int) (old : Value) (a : Addr) (f : Bool) : Prop :=
  h.get? e = some { cls := .type "enumerate", dict := none, data := .fields #[rawInt a, .bool f, .ref it, rawInt i, .none, old], slots := #[] }
section
variable {prog : Program} {w : World} {A : Around} {E : Value → Shared → Prop} {s : Shared}
theorem AV {a : Addr} {o : Obj} {Q : Option Obj → Shared → Prop} (q : s.heap.get? a = some o) (k : Q (some o) s) : wpAny (model prog w) A (loadIfAlive a) Q E s := by
  have k' : Q (s.heap.get? a) s := by rw [q]; exact k
  exact fun _ _ _ => k'
theorem xn {e it a : Addr} {f : Bool} {oa : Obj} {fp : List Addr} {n i : Nat} {P : Nat → Value → Prop} {St : Nat → Heap → Prop} {old : Value} {Q : Option Value → Shared → Prop}
    (D : Draws prog w A.in1 it fp n P St) (q0 : gC s.heap e it i old a f) (qa : s.heap.get? a = some oa) (nae : a ≠ e) (nai : a ≠ it) (st0 : St i s.heap) (lt0 : i < n) (nei : e ≠ it) (nef : e ∉ fp)
    (fin : ∀ x h' tk, P i x → gC h' e it ((i : Int) + 1) old a true → St (i + 1) h' →
      h'.get? s.heap.objs.size = some { cls := .type "tuple", data := .seq #[.int i tk, x] } → h'.objs.size = s.heap.objs.size + 1 →
      (∀ b o, b ≠ e → b ≠ it → s.heap.get? b = some o → h'.get? b = some o) → Q (some (.ref s.heap.objs.size)) { s with heap := h', toks := tk + 1 }) :
    wpAny (model prog w) A (pyNext (.ref e)) Q E s := by
  have ty : s.TypeIs (.ref e) "enumerate" := ⟨_, q0, rfl⟩
  unfold pyNext
  refine wpAny_bind (wpAny_attempt (wpAny_callSpecial?_slot (name := Str.ofString "__next__") ty F.slot_enumerate_next (wpAny_call_entry F.slot_enumerate_next ty F.entry_enumerate_next ?_ (F.args_enumerate_next_1 _))))
  obtain ⟨hp, g, d, t0, os⟩ := s
  change wpAny _ _ (field (.ref e) 2 >>= _) _ _ _
  refine wpAny_bind (wpAny_field q0 rfl (x := .ref it) rfl ?_)
  refine wpAny_bind (D.item i _ _ _ lt0 st0 fun x g1 tk px st1 sb1 => ?_)
  replace sb1 : Heap.SameBut it hp g1 := sb1
  have q1 : gC g1 e it i old a f := (sb1.2 e nei).trans q0
  change wpAny _ _ (field (.ref e) 3 >>= _) _ _ ⟨g1, g, d, tk, os⟩
  refine wpAny_bind (wpAny_field q1 rfl (x := rawInt i) rfl ?_)
  change wpAny _ _ (field (.ref e) 4 >>= _) _ _ ⟨g1, g, d, tk, os⟩
  refine wpAny_bind (wpAny_field q1 rfl (x := .none) rfl ?_)
  change wpAny _ _ (mkInt i >>= _) _ _ ⟨g1, g, d, tk, os⟩
  refine wpAny_bind (wpAny_mkInt ?_)
  change wpAny _ _ (setField (.ref e) 3 (rawInt ((i : Int) + 1)) >>= _) _ _ ⟨g1, g, d, tk + 1, os⟩
  refine wpAny_bind (wpAny_setField_rec q1 (by simp) fun g2 q2 sb2 => ?_)
  replace sb2 : Heap.SameBut e g1 g2 := sb2
  replace q2 : gC g2 e it ((i : Int) + 1) old a f := q2
  change wpAny _ _ (setField (.ref e) 4 .none >>= _) _ _ ⟨g2, g, d, tk + 1, os⟩
  refine wpAny_bind (wpAny_setField_rec q2 (by simp) fun g3 q3 sb3 => ?_)
  replace sb3 : Heap.SameBut e g2 g3 := sb3
  replace q3 : gC g3 e it ((i : Int) + 1) old a f := q3
  change wpAny _ _ (newTuple [.int i tk, x] >>= _) _ _ ⟨g3, g, d, tk + 1, os⟩
  refine wpAny_bind (wpAny_newTuple ?_)
  have q4 : gC (g3.push { cls := .type "tuple", data := .seq #[.int i tk, x] }) e it ((i : Int) + 1) old a f := Heap.get?_push_of_some _ q3
  generalize hg : g3.push { cls := .type "tuple", data := .seq #[.int i tk, x] } = g4 at q4
  have z3 : g3.objs.size = hp.objs.size := by rw [sb3.1, sb2.1, sb1.1]
  have el : e < hp.objs.size := Heap.lt_size q0
  have t4 : g4.get? hp.objs.size = some { cls := .type "tuple", data := .seq #[.int i tk, x] } := by rw [← hg, ← z3]; exact Heap.get?_push_size _ rfl
  have z4 : g4.objs.size = hp.objs.size + 1 := by rw [← hg, Heap.size_push, z3]
  have k4 : ∀ b o, b ≠ e → b ≠ it → hp.get? b = some o → g4.get? b = some o := fun b o n1 n2 y => by
    rw [← hg]; exact Heap.get?_push_of_some _ (sb3.extBut b o n1 (sb2.extBut b o n1 (sb1.extBut b o n2 y)))
  have st4 : St (i + 1) g4 := D.frame _ _ _ st1 fun b hb o y => by
    have nb : b ≠ e := fun r => nef (r ▸ hb)
    rw [← hg]; exact Heap.get?_push_of_some _ (sb3.extBut b o nb (sb2.extBut b o nb y))
  change wpAny _ _ (Builtin.SmallTypes.ownedTupleIsFree (.ref e) >>= _) _ _ ⟨g4, g, d, tk + 1, os⟩
  rw [z3]
  clear hg q3 sb3 q2 sb2 q1 sb1 st1 z3 g3 g2 g1
  have a4 : g4.get? a = some oa := k4 a oa nae nai qa
  refine wpAny_bind ?_
  unfold Builtin.SmallTypes.ownedTupleIsFree
  refine wpAny_bind (wpAny_field q4 rfl (x := rawInt a) rfl ?_)
  change wpAny _ _ (loadIfAlive ((a : Int).toNat) >>= _) _ _ _
  rw [Int.toNat_natCast]
  refine wpAny_bind (AV a4 ?_)
  simp only [Option.isNone_some, Bool.false_eq_true, if_false]
  refine wpAny_bind (wpAny_field q4 rfl (x := .bool f) rfl ?_)
  cases f with
  | true =>
    rw [if_neg (show ¬ ((Value.bool true != Value.bool true) = true) from Bool.false_ne_true)]
    refine wpAny_pure ?_
    simp only [Bool.false_eq_true, if_false]
    exact wpAny_pure ⟨_, rfl, wpAny_pure (fin x g4 tk px q4 st4 t4 z4 k4)⟩
  | false =>
    rw [if_pos (show (Value.bool false != Value.bool true) = true from rfl)]
    refine wpAny_bind (wpAny_setField_rec q4 (by simp) fun g5 q5 sb5 => ?_)
    replace sb5 : Heap.SameBut e g4 g5 := sb5
    replace q5 : gC g5 e it ((i : Int) + 1) old a true := q5
    refine wpAny_pure ?_
    simp only [Bool.false_eq_true, if_false]
    refine wpAny_pure ⟨_, rfl, wpAny_pure (fin x g5 tk px q5 ?_ ?_ ?_ ?_)⟩
    · exact D.frame _ _ _ st4 fun b hb o y => sb5.extBut b o (fun r => nef (r ▸ hb)) y
    · exact sb5.extBut _ _ (Nat.ne_of_gt el) t4
    · exact sb5.1.trans z4
    · exact fun b o n1 n2 y => sb5.extBut b o n1 (k4 b o n1 n2 y)
theorem Aj {e it a : Addr} {f : Bool} {fp : List Addr} {n : Nat} {P : Nat → Value → Prop} {St : Nat → Heap → Prop} {i : Int} {old : Value} {Q : Option Value → Shared → Prop}
    (D : Draws prog w A.in1 it fp n P St) (q0 : gC s.heap e it i old a f) (st0 : St n s.heap) (fin : ∀ h', Heap.ExtBut it s.heap h' → Q none { s with heap := h' }) : wpAny (model prog w) A (pyNext (.ref e)) Q E s := by
  have ty : s.TypeIs (.ref e) "enumerate" := ⟨_, q0, rfl⟩
  unfold pyNext
  refine wpAny_bind (wpAny_attempt (wpAny_callSpecial?_slot (name := Str.ofString "__next__") ty F.slot_enumerate_next (wpAny_call_entry F.slot_enumerate_next ty F.entry_enumerate_next ?_ (F.args_enumerate_next_1 _))))
  change wpAny _ _ (field (.ref e) 2 >>= _) _ _ _
  refine wpAny_bind (wpAny_field q0 rfl (x := .ref it) rfl ?_)
  refine wpAny_bind (D.done _ _ _ st0 fun h' x eb hx => ?_)
  obtain ⟨o, ho, hc⟩ := hx
  refine wpAny_bind (wpAny_isInstance (T := "StopIteration") (b := true) ⟨o, ho, hc⟩ isSubtype_stop ?_)
  exact wpAny_pure (fin _ eb)
noncomputable def sj (x : Str) (i : Nat) (v : Value) : Prop := ∃ c u, x.cps[i]? = some c ∧ v = .str ⟨#[c]⟩ u
theorem uI (hh : A.handled = none) (it : Addr) (x : Str) (t : Tok) : Draws prog w A it [it] x.cps.size (sj x) (fun i h => h.IsStrIter it (strIterType x) x t i) := by
  unfold strIterType
  cases x.cps.all (· < 128) with
  | true => exact Draws.strAscii hh it x t
  | false => exact Draws.strWide hh it x t
noncomputable def iY (h : Heap) (e it S : Addr) (i : Nat) : Prop := (i = 0 ∧ IsEnum h e it 0 .none) ∨ ∃ old a f oa, gC h e it i old a f ∧ h.get? a = some oa ∧ a ≠ e ∧ a ≠ it ∧ a ≠ S
theorem mS {h h' : Heap} {a : Addr} {ty : String} {x : Str} {t : Tok} {i : Nat} (y : h.IsStrIter a ty x t i) (k : ∀ o, h.get? a = some o → h'.get? a = some o) : h'.IsStrIter a ty x t i := let ⟨o, ho, r⟩ := y; ⟨o, k o ho, r⟩
theorem iY.keep {h h' : Heap} {e it S : Addr} {i : Nat} (x : iY h e it S i) (k : ∀ b o, b ≠ S → h.get? b = some o → h'.get? b = some o) (nS : e ≠ S) : iY h' e it S i := by
  rcases x with ⟨z, q⟩ | ⟨old, a, f, oa, q, qa, n1, n2, n3⟩
  · exact .inl ⟨z, k _ _ nS q⟩
  · exact .inr ⟨old, a, f, oa, k _ _ nS q, k _ _ n3 qa, n1, n2, n3⟩
theorem wm {e it S : Addr} {i : Nat} {x : Str} {t : Tok} {Q : Option Value → Shared → Prop} (hh : A.handled = none) (st : iY s.heap e it S i) (lS : S < s.heap.objs.size) (hs : s.heap.IsStrIter it (strIterType x) x t i) (lt0 : i < x.cps.size) (nei : e ≠ it)
    (fin : ∀ v h' tk, sj x i v → iY h' e it S (i + 1) → h'.IsStrIter it (strIterType x) x t (i + 1) →
      h'.get? s.heap.objs.size = some { cls := .type "tuple", data := .seq #[.int i tk, v] } → h'.objs.size = s.heap.objs.size + 1 →
      (∀ b o, b ≠ e → b ≠ it → s.heap.get? b = some o → h'.get? b = some o) → Q (some (.ref s.heap.objs.size)) { s with heap := h', toks := tk + 1 }) :
    wpAny (model prog w) A (pyNext (.ref e)) Q E s := by
  have D := uI (prog := prog) (w := w) (A := A.in1) hh it x t
  have nef : e ∉ [it] := fun z => nei (List.mem_singleton.mp z)
  have li : it < s.heap.objs.size := by obtain ⟨o, ho, _⟩ := hs; exact Heap.lt_size ho
  rcases st with ⟨rfl, q⟩ | ⟨old, a, f, oa, q, qa, n1, n2, n3⟩
  · have le : e < s.heap.objs.size := Heap.lt_size q
    refine wpAny_pyNext_enum_itemD D (i := 0) q hs lt0 nei nef fun v h' tk pv q' st' t' z' k' => fin v h' tk pv (.inr ⟨v, s.heap.objs.size, false, _, ?_, t', Nat.ne_of_gt le, Nat.ne_of_gt li, Nat.ne_of_gt lS⟩) st' t' z' k'
    exact q'
  · exact xn D q qa n1 n2 hs lt0 nei nef fun v h' tk pv q' st' t' z' k' => fin v h' tk pv (.inr ⟨old, a, true, oa, q', k' a oa n1 n2 qa, n1, n2, n3⟩) st' t' z' k'
theorem AR {e it S : Addr} {x : Str} {t : Tok} {Q : Option Value → Shared → Prop} (hh : A.handled = none) (st : iY s.heap e it S x.cps.size) (hs : s.heap.IsStrIter it (strIterType x) x t x.cps.size)
    (fin : ∀ h', Heap.ExtBut it s.heap h' → Q none { s with heap := h' }) : wpAny (model prog w) A (pyNext (.ref e)) Q E s := by
  have D := uI (prog := prog) (w := w) (A := A.in1) hh it x t
  rcases st with ⟨z, q⟩ | ⟨old, a, f, oa, q, _⟩
  · exact wpAny_pyNext_enum_endD D q hs fin
  · exact Aj D q hs fin
structure iQ (x : Str) (lo : Addr) (h : Heap) (as : List Addr) : Prop where
  rise : as.Pairwise (· < ·)
  above : ∀ a ∈ as, lo < a
  pairs : ∀ (j : Nat) (a : Addr), as[j]? = some a → ∃ t c u, x.cps[j]? = some c ∧ h.get? a = some { cls := .type "tuple", data := .seq #[.int j t, .str ⟨#[c]⟩ u] }
theorem iQ.there {x : Str} {lo : Addr} {h : Heap} {as : List Addr} (g : iQ x lo h as) {a : Addr} (ha : a ∈ as) : a < h.objs.size := by
  obtain ⟨j, hj⟩ := List.mem_iff_getElem?.mp ha
  obtain ⟨_, _, _, _, q⟩ := g.pairs j a hj
  exact Heap.lt_size q
end
section
variable {prog : Program} {w : World} {A : Around} {s : Shared} {R : Result → Shared → Prop} {x : Str} {t : Tok}
theorem xf {S e it lo : Addr} (hh : A.handled = none) (l1 : e < lo) (l2 : it < lo) (l3 : S ≤ lo) (n1 : S ≠ e) (n2 : S ≠ it) (nei : e ≠ it) (hn : x.cps.size ≤ sizeLine) (out : Value) {h₁ : Heap}
    (fin : ∀ h' tk acc c as, (∀ b o, b ≠ S → b ≠ e → b ≠ it → h₁.get? b = some o → h'.get? b = some o) → h'.get? S = some { cls := .type "list", dict := none, data := .seq acc c, slots := #[] } → as.length = x.cps.size → iQ x lo h' as →
      acc.toList = as.map Value.ref → R (.ok (.ret out)) { s with heap := h', toks := tk }) :
    ∀ (k i : Nat) (h : Heap) (tk c : Nat) (acc : Array Value) (as : List Addr), x.cps.size - i = k → i ≤ x.cps.size → iY h e it S i → h.IsStrIter it (strIterType x) x t i → (∀ b o, b ≠ S → b ≠ e → b ≠ it → h₁.get? b = some o → h.get? b = some o) →
      h.get? S = some { cls := .type "list", dict := none, data := .seq acc c, slots := #[] } → acc.toList = as.map Value.ref → as.length = i → iQ x lo h as → lo < h.objs.size →
      codeAny (model prog w) A (.builtin "list.extend.loop" ⟨[.ref S, .ref e, out], []⟩) R { s with heap := h, toks := tk } := by
  intro k
  induction k with
  | zero =>
    intro i h tk c acc as hk hi st hs keep qS qa ql G lz
    have hin : i = x.cps.size := by omega
    subst hin
    refine codeAny_builtin PySem.F.entry_extend_loop ?_
    rw [Around.under_plainId PySem.F.plain_extend_loop _]
    change wpAny _ A.in1 (pyNext (.ref e) >>= _) _ _ _
    refine wpAny_bind (AR (s := { s with heap := h, toks := tk }) (A := A.in1) hh st hs fun h' eb => ?_)
    refine wpAny_pure (fin h' tk acc c as (fun b o z1 z2 z3 q => eb b o z3 (keep b o z1 z2 z3 q)) (eb S _ n2 qS) ql ⟨G.rise, G.above, fun j a hj => ?_⟩ qa)
    obtain ⟨t', c', u', p1, p2⟩ := G.pairs j a hj
    exact ⟨t', c', u', p1, eb a _ (Nat.ne_of_gt (Nat.lt_trans l2 (G.above a (List.mem_of_getElem? hj)))) p2⟩
  | succ k ih =>
    intro i h tk c acc as hk hi st hs keep qS qa ql G lz
    have lt0 : i < x.cps.size := by omega
    have sz : acc.size = i := by rw [← Array.length_toList, qa, List.length_map, ql]
    have lS : S < h.objs.size := Heap.lt_size qS
    refine codeAny_builtin PySem.F.entry_extend_loop ?_
    rw [Around.under_plainId PySem.F.plain_extend_loop _]
    change wpAny _ A.in1 (pyNext (.ref e) >>= _) _ _ _
    refine wpAny_bind (wm (s := { s with heap := h, toks := tk }) (S := S) (A := A.in1) hh st lS hs lt0 nei fun v h' tk' pv st' hs' tt zz kp => ?_)
    dsimp only at tt zz kp ⊢
    have qS' := kp S _ n1 n2 qS
    have ups : ∀ b o, b ≠ S → h'.get? b = some o → (h'.update S (Obj.mapSeq (·.push (Value.ref h.objs.size)))).get? b = some o := fun b o nb y => (Heap.get?_update_other _ _ (Ne.symm nb)).trans y
    change wpAny _ A.in1 (updateSeq S (·.push (Value.ref h.objs.size)) >>= _) _ _ _
    refine wpAny_bind ?_
    refine wpAny_updateSeq qS' rfl (wpAny_pure ⟨plainId_quiet PySem.F.plain_extend_loop _, ih (i + 1) _ (tk' + 1) _ (acc.push (Value.ref h.objs.size)) (as ++ [h.objs.size]) (by omega) lt0 (st'.keep ups (Ne.symm n1)) (mS hs' fun o y => ups it o (Ne.symm n2) y)
      (fun b o z1 z2 z3 y => ups b o z1 (kp b o z2 z3 (keep b o z1 z2 z3 y))) (Heap.get?_update_self _ qS' rfl) (by rw [Array.toList_push, qa, List.map_append]; rfl) (by rw [List.length_append, ql]; rfl) ⟨?_, ?_, ?_⟩ ?_⟩) (by rw [sz]; omega) (by change (acc.push (Value.ref h.objs.size)).size ≤ sizeLine + 1; rw [Array.size_push, sz]; omega)
    · refine List.pairwise_append.mpr ⟨G.rise, List.pairwise_singleton _ _, fun a ha b hb => ?_⟩
      rw [List.mem_singleton.mp hb]
      exact G.there ha
    · intro a ha
      rcases List.mem_append.mp ha with z | z
      · exact G.above a z
      · rw [List.mem_singleton.mp z]; exact lz
    · intro j b hj
      rcases Nat.lt_trichotomy j as.length with z | z | z
      · rw [List.getElem?_append_left z] at hj
        obtain ⟨t', c', u', p1, p2⟩ := G.pairs j b hj
        have hb := G.above b (List.mem_of_getElem? hj)
        exact ⟨t', c', u', p1, ups b _ (Nat.ne_of_gt (Nat.lt_of_le_of_lt l3 hb)) (kp b _ (Nat.ne_of_gt (Nat.lt_trans l1 hb)) (Nat.ne_of_gt (Nat.lt_trans l2 hb)) p2)⟩
      · subst z
        have hb : h.objs.size = b := by simpa using hj
        subst hb
        obtain ⟨c', u', p1, p2⟩ := pv
        refine ⟨tk', c', u', by rw [ql]; exact p1, ups _ _ (Nat.ne_of_gt lS) ?_⟩
        rw [tt, p2, ql]
      · have nn : (as ++ [h.objs.size])[j]? = none := List.getElem?_eq_none (by rw [List.length_append, List.length_singleton]; omega)
        rw [nn] at hj; cases hj
    · have y : (h'.update S (Obj.mapSeq (·.push (Value.ref h.objs.size)))).get? h.objs.size = _ := ups _ _ (Nat.ne_of_gt lS) tt
      exact Nat.lt_trans lz (Heap.lt_size y)
end
theorem zP : typeLookup (.type "enumerate") "__len__" = pure none := by rw [typeLookup_type, builtinLookup_eq_fast]; kernel_rfl
theorem Dn : typeLookup (.type "enumerate") "__length_hint__" = pure none := by rw [typeLookup_type, builtinLookup_eq_fast]; kernel_rfl
section
variable {prog : Program} {w : World} {A : Around} {E : Value → Shared → Prop} {s : Shared} {x : Str} {t : Tok}
theorem xW {R : Result → Shared → Prop} {S e it lo : Addr} (hh : A.handled = none) (qe : IsEnum s.heap e it 0 .none) (hs : s.heap.IsStrIter it (strIterType x) x t 0) (l1 : e < lo) (l2 : it < lo) (l3 : S ≤ lo) (n1 : S ≠ e) (n2 : S ≠ it) (nei : e ≠ it) (hn : x.cps.size ≤ sizeLine) (out : Value) (c₀ : Nat)
    (qS : s.heap.get? S = some { cls := .type "list", data := .seq #[] c₀ }) (lz : lo < s.heap.objs.size)
    (fin : ∀ h' tk acc c as, (∀ b o, b ≠ S → b ≠ e → b ≠ it → s.heap.get? b = some o → h'.get? b = some o) → h'.get? S = some { cls := .type "list", dict := none, data := .seq acc c, slots := #[] } → as.length = x.cps.size → iQ x lo h' as →
      acc.toList = as.map Value.ref → R (.ok (.ret out)) { s with heap := h', toks := tk }) :
    wpAny (model prog w) A.in1 (Builtin.List.listExtendWith (.ref S) (.ref e) out)
      (fun f s' => match f with | .done f => R (.ok f) s' | .again c' => c'.quiet = true ∧ codeAny (model prog w) A c' R s') (fun e s' => R (.error e) s') s := by
  have ty : s.TypeIs (.ref e) "enumerate" := ⟨_, qe, rfl⟩
  unfold Builtin.List.listExtendWith
  refine wpAny_bind (wpAny_typeOf ty ?_)
  have b1 : Builtin.List.listSameRef (.ref S) (.ref e) = false := by simp [Builtin.List.listSameRef, n1]
  have b2 : (Value.type "enumerate" == Value.type "list") = false := by decide
  have b3 : (Value.type "enumerate" == Value.type "tuple") = false := by decide
  simp only [b1, b2, b3, Bool.or_false, Bool.false_eq_true, if_false]
  refine wpAny_bind (wpAny_pyIter_enum qe ?_)
  refine wpAny_bind (wpAny_holding ?_)
  unfold Builtin.List.listLengthHint
  refine wpAny_bind (wpAny_specialOf ty zP ?_)
  change wpAny _ A.in1 (specialOf (Value.ref e) (Str.ofString "__length_hint__") >>= _) _ _ _
  refine wpAny_bind (wpAny_specialOf ty Dn ?_)
  refine wpAny_pure ?_
  change wpAny _ A.in1 (rule "list.extend.makes-room" >>= fun _ => Builtin.List.listTouch (.ref S) >>= fun _ => again (.builtin "list.extend.loop" ⟨[.ref S, .ref e, out], []⟩)) _ _ _
  refine wpAny_bind (wpAny_rule ?_)
  refine wpAny_bind ?_
  change wpAny _ A.in1 (updateSeq S (·.push .none) >>= fun _ => updateSeq S (·.pop)) _ _ _
  refine wpAny_bind (wpAny_updateSeq qS rfl ?_)
  have qS2 := Heap.get?_update_self (Obj.mapSeq (·.push Value.none)) qS rfl
  refine wpAny_updateSeq (hz := by seq_fits) qS2 rfl ?_
  have qS3 := Heap.get?_update_self (Obj.mapSeq (·.pop)) qS2 rfl
  have oth : ∀ b o, b ≠ S → s.heap.get? b = some o → ((s.heap.update S (Obj.mapSeq (·.push Value.none))).update S (Obj.mapSeq (·.pop))).get? b = some o :=
    fun b o nb y => (Heap.get?_update_other _ _ (Ne.symm nb)).trans ((Heap.get?_update_other _ _ (Ne.symm nb)).trans y)
  refine wpAny_pure ⟨plainId_quiet PySem.F.plain_extend_loop _, xf (h₁ := s.heap) (t := t) (s := s) hh l1 l2 l3 n1 n2 nei hn out fin x.cps.size 0 _ s.toks _ #[] [] (Nat.sub_zero _) (Nat.zero_le _) (.inl ⟨rfl, oth _ _ (Ne.symm n1) qe⟩) (mS hs fun o y => oth it o (Ne.symm n2) y) (fun b o z1 _ _ y => oth b o z1 y) qS3 rfl rfl ⟨List.Pairwise.nil, (fun _ z => nomatch z), (fun j a hj => by simp at hj)⟩ ?_⟩
  rw [Heap.size_update, Heap.size_update]
  exact lz
end
section
variable {P : Program} {w : World} {fs ex : List Addr} {H H' : Hp} {h h' : Heap}
theorem Un.fresh (k : ∀ b u, h.get? b = some u → h'.get? b = some u) (same : ∀ b, b < h.objs.size → H' b = H b) (big : ∀ b, h.objs.size ≤ b → H b = none) : Un fs ex H H' h h' where
  keep := fun b u q _ _ _ => k b u q
  slot := fun b u q _ _ _ => ⟨u.slots, k b u q⟩
  free := fun b u q n _ => by rw [same b (Heap.lt_size q)]; exact n
  there := fun b u q _ => ⟨u, k b u q⟩
  tups := fun b xs q => by
    have hb : b < h.objs.size := Nat.lt_of_not_le fun z => by rw [big b z] at q; cases q
    rw [same b hb]; exact q
  frzs := fun b u xs q => by
    have hb : b < h.objs.size := Nat.lt_of_not_le fun z => by rw [big b z] at q; cases q
    rw [same b hb]; exact q
  tbls := fun b ps q => ⟨#[], by
    have hb : b < h.objs.size := Nat.lt_of_not_le fun z => by rw [big b z] at q; cases q
    rw [same b hb, q]; simp⟩
theorem HOk.fresh2 (x : HOk P w H h) (k : ∀ b u, h.get? b = some u → h'.get? b = some u) (same : ∀ b, b < h.objs.size → H' b = H b) (new : ∀ b o, h.objs.size ≤ b → H' b = some o → cA P w H' h' b o) : HOk P w H' h' := fun b o q => by
  by_cases hb : b < h.objs.size
  · rw [same b hb] at q
    refine (x b o q).stay (fun c u _ r => k c u r) (fun c r => ?_) fun c xs r => ?_
    · rw [same c (x.lt r)]; exact r
    · rw [same c (x.lt r)]; exact r
  · exact new b o (Nat.le_of_not_lt hb) q
end
section
variable {prog : Program} {w : World} {A : Around} {E : Value → Shared → Prop} {s : Shared} {x : Str} {t : Tok}
theorem xp {R : Result → Shared → Prop} {S e it : Addr} (hh : A.handled = none) (qe : IsEnum s.heap e it 0 .none) (hs : s.heap.IsStrIter it (strIterType x) x t 0) (l1 : e < S) (l2 : it < S) (nei : e ≠ it) (hn : x.cps.size ≤ sizeLine)
    (qS : s.heap.get? S = some { cls := .type "list", data := .seq #[] })
    (fin : ∀ h' tk acc c as, (∀ b o, b ≠ S → b ≠ e → b ≠ it → s.heap.get? b = some o → h'.get? b = some o) → h'.get? S = some { cls := .type "list", dict := none, data := .seq acc c, slots := #[] } → as.length = x.cps.size → iQ x S h' as →
      acc.toList = as.map Value.ref → R (.ok (.ret .none)) { s with heap := h', toks := tk }) :
    wpAny (model prog w) A.in1 (Builtin.«list.__init__» ⟨[.ref S, .ref e], []⟩)
      (fun f s' => match f with | .done f => R (.ok f) s' | .again c' => c'.quiet = true ∧ codeAny (model prog w) A c' R s') (fun e s' => R (.error e) s') s := by
  change wpAny _ A.in1 (do let old ← Builtin.List.listItems (.ref S); Builtin.List.listUpdate (.ref S) (fun _ => #[]); letGo old.toList.reverse; Builtin.List.listExtendWith (.ref S) (.ref e) .none) _ _ s
  refine wpAny_bind ?_
  unfold Builtin.List.listItems
  refine wpAny_bind (wpAny_seqItems qS rfl (wpAny_pure ?_))
  change wpAny _ A.in1 (updateSeq S (fun _ => #[]) >>= fun _ => letGo (#[] : Array Value).toList.reverse >>= fun _ => Builtin.List.listExtendWith (.ref S) (.ref e) .none) _ _ s
  refine wpAny_bind (wpAny_updateSeq qS rfl ?_)
  have qS2 := Heap.get?_update_self (Obj.mapSeq (fun _ => (#[] : Array Value))) qS rfl
  have oth : ∀ b o, b ≠ S → s.heap.get? b = some o → (s.heap.update S (Obj.mapSeq (fun _ => (#[] : Array Value)))).get? b = some o := fun b o nb y => (Heap.get?_update_other _ _ (Ne.symm nb)).trans y
  refine wpAny_bind (wpAny_letGo ?_)
  refine xW (t := t) (lo := S) hh (oth _ _ (Nat.ne_of_lt l1) qe) (mS hs fun o y => oth it o (Nat.ne_of_lt l2) y) l1 l2 (Nat.le_refl _) (Nat.ne_of_gt l1) (Nat.ne_of_gt l2) nei hn .none _ qS2 (by rw [Heap.size_update]; exact Heap.lt_size qS) fun h' tk acc c as k1 k2 k3 k4 k5 => ?_
  exact fin h' tk acc c as (fun b o z1 z2 z3 y => k1 b o z1 z2 z3 (oth b o z1 y)) k2 k3 k4 k5
theorem Al {Q : Value → Shared → Prop} {e it : Addr} (hh : A.handled = none) (qe : IsEnum s.heap e it 0 .none) (hs : s.heap.IsStrIter it (strIterType x) x t 0) (nei : e ≠ it) (hn : x.cps.size ≤ sizeLine)
    (fin : ∀ h' tk acc c as, (∀ b o, b ≠ e → b ≠ it → s.heap.get? b = some o → h'.get? b = some o) → h'.get? s.heap.objs.size = some { cls := .type "list", dict := none, data := .seq acc c, slots := #[] } → as.length = x.cps.size → iQ x s.heap.objs.size h' as →
      acc.toList = as.map Value.ref → Q (.ref s.heap.objs.size) { s with heap := h', toks := tk }) :
    wpAny (model prog w) A (call (.type "list") [.ref e]) Q E s := by
  refine callType_codes (Q₁ := fun ob s1 => ob = .ref s.heap.objs.size ∧ s1 = { s with heap := s.heap.push { cls := .type "list", data := .seq #[] } }) PySem.F.called_list (PySem.F.typeCall_list_1 _) PySem.F.entry_list_init (code_list_new _ ⟨rfl, rfl⟩) fun ob s1 z => ?_
  obtain ⟨rfl, rfl⟩ := z
  have qS : (s.heap.push { cls := .type "list", data := .seq #[] }).get? s.heap.objs.size = some { cls := .type "list", data := .seq #[] } := Heap.get?_push_size _ rfl
  have le : e < s.heap.objs.size := Heap.lt_size qe
  have li : it < s.heap.objs.size := by obtain ⟨o, ho, _⟩ := hs; exact Heap.lt_size ho
  refine ⟨⟨_, qS, rfl⟩, PySem.F.args_list_init_2 _ _, xp (t := t) (A := A.in1) hh (Heap.get?_push_of_some _ qe) (mS hs fun o y => Heap.get?_push_of_some _ y) le li nei hn qS fun h' tk acc c as k1 k2 k3 k4 k5 => ?_⟩
  exact ⟨rfl, fin h' tk acc c as (fun b o z2 z3 y => k1 b o (Nat.ne_of_lt (Heap.lt_size y)) z2 z3 (Heap.get?_push_of_some _ y)) k2 k3 k4 k5⟩
end
noncomputable def eI (H : Hp) : Nat → List Addr → List Nat → Hp
  | j, a :: as, c :: cs => eI (upd H a (.tup [.int (j : Int), .str ⟨#[c]⟩])) (j + 1) as cs
  | _, _, _ => H
theorem lj : ∀ (as : List Addr) (cs : List Nat) (H : Hp) (j : Nat) (b : Addr), b ∉ as → eI H j as cs b = H b
  | [], _, _, _, _, _ => rfl
  | _ :: _, [], _, _, _, _ => rfl
  | a :: as, c :: cs, H, j, b, h => by
    unfold eI
    rw [lj as cs _ _ b fun z => h (List.mem_cons_of_mem _ z), bf fun z => h (by rw [z]; exact List.mem_cons_self)]
theorem qP : ∀ (as : List Addr) (cs : List Nat) (H : Hp) (j i : Nat) (b : Addr) (c : Nat), as.Nodup → as[i]? = some b → cs[i]? = some c → eI H j as cs b = some (.tup [.int ((j + i : Nat) : Int), .str ⟨#[c]⟩])
  | [], _, _, _, i, _, _, _, h, _ => by simp at h
  | _ :: _, [], _, _, i, _, _, _, _, h => by simp at h
  | a :: as, c0 :: cs, H, j, 0, b, c, hn, h1, h2 => by
    have e1 : a = b := by simpa using h1
    have e2 : c0 = c := by simpa using h2
    subst e1 e2
    unfold eI
    rw [lj as cs _ _ a (List.nodup_cons.mp hn).1, cK]
    rfl
  | a :: as, c0 :: cs, H, j, i + 1, b, c, hn, h1, h2 => by
    unfold eI
    rw [qP as cs _ (j + 1) i b c (List.nodup_cons.mp hn).2 (by simpa using h1) (by simpa using h2)]
    have : j + 1 + i = j + (i + 1) := by omega
    rw [this]
noncomputable def tLE (ta : TE) : TE := fun σ H Q => ta σ H fun v H1 => ∃ z : Str, v = .str z ∧ z.cps.size ≤ sizeLine ∧ ∀ (l : Addr) (as : List Addr), as.length = z.cps.size → as.Nodup → H1 l = none → l ∉ as → (∀ a ∈ as, H1 a = none) → Q (.ref l) (upd (eI H1 0 as z.cps.toList) l (.lst (as.map V.ref)))
theorem wN : ∀ {as : List Addr}, as.Pairwise (· < ·) → as.Nodup := fun h => h.imp fun z => Nat.ne_of_lt z
theorem sR : ∀ as : List Addr, Vals (as.map V.ref) (as.map Value.ref)
  | [] => .nil
  | _ :: as => .cons rfl (sR as)
section
variable {X : Cx}
theorem yX {a : Expr} {ta : TE} {p1 p2 pos2 pos : Pos} (hc : X.calm = true) (ha : PE X a ta) (hg : Gl X "list") (hm : X.mg "list" = none) (hg2 : Gl X "enumerate") (hm2 : X.mg "enumerate" = none) (hb : bootBuiltins "list" = some (.type "list"))
    (hs2 : starEach [a] X.env = (false, eval a X.env) :: starEach [] X.env) (hs : starEach [.Call (.Name "enumerate" p2) [a] [] pos2] X.env = (false, eval (.Call (.Name "enumerate" p2) [a] [] pos2) X.env) :: starEach [] X.env)
    (hp2 : (backTo pos2 (starEach [] X.env)).any (·.1) = false) (hp : (backTo pos (starEach [] X.env)).any (·.1) = false) : PE X (.Call (.Name "list" p1) [.Call (.Name "enumerate" p2) [a] [] pos2] [] pos) (tLE ta) := by
  intro pins s σ H Q I h
  refine Call_ (gy I hg hm hb (PyProof.Rows.callWith_type1 ?_ hs hp))
  rw [hs]
  change wpAny _ _ (spliced ((false, eval (.Call (.Name "enumerate" p2) [a] [] pos2) X.env) :: backTo pos (starEach [] X.env))) _ _ s
  refine Calls.spliced_cons (Call_ (gy I hg2 hm2 boot_enumerate (PyProof.Rows.callWith_type1 ?_ hs2 hp2)))
  rw [hs2]
  change wpAny _ _ (spliced ((false, eval a X.env) :: backTo pos2 (starEach [] X.env))) _ _ s
  refine Calls.spliced_cons (thn (ha pins s σ H _ I h) fun u s1 ⟨v, H1, I1, r1, z, e1, hn, q⟩ => ?_)
  subst e1
  obtain ⟨t, rfl⟩ := r1
  refine Calls.spliced_nil (call_enumerate_str fun h' qe hs' zz kp => Calls.spliced_nil ?_)
  refine Al (s := { s1 with heap := h' }) (t := t) (I1.ok.hd hc) qe hs' (Nat.succ_ne_self _) hn fun h2 tk acc c as k1 k2 k3 k4 k5 => ?_
  dsimp only at k1 k2 k4 ⊢
  have kp2 : ∀ b o, s1.heap.get? b = some o → h2.get? b = some o := fun b o y => k1 b o (Nat.ne_of_lt (Nat.lt_succ_of_lt (Heap.lt_size y))) (Nat.ne_of_lt (Heap.lt_size y)) (kp b o y)
  have hz : s1.heap.objs.size ≤ h'.objs.size := by rw [zz]; exact Nat.le_add_right _ _
  have nd := wN k4.rise
  have big : ∀ b, s1.heap.objs.size ≤ b → H1 b = none := fun b hb => I1.hok.fresh hb
  have ab : ∀ b ∈ as, s1.heap.objs.size ≤ b := fun b hb => Nat.le_of_lt (Nat.lt_of_le_of_lt hz (k4.above b hb))
  have nl : h'.objs.size ∉ as := fun z => Nat.lt_irrefl _ (k4.above _ z)
  have q2 := q h'.objs.size as (by rw [k3]) nd (big _ hz) nl (fun b hb => big b (ab b hb))
  have same : ∀ b, b < s1.heap.objs.size → upd (eI H1 0 as z.cps.toList) h'.objs.size (.lst (as.map V.ref)) b = H1 b := fun b hb => by
    rw [bf (Nat.ne_of_lt (Nat.lt_of_lt_of_le hb hz)), lj as _ _ _ b fun y => absurd hb (Nat.not_lt.mpr (ab b y))]
  refine ⟨.ref h'.objs.size, _, I1.un (t' := tk) (Un.fresh kp2 same big) ?_, rfl, q2⟩
  refine HOk.fresh2 I1.hok kp2 same fun b o hb e => ?_
  by_cases hl : b = h'.objs.size
  · subst hl
    rw [cK] at e
    cases e
    refine ⟨by rw [List.length_map, k3]; exact hn, as.map Value.ref, c, sR as, ?_⟩
    rw [← k5]
    exact k2
  · rw [bf hl] at e
    by_cases ha : b ∈ as
    · obtain ⟨i, hi⟩ := List.mem_iff_getElem?.mp ha
      obtain ⟨t', c', u', y1, y2⟩ := k4.pairs i b hi
      rw [qP as _ H1 0 i b c' nd hi (by simpa using y1), Nat.zero_add] at e
      cases e
      exact ⟨by change 2 ≤ sizeLine; decide, [.int (i : Int) t', .str ⟨#[c']⟩ u'], .cons ⟨_, rfl⟩ (.cons ⟨_, rfl⟩ .nil), ⟨_, y2, rfl, _, rfl⟩⟩
    · rw [lj as _ _ _ b ha, big b hb] at e
      cases e
end
end L2
namespace DL
open PySem PySem.Spec PyProof.Rows L2
noncomputable def jU : Nat → List Nat → List D
  | _, [] => []
  | j, c :: cs => .tup [.int (j : Int), .str ⟨#[c]⟩] :: jU (j + 1) cs
noncomputable def lE : D → Option DV
  | .str z => if z.cps.size ≤ sizeLine then some (.own (jU 0 z.cps.toList)) else none
  | _ => none
theorem rK {K : PySem.W.Frag} {Ω : Om} {σ : St} {δ : DSt} : ∀ (as : List Addr) (cs : List Nat) (H : Hp) (j : Nat), aE K H Ω σ δ → as.Nodup → (∀ a ∈ as, H a = none) → as.length = cs.length →
    Ext H Ω (eI H j as cs) Ω ∧ aE K (eI H j as cs) Ω σ δ ∧ aB K (eI H j as cs) Ω (jU j cs) (as.map V.ref)
  | [], [], H, j, R, _, _, _ => ⟨.refl, R, rfl⟩
  | [], _ :: _, _, _, _, _, _, h => by cases h
  | _ :: _, [], _, _, _, _, _, h => by cases h
  | a :: as, c :: cs, H, j, R, hn, hf, hl => by
    have ha : H a = none := hf a List.mem_cons_self
    obtain ⟨hn1, hn2⟩ := List.nodup_cons.mp hn
    obtain ⟨e1, e2, e3⟩ := rK as cs (upd H a (.tup [.int (j : Int), .str ⟨#[c]⟩])) (j + 1) (R.alloc ha) hn2 (fun b hb => by
      rw [bf (fun z => hn1 (by rw [← z]; exact hb))]
      exact hf b (List.mem_cons_of_mem _ hb)) (by simpa using hl)
    refine ⟨(Ext.alloc ha R.trk).trans e1, e2, .cons ?_ e3⟩
    have r0 : Rep K (upd H a (.tup [.int (j : Int), .str ⟨#[c]⟩])) Ω (.tup [.int (j : Int), .str ⟨#[c]⟩]) (.ref a) := (show ∃ b vs, _ from ⟨a, _, rfl, SqT.of cK, .cons rfl (.cons rfl .nil)⟩)
    exact Rep.ext e1 r0
section
variable {X : Cx} {E : Str → Hp → Prop} {e : Expr} {f : DM DV} {pos : Pos}
theorem boot_list : bootBuiltins "list" = some (.type "list") := by decide +kernel
theorem Cp {p1 p2 pos2 : Pos} (he : PED X E e f) (hc : X.calm = true) (hm : X.mg "list" = none) (hm2 : X.mg "enumerate" = none) (hg : Gl X "list" := by rfl) (hg2 : Gl X "enumerate" := by rfl)
    (hs2 : starEach [e] X.env = (false, eval e X.env) :: starEach [] X.env := by rfl) (hs : starEach [.Call (.Name "enumerate" p2) [e] [] pos2] X.env = (false, eval (.Call (.Name "enumerate" p2) [e] [] pos2) X.env) :: starEach [] X.env := by rfl)
    (hp2 : (backTo pos2 (starEach [] X.env)).any (·.1) = false := by rfl) (hp : (backTo pos (starEach [] X.env)).any (·.1) = false := by rfl) :
    PED X E (.Call (.Name "list" p1) [.Call (.Name "enumerate" p2) [e] [] pos2] [] pos) (fUn f lE) := by
  obtain ⟨t, q, d⟩ := he
  refine ⟨_, yX hc q hg hm hg2 hm2 boot_list hs2 hs hp2 hp, ?_⟩
  intro σ H δ Ω R Q h
  refine d.use R h fun a y δ1 H1 Ω1 _ s1 R1 r1 h1 => ?_
  (try dsimp only at h1)
  split at h1
  · rename_i dd hd
    split at h1
    · rename_i z hz
      unfold lE at hz
      split at hz
      · rename_i x
        split at hz
        · rename_i hx
          cases hz
          have hy : y = .str x := r1.res R1 hd
          refine ⟨x, hy, hx, fun l as e1 e2 e3 e4 e5 => ?_⟩
          obtain ⟨k1, k2, k3⟩ := rK as x.cps.toList H1 0 R1 e2 e5 (by rw [e1, Array.length_toList])
          refine Wg.alloc1 (Wg.ext h1 k1) k2 ?_ k3
          rw [lj as _ _ _ l e4]
          exact e3
        · cases hz
      · cases hz
    · exact h1.elim
  · exact h1.elim
end
theorem xa {z : Str} (h : z.cps.size ≤ sizeLine) : lE (.str z) = some (.own (jU 0 z.cps.toList)) := if_pos h
end DL
namespace DL
open PySem PySem.Spec PyProof.Rows L2
section
variable {K : PySem.W.Frag} {E : Str → Hp → Prop} {H H1 H2 H' : Hp} {Ω Ω1 Ω2 Ω' : Om} {σ : St} {δ : DSt} {mp : List Nat} {k : Nat} {S : List Addr}
end
section
variable {X : Cx} {E : Str → Hp → Prop} {pos : Pos} {e e1 : Expr} {f f1 : DM DV} {mp : List Nat}
end
section
variable {i : Nat} {δ δ1 δ2 : DSt} {fi : DM (List D)} {f1 f2 : DM DV}
end
end DL
namespace L2
open PySem PySem.Spec PyProof.Rows
section
variable {X : Cx}
end
end L2
namespace DL
open PySem PySem.Spec PyProof.Rows L2
section
variable {X : Cx} {E : Str → Hp → Prop} {e : Expr} {f : DM DV} {pos : Pos}
noncomputable def imax (i j : Int) : Int := if j > i then j else i
noncomputable def jX : List D → Option DV
  | [.int i, .int j] => some (.val (.int (imax i j)))
  | _ => none
theorem vC (hc : X.calm = true) : gn X (.builtin "max") jX := ⟨_, zI hc, by
  intro E σ H δ Ω vs ds z Q R r hz h
  unfold jX at hz
  split at hz
  · cases hz
    obtain ⟨v, v', e, rv, rv'⟩ := qH r
    cases (show v = .int _ from rv)
    cases (show v' = .int _ from rv')
    exact ⟨_, _, e, h.now R rfl⟩
  · cases hz⟩
end
end DL
namespace L2
open PySem PySem.Spec PyProof.Rows PySem.W
theorem cA.has {P : Program} {w : World} {H : Hp} {h : Heap} {a : Addr} {o : HO} (x : cA P w H h a o) : ∃ u, h.get? a = some u := by
  cases o with
  | lst xs => obtain ⟨_, _, _, _, e⟩ := x; exact ⟨_, e⟩
  | tup xs => obtain ⟨_, _, _, _, e, _⟩ := x; exact ⟨_, e⟩
  | dK kvs => obtain ⟨_, _, _, _, o, _, _, e, _⟩ := x; exact ⟨_, e⟩
  | dT kvs => obtain ⟨_, _, _, _, o, _, _, e, _⟩ := x; exact ⟨_, e⟩
  | set S n => obtain ⟨o, _, _, _, e, _⟩ := x; exact ⟨_, e⟩
  | ins C dx fs => obtain ⟨_, _, _, e, _⟩ := x; exact ⟨_, e⟩
  | own y => obtain ⟨_, e⟩ := x; exact ⟨_, e⟩
  | xd fs => obtain ⟨_, ⟨_, _, _, e, _⟩, _⟩ := x; exact ⟨_, e⟩
  | rng lo hi => obtain ⟨_, _, _, e⟩ := x; exact ⟨_, e⟩
  | frz ob u => obtain ⟨e, _⟩ := x; exact ⟨_, e⟩
  | tbl ps => exact ⟨_, (show h.get? a = some _ from x)⟩
  | met f y => exact ⟨_, (show h.get? a = some _ from x)⟩
  | ext φ => obtain ⟨_, ⟨_, e⟩, _⟩ := x; exact ⟨_, e⟩
theorem HOk.none_of {P : Program} {w : World} {H : Hp} {h : Heap} {a : Addr} (x : HOk P w H h) (e : h.get? a = none) : H a = none := by
  cases q : H a with
  | none => rfl
  | some u => obtain ⟨o, z⟩ := (x a u q).has; rw [e] at z; cases z
noncomputable def Tr (g : Heap) (H : Hp) (a : Addr) (cls : Value) (h : Heap) : Prop :=
  g.get? a = none ∧ H a = none ∧ ∃ a0 oe vs T oT ts, h.get? a = some oe ∧ (oe.cls = cls ∧ vs[0]? = some a0) ∧ oe.data = .fields vs ∧ vs[1]? = some (.ref T) ∧ g.get? T = none ∧ H T = none ∧ T ≠ a ∧ h.get? T = some oT ∧ oT.data = .fields ts ∧ ts[3]? = some .none
noncomputable def Fly (P : Program) (w : World) : CXT := fun outer H s E e s' => ∃ a cls H', e = .ref a ∧ s'.os = s.os ∧ AllBare s'.gens ∧ Un (frs outer) [] H H' s.heap s'.heap ∧ HOk P w H' s'.heap ∧ Tr s.heap H' a cls s'.heap ∧ E cls none H'
section
variable {P : Program} {w : World} {K : PySem.W.Frag} {mg : Str → Option Value} {base : Heap} {N : List Str} {qual : Str} {scope : Scope} {f : Addr} {cd : Value} {A : Around} {outer : List Env} {s₀ : Shared} {H₀ : Hp} {E₀ : XK}
  {pins : List (Addr × Obj)} {σ : St} {H : Hp} {s : Shared}
theorem mz {g h : Heap} {H H' : Hp} {fs : List Addr} {b : Addr} (u : Un fs [] H H' g h) (e : h.get? b = none) : g.get? b = none := by
  cases q : g.get? b with
  | none => rfl
  | some o => obtain ⟨o', z⟩ := u.there b o q (by simp); rw [e] at z; cases z
theorem pY (I : Inv (bU (Fly P w) P w K mg base N qual scope f cd A outer s₀ H₀ E₀) pins σ H s) {h' : Heap} {as : List Addr} {e : Addr} {cls a0 : Value} (ha : ∀ b ∈ as, s₀.heap.get? b = none ∧ H b = none) (he : e ∈ as)
    (L : Heap.LeftW (hideAll s.heap (as ++ frs (bU (Fly P w) P w K mg base N qual scope f cd A outer s₀ H₀ E₀).stack)) (bU (Fly P w) P w K mg base N qual scope f cd A outer s₀ H₀ E₀).stack e cls a0 s.heap h') (hE : E₀ cls none H) :
    Fly P w outer H₀ s₀ E₀ (.ref e) { s with heap := h' } := by
  obtain ⟨st, ff, tr, sl⟩ := L
  have hfr := I.stkFree
  have hsub : ∀ b ∈ frs outer, b ∈ frs (bU (Fly P w) P w K mg base N qual scope f cd A outer s₀ H₀ E₀).stack := fun b hb => by
    show b ∈ frs (envOfC qual scope s₀.heap.objs.size f cd :: outer)
    unfold frs at hb ⊢
    rw [List.filterMap_cons]
    exact List.mem_cons_of_mem _ hb
  have stay : ∀ b o, s.heap.get? b = some o → b ∉ as → b ∉ frs (bU (Fly P w) P w K mg base N qual scope f cd A outer s₀ H₀ E₀).stack → h'.get? b = some o := fun b o q n1 n2 =>
    st b o (hideAll_get _ q fun z => (List.mem_append.mp z).elim n1 n2)
  have old : ∀ b o, s₀.heap.get? b = some o → b ∉ as := fun b o q z => by rw [(ha b z).1] at q; cases q
  have notL : ∀ b o, s₀.heap.get? b = some o → b ∉ frs outer → b ∉ frs (bU (Fly P w) P w K mg base N qual scope f cd A outer s₀ H₀ E₀).stack := fun b o q n z => by
    have := I.stkSub b z
    rcases List.mem_cons.mp this with e' | e'
    · subst e'
      exact absurd (Heap.lt_size q) (Nat.not_lt.mpr I.ok.above)
    · exact n e'
  obtain ⟨oe, vs, T, oT, ts, t1, t2, t3, t4, t5, t6, t7, t8, t9⟩ := tr
  have hTf : T ∉ frs (bU (Fly P w) P w K mg base N qual scope f cd A outer s₀ H₀ E₀).stack := fun z => by
    obtain ⟨_, o, ho, hd⟩ := ff.mem z
    rw [t7] at ho
    cases ho
    exact hd _ t8
  have hT : s₀.heap.get? T = none ∧ H T = none := by
    by_cases hTa : T ∈ as
    · exact ha T hTa
    · have q : s.heap.get? T = none := by
        cases q : s.heap.get? T with
        | none => rfl
        | some o => rw [hideAll_get _ q (fun z => (List.mem_append.mp z).elim hTa hTf)] at t5; cases t5
      exact ⟨mz I.base q, I.hok.none_of q⟩
  refine ⟨e, cls, H, rfl, I.os, I.bare, ⟨fun b o q n hb _ => ?_, fun b o q n hb _ => ?_, fun b o q n _ => ?_, fun b o q _ => ?_, I.base.tups, I.base.frzs, I.base.tbls⟩, fun b o q => ?_, ⟨(ha e he).1, (ha e he).2, a0, oe, vs, T, oT, ts, t1, t2, t3, t4, hT.1, hT.2, t6, t7, t8, t9⟩, hE⟩
  · exact stay b o (I.base.keep b o q n hb (by exact List.not_mem_nil)) (old b o q) (notL b o q hb)
  · obtain ⟨s1, q1⟩ := I.base.slot b o q n hb (by exact List.not_mem_nil)
    obtain ⟨_, o2, q2, q3⟩ := I.stack.mem (hsub b hb)
    rw [q1] at q2
    cases q2
    obtain ⟨s2, q4⟩ := sl b _ q1 q3
    exact ⟨s2, q4⟩
  · exact I.base.free b o q n (by exact List.not_mem_nil)
  · obtain ⟨o1, q1⟩ := I.base.there b o q (by exact List.not_mem_nil)
    by_cases hb : b ∈ frs (bU (Fly P w) P w K mg base N qual scope f cd A outer s₀ H₀ E₀).stack
    · obtain ⟨_, o2, q2, _⟩ := ff.mem hb
      exact ⟨o2, q2⟩
    · exact ⟨o1, stay b o1 q1 (old b o q) hb⟩
  · refine (I.hok b o q).stay (fun c u hc hu => ?_) (fun _ z => z) fun _ _ z => z
    have hc' : H c ≠ none := by
      rcases hc with z | z
      · rw [z, q]; exact Option.some_ne_none _
      · rw [z]; exact Option.some_ne_none _
    exact stay c u hu (fun z => hc' (ha c z).2) fun z => hc' (hfr c z)
theorem wY (I : Inv (bU (Fly P w) P w K mg base N qual scope f cd A outer s₀ H₀ E₀) pins σ H s) {h' : Heap} {e : Addr} {cls : Value} {vs : List Value} (hx : Heap.MadeExcOf s.heap h' e cls vs) (hE : E₀ cls none H) :
    (bU (Fly P w) P w K mg base N qual scope f cd A outer s₀ H₀ E₀).xe (.ref e) { s with heap := h' } := by
  have J : Inv (bU (Fly P w) P w K mg base N qual scope f cd A outer s₀ H₀ E₀) pins σ H { s with heap := h' } := I.kept (t' := s.toks) hx.keeps
  obtain ⟨t, he, _, _⟩ := hx.there
  have hf : (envOfC qual scope s₀.heap.objs.size f cd).frame = some s₀.heap.objs.size := rfl
  refine wpAny_leaving_firstW (base := hideAll h' ([e] ++ frs (bU (Fly P w) P w K mg base N qual scope f cd A outer s₀ H₀ E₀).stack)) J.ok.frames (funFrames_hide J.stack fun env hm b hb => List.mem_append_right _ (List.mem_filterMap.mpr ⟨env, hm, hb⟩)) hf he (fun b o q => of_hideAll _ q)
    (hideAll_none _ (by simp)) rfl rfl rfl fun h'' L => ?_
  exact pY (as := [e]) J (fun b hb => by rw [List.mem_singleton.mp hb]; exact ⟨mz I.base hx.new, I.hok.none_of hx.new⟩) (by simp) L hE
theorem rX : Passes (Fly P w) (bU (Fly P w) P w K mg base N qual scope f cd A outer s₀ H₀ E₀) E₀ := by
  intro pins σ H s e s' I hq
  obtain ⟨a, cls, H', rfl, ho, hb, u, hok, ⟨f1, f2, a0, oe, vs, T, oT, ts, t1, t2, t3, t4, t5, t5', t6, t7, t8, t9⟩, hE'⟩ := hq
  have J : Inv (bU (Fly P w) P w K mg base N qual scope f cd A outer s₀ H₀ E₀) pins σ H' s' := I.call' (ch := []) ho u hok hb (fun b z => nomatch z)
  have hf : (envOfC qual scope s₀.heap.objs.size f cd).frame = some s₀.heap.objs.size := rfl
  have back : ∀ b, s.heap.get? b = none → s₀.heap.get? b = none := fun b q => mz I.base q
  refine wpAny_leaving_nextW (base := hideAll s'.heap ([a, T] ++ frs (bU (Fly P w) P w K mg base N qual scope f cd A outer s₀ H₀ E₀).stack)) J.ok.frames (funFrames_hide J.stack fun env hm b hb => List.mem_append_right _ (List.mem_filterMap.mpr ⟨env, hm, hb⟩)) hf
    ⟨oe, vs, T, oT, ts, t1, t2, t3, t4, hideAll_none _ (by simp), t6, t7, t8, t9⟩ (fun b o q => of_hideAll _ q) (hideAll_none _ (by simp)) fun h'' L => ?_
  refine pY (as := [a, T]) J (fun b hb => ?_) (by simp) L hE'
  rcases List.mem_cons.mp hb with z | z
  · rw [z]; exact ⟨back a f1, f2⟩
  · rw [List.mem_singleton.mp z]; exact ⟨back T t5, t5'⟩
end
noncomputable def Thr (X : Cx) (E : XK) : Prop := ∀ (pins : List (Addr × Obj)) (σ : St) (H : Hp) (s : Shared) (h' : Heap) (e : Addr) (cls : Value) (vs : List Value), Inv X pins σ H s → Heap.MadeExcOf s.heap h' e cls vs → E cls none H → X.xe (.ref e) { s with heap := h' }
theorem AF {P : Program} {w : World} {K : PySem.W.Frag} {mg : Str → Option Value} {base : Heap} {N : List Str} {qual : Str} {scope : Scope} {f : Addr} {cd : Value} {A : Around} {outer : List Env} {s₀ : Shared} {H₀ : Hp} {E₀ : XK} :
    Thr (bU (Fly P w) P w K mg base N qual scope f cd A outer s₀ H₀ E₀) E₀ := fun _ _ _ _ _ _ _ _ I hx hE => wY I hx hE
noncomputable abbrev bmV : List Value := [.type "ValueError", .type "Exception", .type "BaseException", .type "object"]
structure lL (K : PySem.W.Frag) (mg : Str → Option Value) (x : Str) (C : Addr) : Prop where
  g : mg x = some (.ref C)
  q : excIn K C bmV "ValueError.__new__" = true
theorem lL.own {K : PySem.W.Frag} {mg : Str → Option Value} {x : Str} {C : Addr} {h₀ : Heap} (c : lL K mg x C) (X : K.In h₀) : OwnCls x C bmV "ValueError.__new__" mg h₀ := by
  refine ⟨c.g, ?_⟩
  have q := c.q
  unfold excIn at q
  split at q
  · rename_i dd cd sl ho
    split at q
    · rename_i C' bm k0 k1 k2 k3 n k5 hm hs
      simp only [Bool.and_eq_true, beq_iff_eq, Bool.not_eq_true'] at q
      obtain ⟨⟨⟨⟨⟨rfl, rfl⟩, hdel⟩, ht⟩, hok⟩, hni⟩ := q
      obtain ⟨nm, bs, mro, ns, qn, hd, sn, sub, ab, col, del⟩ := cd
      dsimp only at hm hdel hok hni
      subst hm hdel
      have hsl : sl = #[k0, k1, k2, k3, some (.builtin "ValueError.__new__"), k5] := by
        obtain ⟨l⟩ := sl
        simp only at hs
        rw [hs]
      subst hsl
      exact ⟨bm, ns, nm, qn, bs, hd, sn, sub, ab, col, dd, k0, k1, k2, k3, k5, _, X _ _ ho, .of_isNs (isNs_of_in X hok), nsMap_none_of_in X hok hni, tail_of_in X ht⟩
    · cases q
  · cases q
noncomputable def AG (v : Value) (E : XK) (t : TA) : TS := fun _ σ H => t σ H fun vs H1 => vs.length ≤ sizeLine ∧ E v none H1
section
variable {X : Cx} {E : XK} {x : Str} {C : Addr} {np cpos pos : Pos} {e : Expr} {es : List Expr} {t : TA}
theorem xg (hT : Thr X E) (hc : X.calm = true) (c : lL X.K X.mg x C) (hg : Gl X x) (ha : PA X (e :: es) t) (hdb : (x == ("__debug__" : Str)) = false := by decide)
    (he : starEach (e :: es) X.env = (false, eval e X.env) :: starEach es X.env := by rfl) (hpl : (backTo cpos (starEach es X.env)).any (·.1) = false := by rfl) :
    PS X (.Raise (some (.Call (.Name x np) (e :: es) [] cpos)) none pos) (AG (.ref C) E t) := by
  intro pins s σ H D I h
  obtain ⟨tl, N, nm, q, bs, hdct, sn, sub, ab, col, dd, k0, k1, k2, k3, k5, mN, hC, hN, hni, T⟩ := (c.own I.ok.mod.kin).obj
  refine wpAny_Raise_call_subT (C := C) (nm := nm) (q := q) (N := N) (bs := bs) (bm := tl) (hdct := hdct) (sn := sn) (sub := sub) (ab := ab) (col := col) (dd := dd) (k0 := k0) (k1 := k1) (k2 := k2) (k3 := k3) (k5 := k5)
    PySem.F.excBase_ValueError (mN := mN) (T.hasType PySem.F.excBase_ValueError.hasBase) (I.ok.hd hc) (by rw [he]; show (false || (backTo cpos (starEach es X.env)).any (·.1)) = false; rw [hpl]; rfl) hni (ji I hg c.g ⟨rfl, ?_⟩ hdb)
  have h := ha cpos pins s σ H _ I h
  rw [he] at h ⊢
  exact Calls.evalArgs_plain (wpAny_mono h (fun us s₂ ⟨vs, H1, I1, r, hl, hE⟩ => ⟨rfl, by rw [← r.length]; exact hl, I1.bk _ _ hC, hN.keeps I1.bk, T.keeps I1.bk, fun h' e' hm => hT pins σ H1 s₂ h' e' _ _ I1 hm hE⟩) fun _ _ y => y)
end
end L2
namespace L2
open PySem PySem.Spec PyProof.Rows PySem.W
section
variable {X : Cx} {e : Expr} {es : List Expr} {R R' : St → Hp → Prop} {pos : Pos}
end
end L2
namespace L2
open PySem PySem.Spec PyProof.Rows PySem.W
section
variable {X : Cx} {pins : List (Addr × Obj)} {σ : St} {H H' : Hp} {s : Shared} {h' : Heap}
structure Off (X : Cx) (pins : List (Addr × Obj)) (b : Addr) : Prop where
  s0 : X.s₀.heap.get? b = none
  loc : b ≠ X.env.locals
  cell : ∀ x c, X.env.cells.lookup x = some c → c ≠ b
  pin : ∀ p ∈ X.pn ++ pins, p.1 ≠ b
theorem Off.of {b : Addr} (I : Inv X pins σ H s) (he : X.ex = []) (e : s.heap.get? b = none) : Off X pins b := by
  refine ⟨mz (he ▸ I.base) e, ?_, ?_, ?_⟩
  · rintro rfl
    obtain ⟨m, ⟨o, _, _, ho, _⟩, _⟩ := I.loc
    rw [e] at ho; cases ho
  · rintro x c hc rfl
    obtain ⟨v, o, ho, _⟩ := I.cell x c hc
    rw [e] at ho; cases ho
  · rintro p hp rfl
    have := (I.pin p hp).1
    rw [e] at this; cases this
theorem Inv.stepO {ch : List Addr} (I : Inv X pins σ H s) (hch : ∀ b ∈ ch, Off X pins b)
    (keep : ∀ b o, b ≠ X.env.locals → b ∉ X.fs → b ∉ ch → s.heap.get? b = some o → H b = none → h'.get? b = some o)
    (slot : ∀ b o, b ≠ X.env.locals → b ∈ X.fs → b ∉ ch → s.heap.get? b = some o → H b = none → ∃ sl, h'.get? b = some { o with slots := sl })
    (there : ∀ b o, b ∉ ch → s.heap.get? b = some o → ∃ o', h'.get? b = some o')
    (ns : ∀ m, s.heap.Ns X.env.locals m → h'.Ns X.env.locals m) (hok : HOk X.prog X.w H h') : Inv X pins σ H { s with heap := h' } := by
  have neL : ∀ b o, X.s₀.heap.get? b = some o → b ≠ X.env.locals := fun b o e => Nat.ne_of_lt (Nat.lt_of_lt_of_le (Heap.lt_size e) I.ok.above)
  have neC : ∀ b o, X.s₀.heap.get? b = some o → b ∉ ch := fun b o e hb => by rw [(hch b hb).s0] at e; cases e
  have cellK : ∀ x c, X.env.cells.lookup x = some c → ∀ v, s.heap.IsCell c v → h'.IsCell c v := fun x c e v ⟨o, ho, hd⟩ => by
    have nch : c ∉ ch := fun z => (hch c z).cell x c e rfl
    by_cases hc : c ∈ X.fs
    · obtain ⟨sl, q⟩ := slot c o (I.cne x c e) hc nch ho (I.freeC x c e)
      exact ⟨_, q, hd⟩
    · exact ⟨o, keep c o (I.cne x c e) hc nch ho (I.freeC x c e), hd⟩
  refine ⟨I.ok, I.os, I.bare, ⟨fun b o e n hb hx => ?_, fun b o e n hb hx => ?_, I.base.free, fun b o e hx => ?_, I.base.tups, I.base.frzs, I.base.tbls⟩, ?_, fun x c e => ?_, I.free, I.freeC, fun p hp => ?_, hok, I.len⟩
  · exact keep b o (neL b o e) hb (neC b o e) (I.base.keep b o e n hb hx) (I.base.free b o e n hx)
  · obtain ⟨sl, e1⟩ := I.base.slot b o e n hb hx
    obtain ⟨sl', e2⟩ := slot b _ (neL b o e) hb (neC b o e) e1 (I.base.free b o e n hx)
    exact ⟨sl', e2⟩
  · obtain ⟨o', e1⟩ := I.base.there b o e hx
    exact there b o' (neC b o e) e1
  · obtain ⟨m, hn, hl⟩ := I.loc
    refine ⟨m, ns m hn, fun i x v e1 e2 e3 => ?_⟩
    obtain ⟨u, r, l⟩ := hl i x v e1 e2 e3
    refine ⟨u, r, ?_⟩
    rcases l with l | ⟨k, c, e, z⟩
    · exact .inl l
    · exact .inr ⟨k, c, e, cellK x c e _ z⟩
  · obtain ⟨v, z⟩ := I.cell x c e
    exact ⟨v, cellK x c e v z⟩
  · obtain ⟨e, n, ne, nf, d⟩ := I.pin p hp
    have nch : p.1 ∉ ch := fun z => (hch p.1 z).pin p hp rfl
    exact ⟨keep p.1 p.2 ne nf nch e n, n, ne, nf, d⟩
theorem Inv.fsStk (I : Inv X pins σ H s) : ∀ b ∈ X.fs, b ∈ frs X.stack := fun b hb => by
  rcases I.ok.stk with e | ⟨e, _⟩
  · rw [e]; exact hb
  · rw [e]
    unfold frs
    rw [List.filterMap_cons]
    split
    · exact hb
    · exact List.mem_cons_of_mem _ hb
theorem Inv.flown (I : Inv X pins σ H s) {as : List Addr} (ha : ∀ b ∈ as, Off X pins b ∧ H b = none) (st : (hideAll s.heap (as ++ frs X.stack)).StaysIn h') (up : s.heap.UpToSlots h') : Inv X pins σ H { s with heap := h' } := by
  have stay : ∀ b o, s.heap.get? b = some o → b ∉ as → b ∉ frs X.stack → h'.get? b = some o := fun b o q n1 n2 => st b o (hideAll_get _ q fun z => (List.mem_append.mp z).elim n1 n2)
  have fr : ∀ b o, s.heap.get? b = some o → b ∈ frs X.stack → ∃ sl, h'.get? b = some { o with slots := sl } := fun b o q hb => by
    obtain ⟨_, o2, q2, q3⟩ := I.stack.mem hb
    rw [q] at q2
    cases q2
    exact up b o q q3
  refine I.stepO (ch := as) (fun b hb => (ha b hb).1) (fun b o n1 n2 n3 q _ => ?_) (fun b o _ hb _ q _ => fr b o q (I.fsStk b hb)) (fun b o n q => ?_) (fun m hm => up.ns hm) (fun b o q => ?_)
  · exact stay b o q n3 fun z => (List.mem_cons.mp (I.stkSub b z)).elim n1 n2
  · by_cases hb : b ∈ frs X.stack
    · obtain ⟨sl, z⟩ := fr b o q hb
      exact ⟨_, z⟩
    · exact ⟨o, stay b o q n hb⟩
  · refine (I.hok b o q).stay (fun c u hc hu => ?_) (fun _ z => z) fun _ _ z => z
    have hc' : H c ≠ none := by
      rcases hc with z | z
      · rw [z, q]; exact Option.some_ne_none _
      · rw [z]; exact Option.some_ne_none _
    exact stay c u hu (fun z => hc' (ha c z).2) fun z => hc' (I.stkFree c z)
theorem Inv.track {a : Addr} {o : HO} (I : Inv X pins σ H s) (ha : Off X pins a) (hn : H a = none) (hfs : a ∉ X.fs) (ok : cA X.prog X.w (upd H a o) s.heap a o) : Inv X pins σ (upd H a o) s := by
  have ne : ∀ b, b ≠ a → upd H a o b = H b := fun b hb => bf hb
  refine ⟨I.ok, I.os, I.bare, ⟨I.base.keep, I.base.slot, fun b u q n hx => ?_, I.base.there, fun b xs q => ?_, fun b u xs q => ?_, fun b ps q => ?_⟩, I.loc, I.cell, ?_, fun x c e => ?_, fun p hp => ?_, fun b u q => ?_, I.len⟩
  · rw [ne b (by rintro rfl; rw [ha.s0] at q; cases q)]; exact I.base.free b u q n hx
  · have := I.base.tups b xs q
    rw [ne b (cn this hn)]; exact this
  · have := I.base.frzs b u xs q
    rw [ne b (cn this hn)]; exact this
  · obtain ⟨more, z⟩ := I.base.tbls b ps q
    exact ⟨more, by rw [ne b (cn z hn)]; exact z⟩
  · rw [ne _ (Ne.symm ha.loc)]; exact I.free
  · rw [ne _ (ha.cell x c e)]; exact I.freeC x c e
  · obtain ⟨e1, n, e3, e4, e5⟩ := I.pin p hp
    exact ⟨e1, by rw [ne _ (ha.pin p hp)]; exact n, e3, e4, e5⟩
  · by_cases hb : b = a
    · subst hb
      rw [cK] at q
      cases q
      exact ok
    · rw [ne b hb] at q
      exact (I.hok b u q).stay (fun _ _ _ z => z) (fun c z => by rw [ne c (cn z hn)]; exact z) fun c xs z => by rw [ne c (cn z hn)]; exact z
theorem mX {M : Model} {A : Around} {E : Value → Shared → Prop} {i : Nat} {x : Str} {pos : Pos} {Q : Unit → Shared → Prop} (I : Inv X pins σ H s) (hN : X.N.Nodup) (hi : X.N[i]? = some x) (hk : X.env.scope.names.lookup x = some .local)
    (h : ∀ s', Inv X pins (σ.set i none) H s' → Q () s') : wpAny M A (do bindName X.env x .none; unbindBehindTheSuite X.env x pos) Q E s := by
  obtain ⟨m, hn, hl⟩ := id I.loc
  have hcls : (X.env.scope.kind == .class || (X.env.scope.kind == .module && X.env.locals != X.env.globals)) = false := by rw [I.ok.kind]; rfl
  have hiσ : i < σ.length := by rw [I.len]; exact (List.getElem?_eq_some_iff.mp hi).1
  have cne := I.cne
  obtain ⟨oL, _, _, hoL, _⟩ := id hn
  refine wpAny_nameGoes_keeps hk hn hcls fun h' v hn' hs => ?_
  have hok : HOk X.prog X.w H h' := fun b ob e => by
    refine (I.hok b ob e).stay (fun c w' hc q => (hs.2 c ?_).trans q) (fun _ q => q) fun _ _ q => q
    rintro rfl
    rcases hc with rfl | hc
    · rw [I.free] at e; cases e
    · rw [I.free] at hc; cases hc
  refine h { s with heap := h', toks := s.toks + 1 } ⟨I.ok, I.os, I.bare, ⟨fun b o e n hb hx => ?_, fun b o e n hb hx => ?_, I.base.free, fun b o e hx => ?_, I.base.tups, I.base.frzs, I.base.tbls⟩, ⟨_, hn', fun j y v' e1 e2 e3 => ?_⟩, fun y c e => ?_, I.free, I.freeC, fun p hp => ?_, hok, by simpa using I.len⟩
  · exact (hs.2 b (Nat.ne_of_lt (Nat.lt_of_lt_of_le (Heap.lt_size e) I.ok.above))).trans (I.base.keep b o e n hb hx)
  · obtain ⟨sl, e1⟩ := I.base.slot b o e n hb hx
    exact ⟨sl, (hs.2 b (Nat.ne_of_lt (Nat.lt_of_lt_of_le (Heap.lt_size e) I.ok.above))).trans e1⟩
  · obtain ⟨o', e1⟩ := I.base.there b o e hx
    exact ⟨o', (hs.2 b (Nat.ne_of_lt (Nat.lt_of_lt_of_le (Heap.lt_size e) I.ok.above))).trans e1⟩
  · by_cases hj : j = i
    · subst hj
      rw [List.getElem?_set_self hiσ] at e2
      cases e2
    · rw [List.getElem?_set_ne (Ne.symm hj)] at e2
      obtain ⟨u', r', q⟩ := hl j y v' e1 e2 e3
      refine ⟨u', r', ?_⟩
      rcases q with ⟨k, e⟩ | ⟨k, c, e, z⟩
      · refine .inl ⟨k, ?_⟩
        have : y ≠ x := fun e => hj (oG hN e1 (e ▸ hi))
        simp [this, e]
      · exact .inr ⟨k, c, e, z.sameBut hs (cne y c e)⟩
  · obtain ⟨w', z⟩ := I.cell y c e
    exact ⟨w', z.sameBut hs (cne y c e)⟩
  · obtain ⟨e, n, ne, nf, d⟩ := I.pin p hp
    exact ⟨(hs.2 p.1 ne).trans e, n, ne, nf, d⟩
noncomputable def dD (X : Cx) (pins : List (Addr × Obj)) (H : Hp) (a : Addr) (cls : Value) (h : Heap) : Prop :=
  (Off X pins a ∧ H a = none) ∧ ∃ a0 oe vs T oT ts, h.get? a = some oe ∧ (oe.cls = cls ∧ vs[0]? = some a0) ∧ oe.data = .fields vs ∧ vs[1]? = some (.ref T) ∧ (Off X pins T ∧ H T = none) ∧ T ≠ a ∧ h.get? T = some oT ∧ oT.data = .fields ts ∧ ts[3]? = some .none
noncomputable def PEX (X : Cx) (e : Expr) (t : St → Hp → VK → XK → Prop) : Prop := ∀ (pins : List (Addr × Obj)) (s : Shared) (σ : St) (H : Hp) (Q : VK) (E : XK) (G : Value → Shared → Prop), Inv X pins σ H s → t σ H Q E →
  (∀ a cls H' s', Inv X pins σ H' s' → dD X pins H' a cls s'.heap → E cls none H' → G (.ref a) s') → wpAny (model X.prog X.w) X.A (eval e X.env) (EP X pins σ Q) G s
theorem PA.any {es : List Expr} {t : TA} (h : PA X.nox es t) {pos : Pos} {Q : List V → Hp → Prop} {G : Value → Shared → Prop} (I : Inv X pins σ H s) (hw : t σ H Q) : wpAny (model X.prog X.w) X.A (spliced (backTo pos (starEach es X.env))) (AP X pins σ Q) G s :=
  wpAny_mono (h pos pins s σ H Q (I.wish _) hw) (fun _ _ ⟨vs, H', I', r, q⟩ => ⟨vs, H', I'.unwish, r, q⟩) fun _ _ z => False.elim z
theorem zu {k : Nat} {f : Addr} {fd : FuncData} {ps : List Str} {sp : Sp} {ds : List Value} {dvs : List V} {x : Str} {p pos : Pos} {e : Expr} {es : List Expr} {t : TA} (F : aW X.prog X.w X.K X.mg X.base (Fly X.prog X.w) k f fd ps sp) (hr : bN k X.A) (hex : X.ex = []) (hg : Gl X x) (hm : X.mg x = some (.ref f)) (hk : PySem.W.keepIn X.K (.ref f) = true)
    (hb : Binds X.K fd ps ds) (hd : Vals dvs ds) (ha : PA X.nox (e :: es) t) (hdb : (x == ("__debug__" : Str)) = false := by decide) (he : starEach (e :: es) X.env = (false, eval e X.env) :: starEach es X.env := by rfl) (hpl : (backTo pos (starEach es X.env)).any (·.1) = false := by rfl) :
    PEX X (.Call (.Name x p) (e :: es) [] pos) (fun σ H Q E => t σ H fun vs H1 => sp (vs ++ dvs) H1 Q E) := by
  intro pins s σ H Q E G I h hG
  refine wpAny_Call_Name_kw (ji I hg hm ?_ hdb)
  refine PySem.W.callWith_K (h₀ := X.base) I.ok.mod.kin hk (thn (PA.any (pos := pos) ha I h) fun us s1 ⟨vs, H1, I1, r, q⟩ => ⟨I1.kIn, ?_⟩) he hpl
  have r2 : Vals (vs ++ dvs) (us ++ ds) := r.append hd
  have hl : (us ++ ds).length = ps.length := by rw [← r2.length]; exact F.len _ _ _ _ q
  refine wpAny_call (codeAny_mono (F.run X.A X.stack s1 H1 ⟨us, []⟩ (us ++ ds) (vs ++ dvs) Q E hr I1.env0 (hb s1 us I1.kIn hl) r2 q) fun r s' hq => ?_)
  cases r with
  | error e =>
    obtain ⟨a, cls, H', rfl, ho, hb', u, hok, ⟨f1, f2, a0, oe, vs, T, oT, ts, t1, t2, t3, t4, t5, t5', t6, t7, t8, t9⟩, hE⟩ := hq
    have J : Inv X pins σ H' s' := I1.call' (ch := []) ho u hok hb' (fun b z => nomatch z)
    exact hG a cls H' s' J ⟨⟨.of I1 hex f1, f2⟩, a0, oe, vs, T, oT, ts, t1, t2, t3, t4, ⟨.of I1 hex t5, t5'⟩, t6, t7, t8, t9⟩ hE
  | ok fl =>
    cases fl with
    | ret u => exact I1.after hq
    | next => exact False.elim hq
    | brk => exact False.elim hq
    | cont => exact False.elim hq
noncomputable abbrev gJ (X : Cx) (a : Addr) : Cx := { X with A := X.A.mark (some (.ref a)), calm := false, xe := fun _ _ => False }
theorem Inv.hand (I : Inv X pins σ H s) (a : Addr) : Inv (gJ X a) pins σ H s :=
  ⟨⟨I.ok.mod, I.ok.kind, I.ok.glob, I.ok.blt, I.ok.above, I.ok.inj, I.ok.has, I.ok.cab, (fun z => by cases z), I.ok.frames, I.ok.stk, I.ok.exf, I.ok.bs, I.ok.bsz, I.ok.noex, I.ok.exfs, I.ok.funs, I.ok.frf⟩, I.os, I.bare, I.base, I.loc, I.cell, I.free, I.freeC, I.pin, I.hok, I.len⟩
theorem Inv.unhand {a : Addr} (ok : X.Ok) (I : Inv (gJ X a) pins σ H s) : Inv X pins σ H s := ⟨ok, I.os, I.bare, I.base, I.loc, I.cell, I.free, I.freeC, I.pin, I.hok, I.len⟩
theorem CV {P : Program} {w : World} {C a : Addr} {H : Hp} {h : Heap} {o : Obj} (e : h.get? a = some o) (hc : o.cls = .ref C) : cA P w H h a (.ext (dR C a)) :=
  ⟨⟨o, e, hc⟩, ⟨o, e⟩, fun h1 h2 ⟨o1, q1, q2⟩ k => ⟨o1, k o1 q1, q2⟩⟩
theorem dD.fly {a : Addr} {cls : Value} (I : Inv X pins σ H s) (h : dD X pins H a cls s.heap) : ∃ a0 T, (Off X pins T ∧ H T = none) ∧ Heap.FlyingW (hideAll s.heap ([a, T] ++ frs X.stack)) X.stack a cls a0 s.heap := by
  obtain ⟨_, a0, oe, vs, T, oT, ts, t1, t2, t3, t4, t5, t6, t7, t8, t9⟩ := h
  exact ⟨a0, T, t5, fun b o q => of_hideAll _ q, hideAll_none _ (by simp), funFrames_hide I.stack fun env hm b hb => List.mem_append_right _ (List.mem_filterMap.mpr ⟨env, hm, hb⟩), oe, vs, T, oT, ts, t1, t2, t3, t4, hideAll_none _ (by simp), t6, t7, t8, t9⟩
theorem dD.flown {a T : Addr} {cls a0 : Value} (I : Inv X pins σ H s) (ha : Off X pins a ∧ H a = none) (hT : Off X pins T ∧ H T = none) (hf : Heap.FlyingW (hideAll s.heap ([a, T] ++ frs X.stack)) X.stack a cls a0 h') (up : s.heap.UpToSlots h') (hex : X.ex = []) :
    Inv X pins σ H { s with heap := h' } ∧ dD X pins H a cls h' := by
  have J : Inv X pins σ H { s with heap := h' } := I.flown (as := [a, T]) (fun b hb => by
    rcases List.mem_cons.mp hb with z | z
    · rw [z]; exact ha
    · rw [List.mem_singleton.mp z]; exact hT) hf.1 up
  refine ⟨J, ha, ?_⟩
  obtain ⟨_, _, ff, oe, vs, T', oT, ts, t1, t2, t3, t4, t5, t6, t7, t8, t9⟩ := hf
  refine ⟨a0, oe, vs, T', oT, ts, t1, t2, t3, t4, ?_, t6, t7, t8, t9⟩
  have hTf : T' ∉ frs X.stack := fun z => by
    obtain ⟨_, o, ho, hd⟩ := ff.mem z
    rw [t7] at ho
    cases ho
    exact hd _ t8
  by_cases hz : T' ∈ [a, T]
  · rcases List.mem_cons.mp hz with z | z
    · rw [z]; exact ha
    · rw [List.mem_singleton.mp z]; exact hT
  · have q : s.heap.get? T' = none := by
      cases q : s.heap.get? T' with
      | none => rfl
      | some o => rw [hideAll_get _ q (fun z => (List.mem_append.mp z).elim hz hTf)] at t5; cases t5
    exact ⟨.of I hex q, I.hok.none_of q⟩
theorem dD.ty {M : Model} {a : Addr} {cls : Value} {h : Heap} (x : dD X pins H a cls h) : Looks M h (typeOf (.ref a)) cls := by
  obtain ⟨_, a0, oe, vs, T, oT, ts, t1, t2, _⟩ := x
  obtain ⟨rfl, _⟩ := t2
  exact (Looks.ld t1).andThen .now
theorem CJ {a D : Addr} {cls : Value} {x : Str} {np pos : Pos} {name : Option Str} {b₀ : Stmt} {suite : List Stmt} {rest : List ExceptHandler} {Q : Flow → Shared → Prop} (I : Inv X pins σ H s) (h : dD X pins H a cls s.heap) (hg : Gl X x) (hm : X.mg x = some (.ref D)) (hx : exmOne X.K cls (.ref D) = some false)
    (k : wpAny (model X.prog X.w) X.A (handleBy (.ref a) X.env rest) Q X.xe s) (hdb : (x == ("__debug__" : Str)) = false := by decide) :
    wpAny (model X.prog X.w) X.A (handleBy (.ref a) X.env (.ExceptHandler (some (.Name x np)) name (b₀ :: suite) pos :: rest)) Q X.xe s := by
  refine wpAny_handleBy_cons (codeAny_handlers_test (ji (X := gJ X a) (I.hand a) hg hm ?_ hdb)) (by intro q; cases q)
  exact exm_one (I.hand a).kIn h.ty hx _ _ _ s (fun _ _ e => e) k
noncomputable abbrev nP (i : Nat) (B : Ends) : Ends := { nx := fun σ H => B.nx (σ.set i none) H, rt := B.rt, bk := fun σ H => B.bk (σ.set i none) H, ct := fun σ H => B.ct (σ.set i none) H }
theorem wy {a C D : Addr} {i : Nat} {n x : Str} {np pos : Pos} {b₀ : Stmt} {suite : List Stmt} {rest : List ExceptHandler} {B : Ends} {t : TS} (I : Inv X pins σ H s) (h : dD X pins H a (.ref C) s.heap) (hex : X.ex = []) (hfs : a ∉ X.fs) (hg : Gl X x) (hm : X.mg x = some (.ref D)) (hx : exmOne X.K (.ref C) (.ref D) = some true)
    (hN : X.N.Nodup) (hi : X.N[i]? = some n) (hk : X.env.scope.names.lookup n = some .local) (hs : PSs (gJ X a) (b₀ :: suite) t) (ht : t (nP i B) (σ.set i (some (.ref a))) (upd H a (.ext (dR C a)))) (hdb : (x == ("__debug__" : Str)) = false := by decide) :
    wpAny (model X.prog X.w) X.A (handleBy (.ref a) X.env (.ExceptHandler (some (.Name x np)) (some n) (b₀ :: suite) pos :: rest)) (SP X pins B) X.xe s := by
  refine wpAny_handleBy_cons (codeAny_handlers_test (ji (X := gJ X a) (I.hand a) hg hm ?_ hdb)) (by intro q; cases q)
  refine exm_one (I.hand a).kIn h.ty hx _ _ _ s (fun _ _ e => e) (codeAny_handlers_suite_as ?_)
  obtain ⟨a0, T, hT, hf⟩ := h.fly I
  refine lands_againW hf fun h6 hf6 up => ?_
  obtain ⟨J, hJ⟩ := dD.flown I h.1 hT hf6 up hex
  obtain ⟨oe, ws, hoe, hoec, _, _⟩ := hf6.first
  have J2 := J.track h.1.1 h.1.2 hfs (CV hoe hoec)
  refine n6 (X := gJ X a) (v := .ref a) (J2.hand a) hN hi (.inl hk) rfl (fun s7 J7 => ?_) (.inr hk)
  refine wpAny_mono (hs pins _ _ _ (nP i B) J7 ht) (fun f s4 q => ?_) fun _ _ z => z.elim
  cases f with
  | next => obtain ⟨σ', H', I', q⟩ := q; exact mX (I'.unhand I.ok) hN hi hk fun s' I2 => ⟨_, H', I2, q⟩
  | brk => obtain ⟨σ', H', I', q⟩ := q; exact mX (I'.unhand I.ok) hN hi hk fun s' I2 => ⟨_, H', I2, q⟩
  | cont => obtain ⟨σ', H', I', q⟩ := q; exact mX (I'.unhand I.ok) hN hi hk fun s' I2 => ⟨_, H', I2, q⟩
  | ret u => obtain ⟨v, σ', H', I', r, q⟩ := q; exact mX (I'.unhand I.ok) hN hi hk fun s' I2 => ⟨v, _, H', I2, r, q⟩
theorem wt {a : Addr} {cls : Value} {hs : List ExceptHandler} {Q : Flow → Shared → Prop} (I : Inv X pins σ H s) (h : dD X pins H a cls s.heap) (hex : X.ex = []) (hstk : X.stack = X.env :: X.outer) (hfr : X.env.frame = some X.env.locals)
    (k : ∀ s', Inv X pins σ H s' → dD X pins H a cls s'.heap → wpAny (model X.prog X.w) X.A (handleBy (.ref a) X.env hs) Q X.xe s') :
    wpAny (model X.prog X.w) X.A (noteFrame (.ref a) X.env) (fun _ s₂ => wpAny (model X.prog X.w) X.A (setFlight (.ref a) none) (fun _ s₃ => wpAny (model X.prog X.w) X.A (handleBy (.ref a) X.env hs) Q X.xe s₃) X.xe s₂) X.xe s := by
  obtain ⟨a0, T, hT, hf⟩ := h.fly I
  rw [hstk] at hf
  refine wpAny_looks_onW (by rw [← hstk]; exact I.ok.frames) hfr hf fun h4 hh4 up4 => ?_
  refine wpAny_landsW hh4 fun h5 hf5 up5 => ?_
  rw [← hstk] at hf5
  obtain ⟨J, hJ⟩ := dD.flown I h.1 hT hf5 (up4.trans up5) hex
  exact k _ J hJ
end
end L2
namespace L2
open PySem PySem.Spec PyProof.Rows PySem.W
section
variable {X : Cx} {pins : List (Addr × Obj)} {σ : St} {H H' : Hp} {s : Shared} {pos : Pos} {e : Expr} {es : List Expr}
theorem Off.nfs {a : Addr} (I : Inv X pins σ H s) (h : Off X pins a) : a ∉ X.fs := fun z => by
  obtain ⟨_, o, ho, _⟩ := I.ok.funs.mem z
  rw [h.s0] at ho; cases ho
noncomputable abbrev TX := St → Hp → VK → XK → Prop
noncomputable abbrev HDt := Value → Ends → St → Hp → Prop
noncomputable def HD (X : Cx) (hs : List ExceptHandler) (hd : HDt) : Prop := ∀ (pins : List (Addr × Obj)) (s : Shared) (σ : St) (H : Hp) (B : Ends) (a : Addr) (cls : Value), Inv X pins σ H s → dD X pins H a cls s.heap → hd cls B σ H → wpAny (model X.prog X.w) X.A (handleBy (.ref a) X.env hs) (SP X pins B) X.xe s
theorem Ag : HD X [] (fun _ _ _ _ => False) := fun _ _ _ _ _ _ _ _ _ h => h.elim
theorem Cg {D : Addr} {i : Nat} {n x : Str} {np hpos : Pos} {b₀ : Stmt} {suite : List Stmt} {rest : List ExceptHandler} {t : Addr → TS} {hd : HDt} (hex : X.ex = []) (hN : X.N.Nodup) (hi : X.N[i]? = some n) (hk : X.env.scope.names.lookup n = some .local) (hg : Gl X x) (hm : X.mg x = some (.ref D)) (hs : ∀ a, PSs (gJ X a) (b₀ :: suite) (t a)) (hr : HD X rest hd)
    (hdb : (x == ("__debug__" : Str)) = false := by decide) :
    HD X (.ExceptHandler (some (.Name x np)) (some n) (b₀ :: suite) hpos :: rest) (fun cls B σ H => (∃ C, cls = .ref C ∧ exmOne X.K cls (.ref D) = some true ∧ ∀ a, H a = none → t a (nP i B) (σ.set i (some (.ref a))) (upd H a (.ext (dR C a)))) ∨ (exmOne X.K cls (.ref D) = some false ∧ hd cls B σ H)) := by
  intro pins s σ H B a cls I hf h
  rcases h with ⟨C, rfl, hx, ht⟩ | ⟨hx, h⟩
  · exact wy I hf hex (hf.1.1.nfs I) hg hm hx hN hi hk (hs a) (ht a hf.1.2) hdb
  · exact CJ I hf hg hm hx (hr pins s σ H B a cls I hf h) hdb
theorem CC {t : TX} {tr : TS} {hd : HDt} {rest : List Stmt} {p1 : Pos} {h₀ : ExceptHandler} {hs : List ExceptHandler} (hex : X.ex = []) (hstk : X.stack = X.env :: X.outer) (hfr : X.env.frame = some X.env.locals) (he : PEX X e t) (hr : PSs X.nox rest tr) (hh : HD X (h₀ :: hs) hd)
    (hsw : swapsWith e none p1.line X.env = pure false := by rfl) : PS X (.Try (.Expr e p1 :: rest) (h₀ :: hs) [] [] pos) (fun B σ H => t σ H (fun _ H1 => tr B σ H1) (fun cls _ H' => hd cls B σ H')) := by
  intro pins s σ H B I h
  refine wpAny_Try_except (wpAny_execs_cons (wpAny_Expr_any (thn (he pins s σ H _ _ _ I h fun a cls H' s' J hfl hE => ?_) fun v s1 ⟨x, H1, I1, r1, q1⟩ => ?_) I.quiet hsw))
  · exact wt J hfl hex hstk hfr fun s'' J'' hfl'' => hh pins s'' σ H' B a cls J'' hfl'' hE
  · refine wpAny_mono (hr pins s1 σ H1 B (I1.wish _) q1) (fun f s2 q => ?_) fun _ _ z => z.elim
    have q := q.unwish
    cases f with
    | next => exact wpAny_execs_nil q
    | brk => exact q
    | cont => exact q
    | ret u => exact q
end
end L2
namespace L2
open PySem PySem.Spec PyProof.Rows PySem.W PySem.Builtin PySem.Builtin.ObjectAttr PySem.Builtin.Getset_descriptor
noncomputable def mQ (K : Frag) (C : Addr) : Bool := (clsIn K C).isSome && findIn K (.ref C) "__getattribute__" == some (some (.builtin "BaseException.__getattribute__")) && findIn K (.ref C) "__getattr__" == some none && findIn K (.ref C) "__class__" == some (some (.builtin "object.__class__"))
  && specialIn K (.builtin "object.__class__") "__get__" == some (some (.builtin "getset_descriptor.__get__")) && mroIn K C (.type "object") == some true && mroIn K C (.type "BaseException") == some true
structure fX (K : Frag) (C : Addr) : Prop where
  cl : (clsIn K C).isSome = true
  ga : findIn K (.ref C) "__getattribute__" = some (some (.builtin "BaseException.__getattribute__"))
  gt : findIn K (.ref C) "__getattr__" = some none
  ca : findIn K (.ref C) "__class__" = some (some (.builtin "object.__class__"))
  gs : specialIn K (.builtin "object.__class__") "__get__" = some (some (.builtin "getset_descriptor.__get__"))
  ob : mroIn K C (.type "object") = some true
  be : mroIn K C (.type "BaseException") = some true
theorem fX.of {K : Frag} {C : Addr} (h : mQ K C = true) : fX K C := by
  unfold mQ at h
  simp only [Bool.and_eq_true, beq_iff_eq] at h
  obtain ⟨⟨⟨⟨⟨⟨h1, h2⟩, h3⟩, h4⟩, h5⟩, h6⟩, h7⟩ := h
  exact ⟨h1, h2, h3, h4, h5, h6, h7⟩
section
variable {prog : Program} {w : World} {A : Around} {E : Value → Shared → Prop} {h : Heap} {g : Array GenState} {d : Drawn} {t : Nat} {os : OsState} {K : Frag} {a C : Addr}
theorem dR.ty {M : Model} (p : dR C a h) : Looks M h (typeOf (.ref a)) (.ref C) := by
  obtain ⟨o, h1, h2⟩ := p
  exact h2 ▸ (Looks.ld h1).andThen .now
theorem wG {tp : Value} {R : Result → Shared → Prop} (X : K.In h) (p : dR C a h) (k : fX K C) (hR : R (.ok (.ret (.ref C))) ⟨h, g, d, t, os⟩) :
    codeAny (model prog w) A (.call (.builtin "getset_descriptor.__get__") ⟨[.builtin "object.__class__", .ref a, tp], []⟩) R ⟨h, g, d, t, os⟩ := by
  have q0 := p.ty (M := model prog w)
  have q1 := looks_mroIn (M := model prog w) X k.ob
  apply codeAny_call_builtin KF.slot_gs.plain KF.entry_gs
  refine KF.slot_gs.check _ _ _ _ _ _ _ _ KF.type_class (KF.args_gs _ _ _) ?_
  (unfold Builtin.«getset_descriptor.__get__» descrGet; rw [dga_obj]; refine wpAny_bind (wpAny_pure ?_))
  (unfold descrGetter descrCheckInstance; unfold descrNameAndClass isInstance; simp only [KF.owner_class]; repeat lk)
  constructor
  · exact Code.quiet_builtin _ (by decide +kernel)
  apply codeAny_builtin KF.entry_class
  (unfold Builtin.«object.__class__»; unfold shownTypeOf; repeat lk)
  exact hR
theorem Aa {tk : Tok} {Q : Fin → Shared → Prop} (X : K.In h) (p : dR C a h) (k : fX K C) (hq : Q (.done (.ret (.ref C))) ⟨h, g, d, t, os⟩) :
    wpAny (model prog w) A (Builtin.«object.__getattribute__» ⟨[.ref a, .str "__class__" tk], []⟩) Q E ⟨h, g, d, t, os⟩ := by
  have q0 := p.ty (M := model prog w)
  have q1 := looks_findIn (M := model prog w) X k.ca
  have q2 := looks_specialIn (M := model prog w) X k.gs
  unfold Builtin.«object.__getattribute__»
  repeat (any_goals (first | assumption | (with_reducible refine wpAny_call (wG X p k ?_)) | lk | wp_step))
theorem AD {tk : Tok} {R : Result → Shared → Prop} (X : K.In h) (p : dR C a h) (k : fX K C) (hq : R (.ok (.ret (.ref C))) ⟨h, g, d, t, os⟩) :
    codeAny (model prog w) A (.call (.builtin "BaseException.__getattribute__") ⟨[.ref a, .str "__class__" tk], []⟩) R ⟨h, g, d, t, os⟩ := by
  refine codeAny_call_builtin PySem.F.attr_ValueError.ga.plain PySem.F.entry_bexc_ga ?_
  have z1 : builtinKind "BaseException.__getattribute__" = some .slot := by decide +kernel
  have z2 : splitId "BaseException.__getattribute__" = some ("BaseException", "__getattribute__") := by decide +kernel
  have q0 := p.ty (M := model prog w)
  have q1 := looks_mroIn (M := model prog w) X k.be
  have z3 := PySem.F.args_bexc_ga (.ref a) (.str "__class__" tk)
  simp only [checkBuiltinCall, z1, z2]
  refine wpAny_bind ?_
  unfold isInstance
  repeat (any_goals (first | assumption | (with_reducible refine Aa X p k ?_) | lk | wp_step))
theorem Bp {Q : Option Value → Shared → Prop} (X : K.In h) (p : dR C a h) (k : fX K C) (hq : Q (some (.ref C)) ⟨h, g, d, t + 1, os⟩) : wpAny (model prog w) A (getAttr? (.ref a) "__class__") Q E ⟨h, g, d, t, os⟩ := by
  have q0 := p.ty (M := model prog w)
  have q1 := looks_findIn (M := model prog w) X k.ga
  have q2 := looks_findIn (M := model prog w) X k.gt
  have z3 := PySem.F.attr_ValueError.ga.bind (.ref a)
  have z2 : (Value.builtin "BaseException.__getattribute__" == Value.builtin "object.__getattribute__") = false := by decide +kernel
  have z1 : (onTheHeap (Value.ref C) && Value.builtin "BaseException.__getattribute__" == Value.builtin "object.__getattribute__") = false := by rw [z2]; rfl
  unfold getAttr? getAttrBy? getAttrBy
  refine wpAny_bind (wpAny_mkText (wpAny_bind (wpAny_attempt (wpAny_holding (wpAny_bind (q0.at (wpAny_bind (q1.at ?_))))))))
  repeat (any_goals (first | assumption | (with_reducible refine wpAny_attempt ?_) | (with_reducible refine wpAny_call ?_) | (with_reducible refine wpAny_runValue ?_) | (with_reducible refine wpAny_run ?_) | lk | wp_step))
  show codeAny _ _ (.call (.builtin "BaseException.__getattribute__") ⟨[.ref a, .str "__class__" t], []⟩) _ _
  refine AD X p k ?_
  repeat (any_goals (first | assumption | lk | wp_step))
theorem CF (k : fX K C) : KitX K (.ref a) (.ref C) (dR C a) where
  ty := fun _ _ _ p => p.ty
  it := fun M h X _ => by
    obtain ⟨cd, hc⟩ := Option.isSome_iff_exists.mp k.cl
    unfold clsIn at hc
    split at hc
    · rename_i ho
      intro A' Q' E' s' kk q
      unfold isType loadHead
      exact wpAny_bind (wpAny_loadPart (kk _ _ (X _ _ ho)) (wpAny_pure q))
    · cases hc
  ne := fun h tp dd its n sl X htp => by
    obtain ⟨cd, hc⟩ := Option.isSome_iff_exists.mp k.cl
    refine Bool.eq_false_iff.mpr fun q => ?_
    obtain rfl : C = tp := Value.ref.inj (beq_iff_eq.mp q)
    unfold clsIn at hc
    split at hc
    · rename_i ho
      cases (X _ _ ho).symm.trans htp
    · cases hc
  ca := fun {_ _ _ _ _ s} X p q => by
    obtain ⟨h, g, d, t, os⟩ := s
    exact Bp X p k q
end
section
variable {X : Cx}
theorem Dh : eA X (.builtin "isinstance") (fun xs H Q => ∃ a C c cv b, xs = [.ref a, c] ∧ H a = some (.ext (dR C a)) ∧ fX X.K C ∧ (∀ u, RelV c u → u = cv) ∧ kitOne X.K (.ref C) cv = some b ∧ Q (.bl b) H) := by
  intro pins s σ H xs us Q I r h
  obtain ⟨a, C, c, cv, b, rfl, ha, k, hc, e, q⟩ := h
  obtain ⟨u, v, rfl, ru, rv⟩ := vals2 r
  cases (show u = Value.ref a from ru)
  cases hc v rv
  have p : dR C a s.heap := (I.hok a _ ha).1
  exact kia_one (CF k) I.kIn p e (fun z => nomatch z) fun tk => ⟨.bl b, H, I.tok tk, rfl, q⟩
end
end L2
namespace DL
open PySem PySem.Spec PyProof.Rows L2
noncomputable def dQ (mg : Str → Option Value) (c : Str) : Value := (mg c).getD .none
noncomputable abbrev EX (mg : Str → Option Value) (E0 : XK) : Str → Hp → Prop := fun c H' => E0 (dQ mg c) none H'
theorem mx {body : DM Fl} {n : Nat} {ds : List D} {c : Str} : bA body n ds ≠ .er c := by unfold bA; split <;> simp
noncomputable def dU (body : DM Fl) (n : Nat) (ds : List D) : Ro := match body (ds.map .sh ++ List.replicate (n - ds.length) .no) with
  | .ok (.rt d) _ => .ok d
  | .ok (.rto es) _ => .own es
  | .ok .nx _ => .ok .non
  | .er c => .er c
  | _ => .un
section
variable {P : Program} {w : World} {K : PySem.W.Frag} {mg : Str → Option Value} {base : Heap} {H : Hp} {Ω : Om}
theorem fnX {x qual : Str} {st : Stmt} {f : Addr} {fd : FuncData} {N ps : List Str} {k : Nat} {body : DM Fl} (F : Fun K x qual st f fd) (S : bu N ps (aM st))
    (hb : ∀ (cdv : Value) (A : Around) (outer : List Env) (s : Shared) (H : Hp) (E : XK), bN k (A.deeper (envOfC qual (aM st) s.heap.objs.size f cdv)) →
      dW (bU (Fly P w) P w K mg base N qual (aM st) f cdv A outer s H E) (EX mg E) [] (bt st) body) : aW P w K mg base (Fly P w) (k + 1) f fd ps (spP K (dQ mg) ps.length (dU body N.length)) := by
  obtain ⟨oc, od, kV, doc, pm, an, cdv, ct, osl, rfl, lk, hcd⟩ := F.ex
  refine tm lk hcd S (fun vs H Q E h => h.1) (fun A outer s H vs Q E hr h => ?_)
  obtain ⟨ts, p, d⟩ := hb cdv A outer s H E hr
  refine ⟨ts, p, ?_⟩
  obtain ⟨hl, Ω, ds, ht, h0, hr, hq⟩ := h
  refine d (L2.start N vs) H _ Ω (aE.start hr ht) _ ?_
  unfold dU at hq
  cases e : body (ds.map .sh ++ List.replicate (N.length - ds.length) .no) with
  | un => rw [e] at hq; exact hq
  | er c => rw [e] at hq; exact hq
  | ok fl δ' =>
    rw [e] at hq
    cases fl with
    | nx => exact fun H' Ω' ex σ' R' _ => hq H' Ω' ex R'.trk .non rfl
    | bk => exact hq.elim
    | ct => exact hq.elim
    | rt d => exact fun H' Ω' ex σ' R' _ v r => hq H' Ω' ex R'.trk v r
    | rto es => exact fun H' Ω' ex σ' R' _ v r => hq H' Ω' ex R'.trk v r
end
section
variable {X : Cx} {E : Str → Hp → Prop} {E0 : XK} {pos : Pos} {e : Expr} {mp : List Nat}
structure eB (P : Program) (w : World) (K : PySem.W.Frag) (mg : Str → Option Value) (base : Heap) (k : Nat) (x : Str) (n : Nat) (M : List D → Ro) : Prop where
  ex : ∃ (f : Addr) (fd : FuncData) (ps : List Str), aW P w K mg base (Fly P w) k f fd ps (spP K (dQ mg) n M) ∧ mg x = some (.ref f) ∧ PySem.W.keepIn K (.ref f) = true ∧ Binds K fd ps []
theorem tF {k n : Nat} {x : Str} {M : List D → Ro} {p : Pos} {es : List Expr} {r : DM (List DV)} (F : eB X.prog X.w X.K X.mg X.base k x n M) (hp : Passes (Fly X.prog X.w) X E0) (hr : bN k X.A) (ha : PAD X (EX X.mg E0) (e :: es) r) (hg : Gl X x := by rfl)
    (hdb : (x == ("__debug__" : Str)) = false := by decide) (he : starEach (e :: es) X.env = (false, eval e X.env) :: starEach es X.env := by rfl) (hpl : (backTo pos (starEach es X.env)).any (·.1) = false := by rfl) :
    PED X (EX X.mg E0) (.Call (.Name x p) (e :: es) [] pos) (aD n r M) := by
  obtain ⟨fa, fd, ps, F, hm, kp, b⟩ := F.ex
  obtain ⟨t, q, d⟩ := ha
  exact ⟨_, jh F hr hg hm kp b .nil hp q hdb he hpl, pD (fun _ _ z => z) d⟩
theorem pW {k n : Nat} {x : Str} {M : List D → Ro} {p : Pos} {es : List Expr} {r : DM (List DV)} (F : eB X.prog X.w X.K X.mg X.base k x n M) (hr : bN k X.A) (ha : PAD X EN (e :: es) r) (hg : Gl X x := by rfl)
    (hdb : (x == ("__debug__" : Str)) = false := by decide) (he : starEach (e :: es) X.env = (false, eval e X.env) :: starEach es X.env := by rfl) (hpl : (backTo pos (starEach es X.env)).any (·.1) = false := by rfl) :
    PED X EN (.Call (.Name x p) (e :: es) [] pos) (aD n r M) := by
  obtain ⟨fa, fd, ps, F, hm, kp, b⟩ := F.ex
  obtain ⟨t, q, d⟩ := ha
  exact ⟨_, jh (E := fun _ _ _ => False) F hr hg hm kp b .nil (fun _ _ _ _ _ _ _ h => by obtain ⟨_, _, _, _, _, _, _, _, _, hE⟩ := h; exact hE.elim) q hdb he hpl, pD (fun _ _ z => z.elim) d⟩
theorem Cd {K : PySem.W.Frag} {ce : Str → Value} {n : Nat} {M : List D → Ro} {Ex : XK} {t : TA} {fa : DM (List DV)} (hM : ∀ ds c, M ds ≠ .er c) (ha : DA K E t fa) : DE K E (nB (spP K ce n M) [] Ex t) (aD n fa M) := by
  intro σ H δ Ω R Q h
  refine ha.use R h fun as vs δ1 H1 Ω1 _ s1 R1 r1 h1 => ?_
  (try dsimp only at h1)
  cases q1 : cw as with
  | none => rw [q1] at h1; exact h1.elim
  | some ds =>
    rw [q1] at h1
    dsimp only at h1
    split at h1
    · rename_i hn
      have r := r1.vals q1
      show spP K ce n M (vs ++ []) H1 Q Ex
      rw [List.append_nil]
      refine ⟨by rw [← r.length]; exact hn, under Ω1, ds, jP R1.trk, mJ, r.less fun b q => fB q, ?_⟩
      cases q3 : M ds with
      | un => rw [q3] at h1; exact h1
      | er c => exact absurd q3 (hM ds c)
      | ok d => rw [q3] at h1; exact fun H' Ω' e' t' v rv => h1 H' _ e'.back (R1.back e' t') v (Rep.less fD rv)
      | own es =>
        rw [q3] at h1
        intro H' Ω' e' t' v ⟨a, ws, z1, z2, z3, z4⟩
        exact h1 H' _ e'.back (R1.back e' t') v ⟨a, ws, z1, z2, kH z3, z4.less fD⟩
    · exact h1.elim
theorem nc {k n : Nat} {x : Str} {M : List D → Ro} {p : Pos} {es : List Expr} {r : DM (List DV)} (F : aR X.prog X.w X.K X.mg X.base k x n M) (hM : ∀ ds c, M ds ≠ .er c) (hr : bN k X.A) (ha : PAD X E (e :: es) r) (hg : Gl X x := by rfl)
    (hdb : (x == ("__debug__" : Str)) = false := by decide) (he : starEach (e :: es) X.env = (false, eval e X.env) :: starEach es X.env := by rfl) (hpl : (backTo pos (starEach es X.env)).any (·.1) = false := by rfl) :
    PED X E (.Call (.Name x p) (e :: es) [] pos) (aD n r M) := by
  obtain ⟨fa, fd, ps, F, hm, kp, b⟩ := F.ex
  obtain ⟨t, q, d⟩ := ha
  exact ⟨_, jh F hr hg hm kp b .nil mf q hdb he hpl, Cd hM d⟩
noncomputable def lq (c : Str) (ok : DSt → Bool) : DM Fl := fun δ => if ok δ then .er c else .un
noncomputable abbrev A9 (R : St → Hp → Prop) : TE := fun σ H Q => R σ H ∧ ∀ x : Str, x.length ≤ 2000000 → Q (.str x) H
noncomputable def PMD (X : Cx) (e : Expr) (ok : DSt → Bool) : Prop := ∃ R, PE X e (A9 R) ∧ ∀ {H Ω σ δ}, aE X.K H Ω σ δ → ok δ = true → R σ H
theorem By {x : Str} {C : Addr} {np cpos : Pos} {ok : DSt → Bool} (hT : Thr X E0) (hc : X.calm = true) (c : lL X.K X.mg x C) (hm : PMD X e ok) (hg : Gl X x := by rfl) (hdb : (x == ("__debug__" : Str)) = false := by decide)
    (he : starEach [e] X.env = (false, eval e X.env) :: starEach [] X.env := by rfl) (hpl : (backTo cpos (starEach [] X.env)).any (·.1) = false := by rfl) :
    PSD X (EX X.mg E0) mp (.Raise (some (.Call (.Name x np) [e] [] cpos)) none pos) (lq x ok) := by
  obtain ⟨R, p, hR⟩ := hm
  refine ⟨_, xg hT hc c hg (fA p ic he) hdb he hpl, fun σ H δ Ω r B h => ?_⟩
  unfold lq at h
  split at h
  · rename_i hok
    have h1 : E0 (dQ X.mg x) none H := h H Ω .refl r.trk
    have h2 : dQ X.mg x = .ref C := by unfold dQ; rw [c.g]; rfl
    rw [h2] at h1
    exact ⟨hR r hok, fun y hy => ⟨by show 1 ≤ sizeLine; decide, h1⟩⟩
  · exact h.elim
theorem v5 {x : Str} {j} (h : x.length ≤ 2000000 := by decide +kernel) : PMD X (.Constant (.str x) j pos) (fun _ => true) :=
  ⟨fun _ _ => True, fun pins s σ H Q I hq => vq (X := X) pins s σ H Q I (hq.2 x h), fun _ _ => trivial⟩
section
variable {x : Str} {p : Pos} {i : Nat}
end
end
end DL
namespace DL
open PySem PySem.Spec PyProof.Rows L2
noncomputable abbrev PXv (K : PySem.W.Frag) (mg : Str → Option Value) (σ : St) (Q : VK) (Ex : XK) : Sum Str DV → DSt → Hp → Om → Prop := fun r δ' H' Ω' => match r with
  | .inl c => aE K H' Ω' σ δ' → Ex (dQ mg c) none H'
  | .inr a => PV K σ Q a δ' H' Ω'
noncomputable def DXE (K : PySem.W.Frag) (mg : Str → Option Value) (t : TX) (fx : DM (Sum Str DV)) : Prop := ∀ σ H δ Ω, aE K H Ω σ δ → ∀ (Q : VK) (Ex : XK), Wg EN H Ω (PXv K mg σ Q Ex) (fx δ) → t σ H Q Ex
noncomputable def PXE (X : Cx) (e : Expr) (fx : DM (Sum Str DV)) : Prop := ∃ t, PEX X e t ∧ DXE X.K X.mg t fx
noncomputable def gO (n : Nat) (fa : DM (List DV)) (M : List D → Ro) : DM (Sum Str DV) := fa.bd fun as δ => match cw as with
  | none => .un
  | some ds => if ds.length = n then (match M ds with
    | .un => .un
    | .er c => .ok (.inl c) δ
    | .ok d => .ok (.inr (.val d)) δ
    | .own es => .ok (.inr (.own es)) δ) else .un
section
variable {X : Cx} {pos : Pos} {e : Expr} {mp : List Nat} {K : PySem.W.Frag} {mg : Str → Option Value} {H : Hp} {Ω : Om} {σ : St} {δ : DSt}
theorem wW {n : Nat} {M : List D → Ro} {t : TA} {fa : DM (List DV)} (ha : DA K EN t fa) : DXE K mg (fun σ H Q E => t σ H fun vs H1 => spP K (dQ mg) n M (vs ++ []) H1 Q E) (gO n fa M) := by
  intro σ H δ Ω R Q Ex h
  refine ha.use R h fun as vs δ1 H1 Ω1 _ s1 R1 r1 h1 => ?_
  (try dsimp only at h1)
  cases q1 : cw as with
  | none => rw [q1] at h1; exact h1.elim
  | some ds =>
    rw [q1] at h1
    dsimp only at h1
    split at h1
    · rename_i hn
      have r := r1.vals q1
      rw [List.append_nil]
      refine ⟨by rw [← r.length]; exact hn, under Ω1, ds, jP R1.trk, mJ, r.less fun b q => fB q, ?_⟩
      cases q3 : M ds with
      | un => rw [q3] at h1; exact h1
      | er c => rw [q3] at h1; exact fun H' Ω' e' t' => h1 H' _ e'.back (R1.back e' t')
      | ok d => rw [q3] at h1; exact fun H' Ω' e' t' v rv => h1 H' _ e'.back (R1.back e' t') v (Rep.less fD rv)
      | own es =>
        rw [q3] at h1
        intro H' Ω' e' t' v ⟨a, ws, z1, z2, z3, z4⟩
        exact h1 H' _ e'.back (R1.back e' t') v ⟨a, ws, z1, z2, kH z3, z4.less fD⟩
    · exact h1.elim
theorem ud {k n : Nat} {x : Str} {M : List D → Ro} {p : Pos} {es : List Expr} {r : DM (List DV)} (F : eB X.prog X.w X.K X.mg X.base k x n M) (hr : bN k X.A) (ha : PAD X.nox EN (e :: es) r) (hex : X.ex = [] := by rfl) (hg : Gl X x := by rfl)
    (hdb : (x == ("__debug__" : Str)) = false := by decide) (he : starEach (e :: es) X.env = (false, eval e X.env) :: starEach es X.env := by rfl) (hpl : (backTo pos (starEach es X.env)).any (·.1) = false := by rfl) :
    PXE X (.Call (.Name x p) (e :: es) [] pos) (gO n r M) := by
  obtain ⟨fa, fd, ps, F, hm, kp, b⟩ := F.ex
  obtain ⟨t, q, d⟩ := ha
  exact ⟨_, zu F hr hex hg hm kp b .nil q hdb he hpl, wW d⟩
noncomputable def HDD (X : Cx) (mp : List Nat) (hs : List ExceptHandler) (h : Str → DM Fl) : Prop := ∃ hd, HD X hs hd ∧ ∀ c σ H δ Ω B, aE X.K H Ω σ δ → Wg EN H Ω (PF X.K mp σ B) (h c δ) → hd (dQ X.mg c) B σ H
theorem uc : HDD X mp [] (fun _ _ => .un) := ⟨_, Ag, fun _ _ _ _ _ _ _ h => h⟩
noncomputable def iu (K : PySem.W.Frag) (mg : Str → Option Value) (D : Value) (tab : Str → Option Bool) : Prop := ∀ c b, tab c = some b → ∃ C, mg c = some (.ref C) ∧ PySem.W.nsIn K mainGlobals c = some (some (.ref C)) ∧ PySem.W.exmOne K (.ref C) D = some b
noncomputable def kG (i : Nat) : Rs Fl → Rs Fl
  | .ok fl δ => .ok fl (δ.set i .no)
  | r => r
theorem aE.drop {i : Nat} (R : aE K H Ω σ δ) : aE K H Ω (σ.set i none) (δ.set i .no) := by
  refine ⟨by rw [List.length_set, List.length_set]; exact R.len, fun j s h => ?_, R.trk⟩
  by_cases hj : i = j
  · subst hj
    have hl : i < δ.length := by
      have := (List.getElem?_eq_some_iff.mp h).1
      rwa [List.length_set] at this
    rw [List.getElem?_set_self hl] at h
    cases h
    trivial
  · rw [List.getElem?_set_ne hj] at h
    rw [List.getElem?_set_ne hj]
    exact R.sl j s h
theorem tW (i : Nat) {D : Addr} {n x : Str} {np hpos : Pos} {b₀ : Stmt} {suite : List Stmt} {rest : List ExceptHandler} {fb : DM Fl} {h : Str → DM Fl} {tab : Str → Option Bool} (ht : iu X.K X.mg (.ref D) tab) (hm : X.mg x = some (.ref D)) (hN : X.N.Nodup)
    (hs : ∀ a, dW (gJ X a) EN mp (b₀ :: suite) fb) (hr : HDD X mp rest h) (hmp : i ∉ mp := by decide) (hex : X.ex = [] := by rfl) (hi : X.N[i]? = some n := by rfl) (hk : X.env.scope.names.lookup n = some .local := by rfl) (hg : Gl X x := by rfl) (hdb : (x == ("__debug__" : Str)) = false := by decide) :
    HDD X mp (.ExceptHandler (some (.Name x np)) (some n) (b₀ :: suite) hpos :: rest) (fun c => match tab c with | some true => fun δ => kG i (fb (δ.set i (.sh (.exc c)))) | some false => h c | none => fun _ => .un) := by
  obtain ⟨hd, p, q⟩ := hr
  refine ⟨_, Cg hex hN hi hk hg hm (fun a => (hs a).choose_spec.1) p hdb, fun c σ H δ Ω B R w => ?_⟩
  dsimp only at w
  cases e : tab c with
  | none => rw [e] at w; exact w.elim
  | some b =>
    obtain ⟨C, m1, m2, m3⟩ := ht c b e
    have hc : dQ X.mg c = .ref C := by unfold dQ; rw [m1]; rfl
    rw [e] at w
    cases b with
    | false => exact .inr ⟨by rw [hc]; exact m3, q c σ H δ Ω B R w⟩
    | true =>
      refine .inl ⟨C, hc, by rw [hc]; exact m3, fun a ha => ?_⟩
      refine (hs a).choose_spec.2 (σ.set i (some (.ref a))) _ (δ.set i (.sh (.exc c))) Ω ((R.alloc ha).set ⟨.ref a, rfl, (show ∃ a C, _ from ⟨a, C, rfl, m2, cK⟩)⟩) _ ?_
      have ex : Ext H Ω (upd H a (.ext (dR C a))) Ω := .alloc ha R.trk
      have w : Wg EN H Ω (PF X.K mp σ B) (kG i (fb (δ.set i (.sh (.exc c))))) := w
      cases e2 : fb (δ.set i (.sh (.exc c))) with
      | un => rw [e2] at w; exact w
      | er c' => rw [e2] at w; exact fun H' Ω' x t => w H' Ω' (ex.trans x) t
      | ok fl δ2 =>
        rw [e2] at w
        intro H2 Ω2 x2 σ2 R2 m2'
        have z := w H2 Ω2 (ex.trans x2) (σ2.set i none) R2.drop fun j hj => by
          have hne : i ≠ j := by rintro rfl; exact hmp hj
          rw [List.getElem?_set_ne hne, m2' j hj, List.getElem?_set_ne hne]
        cases fl with
        | nx => exact z
        | bk => exact z
        | ct => exact z
        | rt d => exact z
        | rto ds => exact z
noncomputable def iT (fx : DM (Sum Str DV)) (fr : DM Fl) (h : Str → DM Fl) : DM Fl := fx.bd fun r => match r with
  | .inl c => h c
  | .inr _ => fr
theorem qZ {rest : List Stmt} {p1 : Pos} {h₀ : ExceptHandler} {hs : List ExceptHandler} {fx : DM (Sum Str DV)} {fr : DM Fl} {h : Str → DM Fl} (he : PXE X e fx) (hr : dW X.nox EN mp rest fr) (hh : HDD X mp (h₀ :: hs) h) (hex : X.ex = [] := by rfl) (hstk : X.stack = X.env :: X.outer := by rfl)
    (hfr : X.env.frame = some X.env.locals := by rfl) (hsw : swapsWith e none p1.line X.env = pure false := by rfl) : PSD X EN mp (.Try (.Expr e p1 :: rest) (h₀ :: hs) [] [] pos) (iT fx fr h) := by
  obtain ⟨t, p, d⟩ := he
  obtain ⟨tr, pr, dr⟩ := hr
  obtain ⟨hd, ph, dh⟩ := hh
  refine ⟨_, CC hex hstk hfr p pr ph hsw, fun σ H δ Ω R B w => ?_⟩
  refine d σ H δ Ω R _ _ (Wg.bd w fun r δ1 H1 Ω1 ex w1 => ?_)
  cases r with
  | inl c => exact fun R1 => dh c σ H1 δ1 Ω1 B R1 w1
  | inr a => exact fun R1 v _ => dr σ H1 δ1 Ω1 R1 B w1
noncomputable def dw (tab : Str → Option Bool) : D → Option DV
  | .exc c => (tab c).map fun b => .val (.bl b)
  | _ => none
noncomputable def fZ (K : PySem.W.Frag) (D : Value) (tab : Str → Option Bool) : Prop := ∀ c b, tab c = some b → ∃ C, PySem.W.nsIn K mainGlobals c = some (some (.ref C)) ∧ fX K C ∧ PySem.W.kitOne K (.ref C) D = some b
theorem ib {E : Str → Hp → Prop} {f : DM DV} {x : Str} {p p2 : Pos} {v : V} {u : Value} {tab : Str → Option Bool} (ht : fZ X.K u tab) (hv : ∀ z, RelV v z → z = u) (hx : PE X (.Name x p2) (tC v)) (hm : X.mg "isinstance" = none) (ha : PED X E e f) (hg : Gl X "isinstance" := by rfl)
    (hs : starEach [e, .Name x p2] X.env = (false, eval e X.env) :: starEach [.Name x p2] X.env := by rfl) (hs2 : starEach [.Name x p2] X.env = (false, eval (.Name x p2) X.env) :: starEach [] X.env := by rfl)
    (hpl : (backTo pos (starEach [.Name x p2] X.env)).any (·.1) = false := by rfl) :
    PED X E (.Call (.Name "isinstance" p) [e, .Name x p2] [] pos) (fUn f (dw tab)) := by
  obtain ⟨t, q, d⟩ := ha
  refine ⟨_, pq Dh hg hm boot_isinstance (fA q (fA hx ic hs2) hs) (by decide) (by decide) hs hpl, ?_⟩
  intro σ H δ Ω R Q h
  refine d.use R h fun a1 y δ1 H1 Ω1 _ s1 R1 r1 h1 => ?_
  (try dsimp only at h1)
  cases q1 : res δ1 a1 with
  | none => rw [q1] at h1; exact h1.elim
  | some d1 =>
    rw [q1] at h1
    (try dsimp only at h1)
    cases d1 with
    | exc c =>
      cases q3 : tab c with
      | none => unfold dw at h1; dsimp only at h1; rw [q3] at h1; exact h1.elim
      | some bb =>
        unfold dw at h1
        dsimp only at h1
        rw [q3] at h1
        obtain ⟨C, n1, n2, n3⟩ := ht c bb q3
        obtain ⟨a, C', z1, z2, z3⟩ := (show ∃ a C, _ from r1.res R1 q1)
        subst z1
        rw [n1] at z2
        cases z2
        exact ⟨a, C, v, u, bb, rfl, z3, n2, hv, n3, Wg.now (d := .val (.bl bb)) h1 R1 rfl⟩
    | _ => exact h1.elim
end
end DL
namespace DL
open PySem PySem.Spec PyProof.Rows L2
section
variable {δ δ1 δ2 : DSt} {d : D} {ds es : List D} {i n : Nat} {c : Str} {as : List DV} {fa r : DM (List DV)} {f g : DM DV} {body S S1 : DM Fl} {a : DV}
theorem sP (h : body (ds.map .sh ++ List.replicate (n - ds.length) .no) = .ok (.rt d) δ1) : dU body n ds = .ok d := by unfold dU; rw [h]
theorem qE (h : body (ds.map .sh ++ List.replicate (n - ds.length) .no) = .ok (.rto es) δ1) : dU body n ds = .own es := by unfold dU; rw [h]
theorem nQ (h : body (ds.map .sh ++ List.replicate (n - ds.length) .no) = .er c) : dU body n ds = .er c := by unfold dU; rw [h]
theorem zY {ok : DSt → Bool} (h : ok δ = true) : lq c ok δ = .er c := by unfold lq; rw [h]; rfl
theorem tX (h : S δ = .er c) : ak S S1 δ = .er c := by unfold ak; rw [h]
theorem vA {M : List D → Ro} (h : fa δ = .ok as δ1) (e : cw as = some ds) (hn : ds.length = n) (hM : M ds = .er c) : aD n fa M δ = .er c := by unfold aD DM.bd; simp only [h, e, hn, if_true, hM]
theorem zg {M : List D → Ro} (h : fa δ = .ok as δ1) (e : cw as = some ds) (hn : ds.length = n) (hM : M ds = .er c) : gO n fa M δ = .ok (.inl c) δ1 := by unfold gO DM.bd; simp only [h, e, hn, if_true, hM]
theorem CG {fx : DM (Sum Str DV)} {fr : DM Fl} {h : Str → DM Fl} {R : Rs Fl} (hx : fx δ = .ok (.inl c) δ1) (hh : h c δ1 = R) : iT fx fr h δ = R := by unfold iT DM.bd; simp only [hx]; exact hh
end
section
variable {K : PySem.W.Frag} {mg : Str → Option Value} {V : Value} {k : Str} {v : Bool} {C : Addr} {l : List (Str × Bool)}
theorem uW {c : Str} {b : Bool} (h : ((k, v) :: l).lookup c = some b) : (c = k ∧ v = b) ∨ l.lookup c = some b := by
  rw [List.lookup_cons] at h
  split at h
  · rename_i z
    exact .inl ⟨beq_iff_eq.mp z, Option.some.inj h⟩
  · exact .inr h
theorem mV : iu K mg V (fun c => ([] : List (Str × Bool)).lookup c) := fun _ _ h => by cases h
theorem mr (h1 : mg k = some (.ref C)) (h2 : PySem.W.nsIn K mainGlobals k = some (some (.ref C))) (h3 : PySem.W.exmOne K (.ref C) V = some v) (h : iu K mg V (fun c => l.lookup c)) : iu K mg V (fun c => ((k, v) :: l).lookup c) := fun c b q => by
  rcases uW q with ⟨rfl, rfl⟩ | z
  · exact ⟨C, h1, h2, h3⟩
  · exact h c b z
theorem lB : fZ K V (fun c => ([] : List (Str × Bool)).lookup c) := fun _ _ h => by cases h
theorem lb (h2 : PySem.W.nsIn K mainGlobals k = some (some (.ref C))) (hk : mQ K C = true) (h3 : PySem.W.kitOne K (.ref C) V = some v) (h : fZ K V (fun c => l.lookup c)) : fZ K V (fun c => ((k, v) :: l).lookup c) := fun c b q => by
  rcases uW q with ⟨rfl, rfl⟩ | z
  · exact ⟨C, h2, .of hk, h3⟩
  · exact h c b z
end
section
variable {X : Cx} {E : Str → Hp → Prop} {pos : Pos} {e : Expr}
theorem Cb {k n : Nat} {is : List Nat} {x : Str} {M : List D → List (List D) → Rn} {p : Pos} {es : List Expr} {r : DM (List DV)} (F : jD X.prog X.w X.K X.mg X.base k x n is M) (hr : bN k X.A) (ha : PAD X E (e :: es) r) (hg : Gl X x := by rfl)
    (hdb : (x == ("__debug__" : Str)) = false := by decide) (he : starEach (e :: es) X.env = (false, eval e X.env) :: starEach es X.env := by rfl) (hpl : (backTo pos (starEach es X.env)).any (·.1) = false := by rfl) :
    PED X E (.Call (.Name x p) (e :: es) [] pos) (gD n is r M) := by
  obtain ⟨fa, fd, ps, F, hm, kp, b⟩ := F.ex
  obtain ⟨t, q, d⟩ := ha
  exact ⟨_, jh F hr hg hm kp b .nil mf q hdb he hpl, sV d⟩
end
end DL
namespace Lw
open PySem L2 DL PyProof.Rows
noncomputable abbrev pf : D := .int 2
noncomputable abbrev pj : D := .int 4
noncomputable abbrev ue : D := .int 16
noncomputable def eZ : List (Str × Int) := [("k", 1), ("p", 1), ("t", 1), ("s", 1), ("l", 2), ("r", 2), ("o", 0)]
noncomputable def top (i : Nat) : Stmt := PySem.Challenge.pw_loopbed_k16_unfit.main.body.getD i (.Pass ⟨0, 0, 0, 0⟩)
theorem rQ : bootBuiltins "ValueError" = some (.type "ValueError") := by decide +kernel
theorem xh : bootBuiltins "any" = some (.builtin "any") := by decide +kernel
theorem dk : bootBuiltins "len" = some (.builtin "len") := by decide +kernel
theorem iW : bootBuiltins "list" = some (.type "list") := by decide +kernel
theorem rH : bootBuiltins "max" = some (.builtin "max") := by decide +kernel
theorem nz : bootBuiltins "min" = some (.builtin "min") := by decide +kernel
theorem oQ : bootBuiltins "sum" = some (.builtin "sum") := by decide +kernel
theorem uB : bootBuiltins "tuple" = some (.type "tuple") := by decide +kernel
noncomputable def lC : Str → Option Bool := fun c => ([("Unfit", false)] : List (Str × Bool)).lookup c
noncomputable def kY : Str → Option Bool := fun c => ([("Unfit", true)] : List (Str × Bool)).lookup c
noncomputable def lp : Str → Option Bool := fun c => ([("Unfit", false)] : List (Str × Bool)).lookup c
noncomputable def lQ : Str → Option Bool := fun c => ([("Unfit", true)] : List (Str × Bool)).lookup c
noncomputable def mW : Str → Option Bool := fun c => ([("Unfit", true)] : List (Str × Bool)).lookup c
structure Txt (K : PySem.W.Frag) (mg : Str → Option Value) : Prop where
  b_ValueError : mg "ValueError" = none
  b_any : mg "any" = none
  b_enumerate : mg "enumerate" = none
  b_isinstance : mg "isinstance" = none
  b_len : mg "len" = none
  b_list : mg "list" = none
  b_max : mg "max" = none
  b_min : mg "min" = none
  b_range : mg "range" = none
  b_reversed : mg "reversed" = none
  b_sum : mg "sum" = none
  b_tuple : mg "tuple" = none
  g_FARTHEST : lR K mg "FARTHEST" pf
  g_MOST_LOOPS : lR K mg "MOST_LOOPS" pj
  g_MOST_WIDE : lR K mg "MOST_WIDE" ue
  g_TAKES : pM K mg "TAKES" eZ
  e_Unfit : ∃ C, lL K mg "Unfit" C
  h_BedFault : ∃ D, mg "BedFault" = some (.ref D) ∧ iu K mg (.ref D) lC ∧ fZ K (.ref D) lC
  h_LoopError : ∃ D, mg "LoopError" = some (.ref D) ∧ iu K mg (.ref D) kY ∧ fZ K (.ref D) kY
  h_NoPattern : ∃ D, mg "NoPattern" = some (.ref D) ∧ iu K mg (.ref D) lp ∧ fZ K (.ref D) lp
  h_Unfit : ∃ D, mg "Unfit" = some (.ref D) ∧ iu K mg (.ref D) lQ ∧ fZ K (.ref D) lQ
  h_ValueError : fZ K (.type "ValueError") mW
theorem xi : (["count"] : List Str).Nodup := by decide +kernel
theorem yK : (["k", "counts"] : List Str).Nodup := by decide +kernel
theorem Ab : (["k"] : List Str).Nodup := by decide +kernel
theorem yM : (["stitch"] : List Str).Nodup := by decide +kernel
theorem yH : (["number"] : List Str).Nodup := by decide +kernel
theorem wL : (["number", "cast"] : List Str).Nodup := by decide +kernel
theorem wM : (["hook", "cast"] : List Str).Nodup := by decide +kernel
theorem w9 : (["row"] : List Str).Nodup := by decide +kernel
section
variable {P : Program} {w : World} {K : PySem.W.Frag} {mg : Str → Option Value} {base : Heap}
noncomputable abbrev jQ : Stmt := top 37
theorem uu : bu ["way", "counts", "many"] ["way", "counts"] (aM jQ) := ⟨rfl, rfl, rfl, by decide +kernel, rfl, by decide +kernel, by decide +kernel⟩
noncomputable def gZ : DM Fl :=
    (ak (aF 2 (fCB (af (ae 1) ai) bq))
    (ak (fIf (bO (au (ag (ae 0) (fC (.int 0)) gEq)) (au (ag (ae 0) (fC (.int 1)) gEq))) (ak (fIf (au (fCB (af (fLC (dv (af (ag (ae 2) (fC (.int 2)) bJ) ai)) (bg 0) (.ret true) (ag (ag (ag (ae 1) (ag (fC (.int 2)) (ae 0) aQ) gIx) (ag (ae 1) (ag (ag (fC (.int 2)) (ae 0) aQ) (fC (.int 1)) aK) gIx) aK) (fC (.int 4)) (aX gt)) [none, some 1]) ai) lM)) (aI (fC (.str ""))) aO)
    (aI (ag (ag (ag (fC (.str "lr")) (ae 0) gIx) (ag (ae 2) (fC (.int 2)) bJ) aQ) (ag (fC (.str "k")) (ag (ae 2) (fC (.int 2)) bc) aQ) aK))) aO)
    (ak (fIf (au (ag (ae 0) (fC (.int 2)) gEq)) (aI (ag (ag (fC (.str "o")) (ag (fC (.int 16)) (ae 2) cu) aQ) (ag (fC (.str "p")) (ae 2) aQ) aK)) aO)
    (ak (fIf (au (ag (ae 0) (fC (.int 3)) gEq)) (aI (ag (ag (fC (.str "k")) (ae 2) aQ) (ag (fC (.str "o")) (ag (fC (.int 16)) (ae 2) cu) aQ) aK)) aO)
    (ak (fIf (au (ag (ae 0) (fC (.int 4)) gEq)) (aI (fBM (fC (.str "")) (af (fLC (fIt (ae 1) cD) (bg 0) (.ret true) (fS (au (ag (ae 0) (fC (.int 4)) (aX lt))) (fC (.str "t")) (fC (.str "s"))) [none]) ai) mm)) aO)
    (ak (fIf (au (ag (ae 0) (fC (.int 5)) gEq)) (aI (ag (fC (.str "s")) (ae 2) aQ)) aO)
    (aI (ag (ag (fC (.str "ok")) (fCB (af (ae 2) (af (ag (fC (.int 16)) (ae 2) cu) ai)) fk) aQ) (ag (fC (.str "k")) (ag (ae 2) (fCB (af (ae 2) (af (ag (fC (.int 16)) (ae 2) cu) ai)) fk) cu) aQ) aK))))))))
noncomputable def cN : List D → Ro := bA gZ 3
theorem vZ {f : Addr} {fd : FuncData} (F : Fun K "_law_menu" "_law_menu" jQ f fd) (T : Txt K mg)  : aW P w K mg base CX0 1 f fd ["way", "counts"] (spP K (fun _ => .none) 2 cN) :=
  fnP F uu fun cdv A outer s H E hr =>
      (aw (aT 2 uu.nd (bY dt T.b_len dk (aj (ah 1) ar)))
      (aw (aV (df (fJ (aU (bB hr.units) (ah 0) ao (aS _)) (fm (aU (bB hr.units) (ah 0) ao (aS _))))) (aw (aV (cz (bY (Bf rfl) T.b_any xh (aj (lZ (N := ["k", "counts"]) (sel := [none, some 1]) ⟨rfl, rfl, rfl, rfl, rfl, rfl⟩ rfl (gF T.b_range (aj (az dF (ah 2) ao) ar)) (fun _ => cU yK) (fun _ => il) (fun _ => (fP cmp_gt (az bo (ba (ah 1) (az bL ao (ah 0))) (ba (ah 1) (az bo (az bL ao (ah 0)) ao))) ao (aS _)))) ar))) (aA (aP aH)) aZ)
      (aA (aP (az bo (az bL (ba aH (ah 0)) (az dF (ah 2) ao)) (az bL aH (az cm (ah 2) ao)))))) aZ)
      (aw (aV (aU (bB hr.units) (ah 0) ao (aS _)) (aA (aP (az bo (az bL aH (az dY ao (ah 2))) (az bL aH (ah 2))))) aZ)
      (aw (aV (aU (bB hr.units) (ah 0) ao (aS _)) (aA (aP (az bo (az bL aH (ah 2)) (az bL aH (az dY ao (ah 2)))))) aZ)
      (aw (aV (aU (bB hr.units) (ah 0) ao (aS _)) (aA (aP (xR De PySem.F.slot_str_join PySem.F.type_str_join aH (aj (lZ (N := ["count"]) (sel := [none]) ⟨rfl, rfl, rfl, rfl, rfl, rfl⟩ rfl (eP (ah 1)) (fun _ => cU xi) (fun _ => il) (fun _ => (om (aU fR (ah 0) ao (aS _)) aH aH))) ar)))) aZ)
      (aw (aV (aU (bB hr.units) (ah 0) ao (aS _)) (aA (aP (az bL aH (ah 2)))) aZ)
      (aA (aP (az bo (az bL aH (bY (nr rfl) T.b_min nz (aj (ah 2) (aj (az dY ao (ah 2)) ar)))) (az bL aH (az dY (ah 2) (bY (nr rfl) T.b_min nz (aj (ah 2) (aj (az dY ao (ah 2)) ar))))))))))))))
noncomputable abbrev j9 : Stmt := top 38
theorem uP : bu ["way", "sign", "counts", "at", "room", "two"] ["way", "sign", "counts", "at", "room"] (aM j9) := ⟨rfl, rfl, rfl, by decide +kernel, rfl, by decide +kernel, by decide +kernel⟩
noncomputable def vG : DM Fl :=
    (ak (aF 5 (eE (ag (ag (ae 3) (fC (.int 1)) aK) (fCB (af (ae 2) ai) bq) (aX lt)) (ag (ag (ag (ae 2) (ae 3) gIx) (ag (ae 2) (ag (ae 3) (fC (.int 1)) aK) gIx) aK) (fC (.int 4)) (aX le))))
    (ak (fIf (bX (au (ag (ae 0) (fC (.int 0)) gEq)) (au (ae 4))) (aI (fC (.str "o"))) aO)
    (ak (fIf (bX (au (ag (ae 0) (fC (.int 1)) gEq)) (au (ae 5))) (aI (ag (bF (af (fC (.str "ol")) (af (fC (.str "lo")) (af (fC (.str "or")) (af (fC (.str "ro")) ai))))) (ag (ae 1) (fC (.int 4)) bc) gIx)) aO)
    (ak (fIf (bX (bO (au (ag (ae 0) (fC (.int 2)) gEq)) (au (ag (ae 0) (fC (.int 3)) gEq))) (au (ae 5))) (aI (ag (fC (.str "lr")) (ag (ae 1) (fC (.int 2)) bc) gIx)) aO)
    (ak (fIf (bX (bO (au (ag (ae 0) (fC (.int 4)) gEq)) (au (ag (ae 0) (fC (.int 5)) gEq))) (au (ag (ag (ae 2) (ae 3) gIx) (fC (.int 4)) (aX lt)))) (aI (fC (.str "t"))) aO)
    (aI (ag (fC (.str "skppkk")) (ag (ae 1) (fC (.int 6)) bc) gIx)))))))
noncomputable def iB : List D → Ro := bA vG 6
theorem vR {f : Addr} {fd : FuncData} (F : Fun K "_law_stitch" "_law_stitch" j9 f fd) (T : Txt K mg)  : aW P w K mg base CX0 1 f fd ["way", "sign", "counts", "at", "room"] (spP K (fun _ => .none) 5 iB) :=
  fnP F uP fun cdv A outer s H E hr =>
      (aw (aT 5 uP.nd (pI (fP fR (az bo (ah 3) ao) (bY dt T.b_len dk (aj (ah 2) ar)) (aS _)) (pB (fP xt (az bo (ba (ah 2) (ah 3)) (ba (ah 2) (az bo (ah 3) ao))) ao (aS _)))))
      (aw (aV (df (kA (aU (bB hr.units) (ah 0) ao (aS _)) (jY (cz (ah 4))))) (aA (aP aH)) aZ)
      (aw (aV (df (kA (aU (bB hr.units) (ah 0) ao (aS _)) (jY (cz (ah 5))))) (aA (aP (ba (bR (aj aH (aj aH (aj aH (aj aH ar))))) (az cm (ah 1) ao)))) aZ)
      (aw (aV (df (kA (df (fJ (aU (bB hr.units) (ah 0) ao (aS _)) (fm (aU (bB hr.units) (ah 0) ao (aS _))))) (jY (cz (ah 5))))) (aA (aP (ba aH (az cm (ah 1) ao)))) aZ)
      (aw (aV (df (kA (df (fJ (aU (bB hr.units) (ah 0) ao (aS _)) (fm (aU (bB hr.units) (ah 0) ao (aS _))))) (jY (aU fR (ba (ah 2) (ah 3)) ao (aS _))))) (aA (aP aH)) aZ)
      (aA (aP (ba aH (az cm (ah 1) ao)))))))))
noncomputable abbrev jm : Stmt := top 35
theorem oH : bu ["cell", "k", "seed"] ["cell", "k"] (aM jm) := ⟨rfl, rfl, rfl, by decide +kernel, rfl, by decide +kernel, by decide +kernel⟩
noncomputable def qg : DM Fl :=
    (ak (aF 2 (ag (ag (ae 0) (ag (fC (.int 7919)) (ag (ae 1) (fC (.int 3)) aK) aQ) aK) (fC (.int 2147483647)) bc))
    (ak (aF 2 (ag (ag (ag (ag (ae 2) (ae 2) aQ) (ag (fC (.int 104729)) (ae 1) aQ) aK) (fC (.int 5)) aK) (fC (.int 2147483629)) bc))
    (aI (ag (ag (ae 2) (ae 2) aQ) (fC (.int 2147483587)) bc))))
noncomputable def de : List D → Ro := bA qg 3
theorem DD {f : Addr} {fd : FuncData} (F : Fun K "_law_mix" "_law_mix" jm f fd) (T : Txt K mg)  : aW P w K mg base CX0 1 f fd ["cell", "k"] (spP K (fun _ => .none) 2 de) :=
  fnP F oH fun cdv A outer s H E hr =>
      (aw (aT 2 oH.nd (az cm (az bo (ah 0) (az bL ao (az bo (ah 1) ao))) ao))
      (aw (aT 2 oH.nd (az cm (az bo (az bo (az bL (ah 2) (ah 2)) (az bL ao (ah 1))) ao) ao))
      (aA (aP (az cm (az bL (ah 2) (ah 2)) ao)))))
noncomputable abbrev ke : Stmt := top 36
theorem CO : bu ["stitch"] ["stitch"] (aM ke) := ⟨rfl, rfl, rfl, by decide +kernel, rfl, by decide +kernel, by decide +kernel⟩
noncomputable def Bg : DM Fl :=
    (ak (fIf (au (ag (ae 0) (fC (.str "o")) gEq)) (aI (fC (.int 0))) aO)
    (ak (fIf (bO (au (ag (ae 0) (fC (.str "l")) gEq)) (au (ag (ae 0) (fC (.str "r")) gEq))) (aI (fC (.int 2))) aO)
    (aI (fC (.int 1)))))
noncomputable def fg : List D → Ro := bA Bg 1
theorem ze {f : Addr} {fd : FuncData} (F : Fun K "_law_taken" "_law_taken" ke f fd) (T : Txt K mg)  : aW P w K mg base CX0 1 f fd ["stitch"] (spP K (fun _ => .none) 1 fg) :=
  fnP F CO fun cdv A outer s H E hr =>
      (aw (aV (aU (bB hr.units) (ah 0) aH (aS _)) (aA (aP ao)) aZ)
      (aw (aV (df (fJ (aU (bB hr.units) (ah 0) aH (aS _)) (fm (aU (bB hr.units) (ah 0) aH (aS _))))) (aA (aP ao)) aZ)
      (aA (aP ao))))
noncomputable abbrev s_row : Stmt := top 39
theorem ei : bu ["cell", "counts", "some", "stitches", "at", "k", "room", "here", "stitch"] ["cell", "counts"] (aM s_row) := ⟨rfl, rfl, rfl, by decide +kernel, rfl, by decide +kernel, by decide +kernel⟩
noncomputable def mM : DM Fl :=
    (ak (aF 2 (ag (ag (aD 2 (af (ae 0) (af (fC (.int 90)) ai)) de) (fC (.int 7)) bJ) (fC (.int 30)) bc))
    (ak (aF 3 (fS (au (ag (ae 2) (fC (.int 7)) (aX lt))) (aD 2 (af (ae 2) (af (ae 1) ai)) cN) (fC (.str ""))))
    (ak (fIf (au (ag (ae 3) (fC (.str "")) gNe)) (aI (ae 3)) aO)
    (ak (aF 4 (fC (.int 0)))
    (ak (aF 5 (fC (.int 0)))
    (ak (cT (au (ag (ae 4) (fCB (af (ae 1) ai) bq) (aX lt))) (ak (aF 6 (ag (ag (ag (fCB (af (ae 3) ai) bq) (fCB (af (ae 1) ai) bq) aK) (ae 4) cu) (fC (.int 16)) (aX lt)))
    (ak (aF 7 (aD 5 (af (ag (ag (aD 2 (af (ae 0) (af (ag (fC (.int 2)) (ae 5) aQ) ai)) de) (fC (.int 13)) bJ) (fC (.int 14)) bc) (af (ag (aD 2 (af (ae 0) (af (ag (ag (fC (.int 2)) (ae 5) aQ) (fC (.int 1)) aK) ai)) de) (fC (.int 7)) bJ) (af (ae 1) (af (ae 4) (af (ae 6) ai))))) iB))
    (ak (aF 3 (ag (ae 3) (ae 7) aK))
    (ak (aF 5 (ag (ae 5) (fC (.int 1)) aK))
    (b0 (fIt (ae 7) fK) (bg 8) (aF 4 (ag (ae 4) (aD 1 (af (ae 8) ai) fg) aK))))))) 64)
    (ak (fIf (bX (au (ag (ag (ag (aD 2 (af (ae 0) (af (fC (.int 99)) ai)) de) (fC (.int 5)) bJ) (fC (.int 3)) bc) (fC (.int 0)) gEq)) (au (ag (fCB (af (ae 3) ai) bq) (fC (.int 16)) (aX lt)))) (aF 3 (ag (ae 3) (fC (.str "o")) aK)) aO)
    (aI (ae 3)))))))))
noncomputable def fY : List D → Ro := bA mM 9
theorem DH {f : Addr} {fd : FuncData} (F : Fun K "_law_row" "_law_row" s_row f fd) (T : Txt K mg) (F_menu : aR P w K mg base 1 "_law_menu" 2 cN) (F_stitch : aR P w K mg base 1 "_law_stitch" 5 iB) (F_mix : aR P w K mg base 1 "_law_mix" 2 de) (F_taken : aR P w K mg base 1 "_law_taken" 1 fg) : aW P w K mg base CX0 2 f fd ["cell", "counts"] (spP K (fun _ => .none) 2 fY) :=
  fnP F ei fun cdv A outer s H E hr =>
      (aw (aT 2 ei.nd (az cm (az dF (bp F_mix (hr.mono (by decide)) (aj (ah 0) (aj ao ar))) ao) ao))
      (aw (aT 3 ei.nd (om (aU fR (ah 2) ao (aS _)) (bp F_menu (hr.mono (by decide)) (aj (ah 2) (aj (ah 1) ar))) aH))
      (aw (aV (aU (kP hr.units) (ah 3) aH (aS _)) (aA (aP (ah 3))) aZ)
      (aw (aT 4 ei.nd ao)
      (aw (aT 5 ei.nd ao)
      (aw (sU 64 PassesOwn.never (aU fR (ah 4) (bY dt T.b_len dk (aj (ah 1) ar)) (aS _)) (aw (aT 6 ei.nd (fP fR (az dY (az bo (bY dt T.b_len dk (aj (ah 3) ar)) (bY dt T.b_len dk (aj (ah 1) ar))) (ah 4)) ao (aS _)))
      (aw (aT 7 ei.nd (bp F_stitch (hr.mono (by decide)) (aj (az cm (az dF (bp F_mix (hr.mono (by decide)) (aj (ah 0) (aj (az bL ao (ah 5)) ar))) ao) ao) (aj (az dF (bp F_mix (hr.mono (by decide)) (aj (ah 0) (aj (az bo (az bL ao (ah 5)) ao) ar))) ao) (aj (ah 1) (aj (ah 4) (aj (ah 6) ar)))))))
      (aw (aT 3 ei.nd (az bo (ah 3) (ah 7)))
      (aw (aT 5 ei.nd (az bo (ah 5) ao))
      (aA (cM PassesOwn.never rfl (mh (ah 7)) (cU ei.nd) (aA (aT 4 ei.nd (az bo (ah 4) (bp F_taken (hr.mono (by decide)) (aj (ah 8) ar))))))))))))
      (aw (aV (df (kA (aU (bB hr.units) (az cm (az dF (bp F_mix (hr.mono (by decide)) (aj (ah 0) (aj ao ar))) ao) ao) ao (aS _)) (jY (aU fR (bY dt T.b_len dk (aj (ah 3) ar)) ao (aS _))))) (aA (aT 3 ei.nd (az bo (ah 3) aH))) aZ)
      (aA (aP (ah 3))))))))))
noncomputable abbrev j6 : Stmt := top 40
theorem lF : bu ["stitches", "counts", "found", "at", "stitch"] ["stitches", "counts"] (aM j6) := ⟨rfl, rfl, rfl, by decide +kernel, rfl, by decide +kernel, by decide +kernel⟩
noncomputable def qF : DM Fl :=
    (ak (bV 2 (bF ai))
    (ak (aF 3 (fC (.int 0)))
    (ak (b0 (fIt (ae 0) fK) (bg 4) (ak (fIf (au (ag (ae 4) (fC (.str "t")) gEq)) (bE 2 (ag (ag (ae 1) (ae 3) gIx) (fC (.int 1)) aK)) (fIf (au (ag (ae 4) (fC (.str "s")) gEq)) (bE 2 (ag (ae 1) (ae 3) gIx)) (bE 2 (fC (.int 1)))))
    (aF 3 (ag (ae 3) (aD 1 (af (ae 4) ai) fg) aK))))
    (aI (ae 2)))))
noncomputable def iO : List D → Ro := bA qF 5
theorem zU {f : Addr} {fd : FuncData} (F : Fun K "_law_behind" "_law_behind" j6 f fd) (T : Txt K mg) (F_taken : aR P w K mg base 1 "_law_taken" 1 fg) : aW P w K mg base CX0 2 f fd ["stitches", "counts"] (spP K (fun _ => .none) 2 iO) :=
  fnP F lF fun cdv A outer s H E hr =>
      (aw (di 2 lF.nd (bR ar))
      (aw (aT 3 lF.nd ao)
      (aw (cM PassesOwn.never rfl (mh (ah 0)) (cU lF.nd) (aw (aV (aU (bB hr.units) (ah 4) aH (aS _)) (aA (dm 2 (az bo (ba (ah 1) (ah 3)) ao))) (aA (aV (aU (bB hr.units) (ah 4) aH (aS _)) (aA (dm 2 (ba (ah 1) (ah 3)))) (aA (dm 2 ao)))))
      (aA (aT 3 lF.nd (az bo (ah 3) (bp F_taken (hr.mono (by decide)) (aj (ah 4) ar)))))))
      (aA (aP (ah 2))))))
noncomputable abbrev kn : Stmt := top 34
theorem xN : bu ["script", "k"] ["script", "k"] (aM kn) := ⟨rfl, rfl, rfl, by decide +kernel, rfl, by decide +kernel, by decide +kernel⟩
noncomputable def uX : DM Fl :=
    (ak (fIf (au (ag (ae 1) (fCB (af (ae 0) ai) bq) (aX lt))) (aI (ag (ae 0) (ae 1) gIx)) aO)
    (aI (fC (.int 0))))
noncomputable def cI : List D → Ro := bA uX 2
theorem yA {f : Addr} {fd : FuncData} (F : Fun K "_law_cell_at" "_law_cell_at" kn f fd) (T : Txt K mg)  : aW P w K mg base CX0 1 f fd ["script", "k"] (spP K (fun _ => .none) 2 cI) :=
  fnP F xN fun cdv A outer s H E hr =>
      (aw (aV (aU fR (ah 1) (bY dt T.b_len dk (aj (ah 0) ar)) (aS _)) (aA (aP (ba (ah 0) (ah 1)))) aZ)
      (aA (aP ao)))
noncomputable abbrev jA : Stmt := top 41
theorem ie : bu ["script", "rows", "widest", "many", "pattern", "counts", "k", "cell", "stitches"] ["script", "rows", "widest"] (aM jA) := ⟨rfl, rfl, rfl, by decide +kernel, rfl, by decide +kernel, by decide +kernel⟩
noncomputable def rS : DM Fl :=
    (ak (aF 3 (ag (fC (.int 1)) (ag (aD 2 (af (ae 0) (af (fC (.int 1)) ai)) cI) (ae 2) bc) aK))
    (ak (bV 4 (bF (af (aY (af (fC (.str "cast")) (af (ae 3) (af (ag (fC (.str "abcdef")) (ag (aD 2 (af (ae 0) (af (fC (.int 2)) ai)) cI) (fC (.int 6)) bc) gIx) ai)))) ai)))
    (ak (aF 5 (fLC (dv (af (ae 3) ai)) (bg 0) (.ret true) (fC (.int 1)) [none]))
    (ak (b0 (dv (af (ae 1) ai)) (bg 6) (ak (aF 7 (ag (aD 2 (af (ae 0) (af (ag (fC (.int 3)) (ae 6) aK) ai)) cI) (ag (fC (.int 5003)) (ae 6) aQ) aK))
    (ak (aF 8 (aD 2 (af (ae 7) (af (ae 5) ai)) fY))
    (ak (bE 4 (aY (af (fC (.str "row")) (af (ag (fC (.str "abcdef")) (ag (ag (aD 2 (af (ae 7) (af (fC (.int 200)) ai)) de) (fC (.int 11)) bJ) (fC (.int 6)) bc) gIx) (af (ae 8) ai)))))
    (aF 5 (aD 2 (af (ae 8) (af (ae 5) ai)) iO))))))
    (aI (ae 4))))))
noncomputable def je : List D → Ro := bA rS 9
theorem vV {f : Addr} {fd : FuncData} (F : Fun K "_law_pattern" "_law_pattern" jA f fd) (T : Txt K mg) (F_row : aR P w K mg base 2 "_law_row" 2 fY) (F_behind : aR P w K mg base 2 "_law_behind" 2 iO) (F_cell_at : aR P w K mg base 1 "_law_cell_at" 2 cI) (F_mix : aR P w K mg base 1 "_law_mix" 2 de) : aW P w K mg base CX0 3 f fd ["script", "rows", "widest"] (spP K (fun _ => .none) 3 je) :=
  fnP F ie fun cdv A outer s H E hr =>
      (aw (aT 3 ie.nd (az bo ao (az cm (bp F_cell_at (hr.mono (by decide)) (aj (ah 0) (aj ao ar))) (ah 2))))
      (aw (di 4 ie.nd (bR (aj (bP (aj aH (aj (ah 3) (aj (ba aH (az cm (bp F_cell_at (hr.mono (by decide)) (aj (ah 0) (aj ao ar))) ao)) ar)))) ar)))
      (aw (qb 5 ie.nd (N := ["k"]) (sel := [none]) ⟨rfl, rfl, rfl, rfl, rfl, rfl⟩ rfl (gF T.b_range (aj (ah 3) ar)) (fun _ => cU Ab) (fun _ => il) (fun _ => ao))
      (aw (cM PassesOwn.never rfl (gF T.b_range (aj (ah 1) ar)) (cU ie.nd) (aw (aT 7 ie.nd (az bo (bp F_cell_at (hr.mono (by decide)) (aj (ah 0) (aj (az bo ao (ah 6)) ar))) (az bL ao (ah 6))))
      (aw (aT 8 ie.nd (bp F_row (hr.mono (by decide)) (aj (ah 7) (aj (ah 5) ar))))
      (aw (dm 4 (bP (aj aH (aj (ba aH (az cm (az dF (bp F_mix (hr.mono (by decide)) (aj (ah 7) (aj ao ar))) ao) ao)) (aj (ah 8) ar)))))
      (aA (aT 5 ie.nd (bp F_behind (hr.mono (by decide)) (aj (ah 8) (aj (ah 5) ar)))))))))
      (aA (aP (ah 4)))))))
noncomputable abbrev jr : Stmt := top 42
theorem pb : bu ["cell", "width", "way", "some"] ["cell", "width"] (aM jr) := ⟨rfl, rfl, rfl, by decide +kernel, rfl, by decide +kernel, by decide +kernel⟩
noncomputable def um : DM Fl :=
    (ak (aF 2 (ag (ae 0) (fC (.int 4)) bc))
    (ak (fIf (au (ag (ae 2) (fC (.int 0)) gEq)) (ak (aF 3 (bF (af (ag (fC (.str "s")) (fC (.int 17)) aQ) (af (ag (fC (.str "ko")) (fC (.int 12)) aQ) (af (ag (fC (.str "o")) (fC (.int 24)) aQ) (af (ag (ag (fC (.str "k")) (ae 1) aQ) (ag (fC (.str "o")) (fC (.int 20)) aQ) aK) ai))))))
    (aI (cO (ag (ae 3) (ag (ag (ae 0) (fC (.int 4)) bJ) (fC (.int 4)) bc) gIx) fE (bT (fC (.int 24)))))) aO)
    (ak (fIf (au (ag (ae 2) (fC (.int 1)) gEq)) (aI (ag (fC (.str "k")) (ag (ae 1) (fC (.int 1)) aK) aQ)) aO)
    (ak (fIf (au (ag (ae 2) (fC (.int 2)) gEq)) (aI (ag (fC (.str "o")) (ag (fC (.str "p")) (fCB (af (fC (.int 0)) (af (ag (ae 1) (fC (.int 1)) cu) ai)) jX) aQ) aK)) aO)
    (aI (fC .non))))))
noncomputable def gR : List D → Ro := bA um 4
theorem xk {f : Addr} {fd : FuncData} (F : Fun K "_law_faulty" "_law_faulty" jr f fd) (T : Txt K mg)  : aW P w K mg base CX0 1 f fd ["cell", "width"] (spP K (fun _ => .none) 2 gR) :=
  fnP F pb fun cdv A outer s H E hr =>
      (aw (aT 2 pb.nd (az cm (ah 0) ao))
      (aw (aV (aU (bB hr.units) (ah 2) ao (aS _)) (aw (aT 3 pb.nd (bR (aj (az bL aH ao) (aj (az bL aH ao) (aj (az bL aH ao) (aj (az bo (az bL aH (ah 1)) (az bL aH ao)) ar))))))
      (aA (aP (fW (ba (ah 3) (az cm (az dF (ah 0) ao) ao)) jy (eF ao))))) aZ)
      (aw (aV (aU (bB hr.units) (ah 2) ao (aS _)) (aA (aP (az bL aH (az bo (ah 1) ao)))) aZ)
      (aw (aV (aU (bB hr.units) (ah 2) ao (aS _)) (aA (aP (az bo aH (az bL aH (bY (vC rfl) T.b_max rH (aj ao (aj (az dY (ah 1) ao) ar))))))) aZ)
      (aA (aP lW))))))
noncomputable abbrev kx : Stmt := top 8
theorem jE : bu ["stitches", "steps", "start", "stitch", "end"] ["stitches"] (aM kx) := ⟨rfl, rfl, rfl, by decide +kernel, rfl, by decide +kernel, by decide +kernel⟩
noncomputable def qW : DM Fl :=
    (ak (bV 1 (bF ai))
    (ak (aF 2 (fC (.int 0)))
    (ak (b0 (fIt (ae 0) fK) (bg 3) (ak (aF 4 (ag (ae 2) (fUn (ae 3) (gY eZ)) aK))
    (ak (bE 1 (aY (af (ae 3) (af (ae 2) (af (ae 4) ai)))))
    (aF 2 (ae 4)))))
    (aI (ae 1)))))
noncomputable def dO : List D → Ro := bA qW 5
theorem Av {f : Addr} {fd : FuncData} (F : Fun K "steps_of" "steps_of" kx f fd) (T : Txt K mg)  : aW P w K mg base CX0 1 f fd ["stitches"] (spP K (fun _ => .none) 1 dO) :=
  fnP F jE fun cdv A outer s H E hr =>
      (aw (di 1 jE.nd (bR ar))
      (aw (aT 2 jE.nd ao)
      (aw (cM PassesOwn.never rfl (mh (ah 0)) (cU jE.nd) (aw (aT 4 jE.nd (az bo (ah 2) (tq T.g_TAKES (ah 3))))
      (aw (dm 1 (bP (aj (ah 3) (aj (ah 2) (aj (ah 4) ar)))))
      (aA (aT 2 jE.nd (ah 4))))))
      (aA (aP (ah 1))))))
noncomputable abbrev kb : Stmt := top 7
theorem A4 : bu ["stitches"] ["stitches"] (aM kb) := ⟨rfl, rfl, rfl, by decide +kernel, rfl, by decide +kernel, by decide +kernel⟩
noncomputable def vy : DM Fl :=
    (aI (fCB (af (fLC (fIt (ae 0) fK) (bg 0) (.ret true) (fUn (ae 0) (gY eZ)) [none]) ai) fT))
noncomputable def jo : List D → Ro := bA vy 1
theorem Au {f : Addr} {fd : FuncData} (F : Fun K "places_taken" "places_taken" kb f fd) (T : Txt K mg)  : aW P w K mg base CX0 1 f fd ["stitches"] (spP K (fun _ => .none) 1 jo) :=
  fnP F A4 fun cdv A outer s H E hr =>
      (aA (aP (bY (ox rfl) T.b_sum oQ (aj (lZ (N := ["stitch"]) (sel := [none]) ⟨rfl, rfl, rfl, rfl, rfl, rfl⟩ rfl (mh (ah 0)) (fun _ => cU yM) (fun _ => il) (fun _ => (tq T.g_TAKES (ah 0)))) ar))))
noncomputable abbrev jG : Stmt := top 15
theorem Bj : bu ["stitch", "met"] ["stitch", "met"] (aM jG) := ⟨rfl, rfl, rfl, by decide +kernel, rfl, by decide +kernel, by decide +kernel⟩
noncomputable def kE : DM Fl :=
    (ak (fIf (au (ag (ae 0) (fC (.str "t")) gEq)) (aI (ag (ag (ae 1) (fC (.int 1)) aK) (fC pj) (aX gt))) aO)
    (aI (eE (ag (ae 0) (aY (af (fC (.str "l")) (af (fC (.str "r")) ai))) gIn) (ag (ae 1) (fC pj) (aX gt)))))
noncomputable def eU : List D → Ro := bA kE 2
theorem Ax {f : Addr} {fd : FuncData} (F : Fun K "is_too_many" "is_too_many" jG f fd) (T : Txt K mg)  : aW P w K mg base CX0 1 f fd ["stitch", "met"] (spP K (fun _ => .none) 2 eU) :=
  fnP F Bj fun cdv A outer s H E hr =>
      (aw (aV (aU (bB hr.units) (ah 0) aH (aS _)) (aA (aP (fP cmp_gt (az bo (ah 1) ao) (kI T.g_MOST_LOOPS) (aS _)))) aZ)
      (aA (aP (pI (fP pw (ah 0) (bP (aj aH (aj aH ar))) (by with_unfolding_all rfl)) (pB (fP cmp_gt (ah 1) (kI T.g_MOST_LOOPS) (aS _)))))))
noncomputable abbrev kC : Stmt := top 14
theorem vi : bu ["stitches", "counts", "stitch", "start", "end"] ["stitches", "counts"] (aM kC) := ⟨rfl, rfl, rfl, by decide +kernel, rfl, by decide +kernel, by decide +kernel⟩
noncomputable def jT : DM Fl :=
    (ak (fIf (au (ag (fCB (af (ae 0) ai) bq) (fC ue) (aX gt))) (aI (fC (.str "wide"))) aO)
    (ak (fIf (au (ag (aD 1 (af (ae 0) ai) jo) (fCB (af (ae 1) ai) bq) gNe)) (aI (fC (.str "fit"))) aO)
    (ak (b0 (fIt (aD 1 (af (ae 0) ai) dO) cD) (b9 [2, 3, 4]) (fIf (au (aD 2 (af (ae 2) (af (fCB (af (cO (ae 1) (bT (ae 3)) (bT (ae 4))) ai) fT) ai)) eU)) (aI (fC (.str "many"))) aO))
    (aI (fC .non)))))
noncomputable def d7 : List D → Ro := bA jT 5
theorem CA {f : Addr} {fd : FuncData} (F : Fun K "fault_of" "fault_of" kC f fd) (T : Txt K mg) (F_steps_of : aR P w K mg base 1 "steps_of" 1 dO) (F_places_taken : aR P w K mg base 1 "places_taken" 1 jo) (F_is_too_many : aR P w K mg base 1 "is_too_many" 2 eU) : aW P w K mg base CX0 2 f fd ["stitches", "counts"] (spP K (fun _ => .none) 2 d7) :=
  fnP F vi fun cdv A outer s H E hr =>
      (aw (aV (aU cmp_gt (bY dt T.b_len dk (aj (ah 0) ar)) (kI T.g_MOST_WIDE) (aS _)) (aA (aP aH)) aZ)
      (aw (aV (aU (kP hr.units) (bp F_places_taken (hr.mono (by decide)) (aj (ah 0) ar)) (bY dt T.b_len dk (aj (ah 1) ar)) (aS _)) (aA (aP aH)) aZ)
      (aw (cM PassesOwn.never rfl (eP (bp F_steps_of (hr.mono (by decide)) (aj (ah 0) ar))) (mK vi.nd) (aA (aV (cz (bp F_is_too_many (hr.mono (by decide)) (aj (ah 2) (aj (bY (ox rfl) T.b_sum oQ (aj (fW (ah 1) (eF (ah 3)) (eF (ah 4))) ar)) ar)))) (aA (aP aH)) aZ)))
      (aA (aP lW)))))
noncomputable abbrev jB : Stmt := top 17
theorem Di : bu ["stitch", "met"] ["stitch", "met"] (aM jB) := ⟨rfl, rfl, rfl, by decide +kernel, rfl, by decide +kernel, by decide +kernel⟩
noncomputable def sQ : DM Fl :=
    (ak (fIf (au (ag (ae 0) (fC (.str "s")) gEq)) (aI (ae 1)) aO)
    (ak (fIf (au (ag (ae 0) (fC (.str "t")) gEq)) (aI (ag (ae 1) (fC (.int 1)) aK)) aO)
    (aI (fC (.int 1)))))
noncomputable def iJ : List D → Ro := bA sQ 2
theorem Cm {f : Addr} {fd : FuncData} (F : Fun K "count_left" "count_left" jB f fd) (T : Txt K mg)  : aW P w K mg base CX0 1 f fd ["stitch", "met"] (spP K (fun _ => .none) 2 iJ) :=
  fnP F Di fun cdv A outer s H E hr =>
      (aw (aV (aU (bB hr.units) (ah 0) aH (aS _)) (aA (aP (ah 1))) aZ)
      (aw (aV (aU (bB hr.units) (ah 0) aH (aS _)) (aA (aP (az bo (ah 1) ao))) aZ)
      (aA (aP ao))))
noncomputable abbrev j8 : Stmt := top 16
theorem oR : bu ["stitches", "counts", "behind", "stitch", "start", "end"] ["stitches", "counts"] (aM j8) := ⟨rfl, rfl, rfl, by decide +kernel, rfl, by decide +kernel, by decide +kernel⟩
noncomputable def qG : DM Fl :=
    (ak (bV 2 (bF ai))
    (ak (b0 (fIt (aD 1 (af (ae 0) ai) dO) cD) (b9 [3, 4, 5]) (bE 2 (aD 2 (af (ae 3) (af (fCB (af (cO (ae 1) (bT (ae 4)) (bT (ae 5))) ai) fT) ai)) iJ)))
    (aI (ae 2))))
noncomputable def iG : List D → Ro := bA qG 6
theorem B4 {f : Addr} {fd : FuncData} (F : Fun K "counts_behind" "counts_behind" j8 f fd) (T : Txt K mg) (F_steps_of : aR P w K mg base 1 "steps_of" 1 dO) (F_count_left : aR P w K mg base 1 "count_left" 2 iJ) : aW P w K mg base CX0 2 f fd ["stitches", "counts"] (spP K (fun _ => .none) 2 iG) :=
  fnP F oR fun cdv A outer s H E hr =>
      (aw (di 2 oR.nd (bR ar))
      (aw (cM PassesOwn.never rfl (eP (bp F_steps_of (hr.mono (by decide)) (aj (ah 0) ar))) (mK oR.nd) (aA (dm 2 (bp F_count_left (hr.mono (by decide)) (aj (ah 3) (aj (bY (ox rfl) T.b_sum oQ (aj (fW (ah 1) (eF (ah 4)) (eF (ah 5))) ar)) ar))))))
      (aA (aP (ah 2)))))
noncomputable abbrev jk : Stmt := top 12
theorem jc : bu ["pattern", "counts", "widths", "number", "row", "stitches", "fault"] ["pattern"] (aM jk) := ⟨rfl, rfl, rfl, by decide +kernel, rfl, by decide +kernel, by decide +kernel⟩
noncomputable def my : DM Fl :=
    (ak (aF 1 (ag (bF (af (fC (.int 1)) ai)) (ag (ag (ae 0) (fC (.int 0)) gIx) (fC (.int 1)) gIx) aQ))
    (ak (bV 2 (bF (af (fCB (af (ae 1) ai) bq) ai)))
    (ak (b0 (mE (cO (ae 0) (bT (fC (.int 1))) fE)) (b9 [3, 4]) (ak (aF 5 (ag (ae 4) (fC (.int 2)) gIx))
    (ak (aF 6 (aD 2 (af (ae 5) (af (ae 1) ai)) d7))
    (ak (fIf (au (ag (ae 6) (fC .non) kU)) (aI (aY (af (ae 6) (af (ae 3) ai)))) aO)
    (ak (aF 1 (aD 2 (af (ae 5) (af (ae 1) ai)) iG))
    (bE 2 (fCB (af (ae 1) ai) bq)))))))
    (fun δ => (aI (aY (af (fC (.str "good")) (af (ae 2) ai)))) (frz 2 δ)))))
noncomputable def fQ : List D → Ro := bA my 7
theorem z8 {f : Addr} {fd : FuncData} (F : Fun K "looked" "looked" jk f fd) (T : Txt K mg) (F_fault_of : aR P w K mg base 2 "fault_of" 2 d7) (F_counts_behind : aR P w K mg base 2 "counts_behind" 2 iG) : aW P w K mg base CX0 3 f fd ["pattern"] (spP K (fun _ => .none) 1 fQ) :=
  fnP F jc fun cdv A outer s H E hr =>
      (aw (aT 1 jc.nd (az bL (bR (aj ao ar)) (ba (ba (ah 0) ao) ao)))
      (aw (di 2 jc.nd (bR (aj (bY dt T.b_len dk (aj (ah 1) ar)) ar)))
      (aw (cM PassesOwn.never rfl (Ay T.b_enumerate (fW (ah 0) (eF ao) jy)) (lh jc.nd) (aw (aT 5 jc.nd (ba (ah 4) ao))
      (aw (aT 6 jc.nd (bp F_fault_of (hr.mono (by decide)) (aj (ah 5) (aj (ah 1) ar))))
      (aw (aV (aU xb (ah 6) lW (aS _)) (aA (aP (bP (aj (ah 6) (aj (ah 3) ar))))) aZ)
      (aw (aT 1 jc.nd (bp F_counts_behind (hr.mono (by decide)) (aj (ah 5) (aj (ah 1) ar))))
      (aA (dm 2 (bY dt T.b_len dk (aj (ah 1) ar)))))))))
      (aA (jx 2 (aP (bP (aj aH (aj (ah 2) ar)))))))))
noncomputable abbrev jt : Stmt := top 13
theorem yN : bu ["pattern"] ["pattern"] (aM jt) := ⟨rfl, rfl, rfl, by decide +kernel, rfl, by decide +kernel, by decide +kernel⟩
noncomputable def oq : DM Fl :=
    (fIf (au (ag (ag (aD 1 (af (ae 0) ai) fQ) (fC (.int 0)) gIx) (fC (.str "good")) gNe)) (lq "Unfit" (fun _ => true)) aO)
noncomputable def dS : List D → Ro := dU oq 1
theorem Cf {f : Addr} {fd : FuncData} (F : Fun K "need_good" "need_good" jt f fd) (T : Txt K mg) (F_looked : aR P w K mg base 3 "looked" 1 fQ) : aW P w K mg base (Fly P w) 4 f fd ["pattern"] (spP K (dQ mg) 1 dS) :=
  fnX F yN fun cdv A outer s H E hr =>
      (aA (aV (aU (kP hr.units) (ba (nc F_looked (fun _ _ => mx) (hr.mono (by decide)) (aj (ah 0) ar)) ao) aH (aS _)) (aA (By AF rfl T.e_Unfit.choose_spec v5)) aZ))
noncomputable abbrev j2 : Stmt := top 32
theorem m8 : bu ["taken", "right_first", "order", "loops", "place"] ["taken", "right_first"] (aM j2) := ⟨rfl, rfl, rfl, by decide +kernel, rfl, by decide +kernel, by decide +kernel⟩
noncomputable def vx : DM Fl :=
    (ak (bV 2 (fCB (af (ae 0) ai) d4))
    (ak (fIf (au (ae 1)) (eQ 2) aO)
    (ak (bV 3 (bF ai))
    (ak (fun δ => (b0 (fIt (ae 2) cD) (bg 4) (bS 3 (ae 4))) (frz 2 δ))
    (aI (ae 3))))))
noncomputable def iM : List D → Ro := bA vx 5
theorem wD {f : Addr} {fd : FuncData} (F : Fun K "joined" "joined" j2 f fd) (T : Txt K mg)  : aW P w K mg base CX0 1 f fd ["taken", "right_first"] (spP K (fun _ => .none) 2 iM) :=
  fnP F m8 fun cdv A outer s H E hr =>
      (aw (di 2 m8.nd (kc kN T.b_list iW (aj (ah 0) ar)))
      (aw (aV (cz (ah 1)) (aA (mI 2)) aZ)
      (aw (di 3 m8.nd (bR ar))
      (aw (jx 2 (cM PassesOwn.never rfl (eP (ah 2)) (cU m8.nd) (aA (gu 3 (ah 4)))))
      (aA (aP (ah 3)))))))
noncomputable abbrev j7 : Stmt := top 31
theorem ml : bu ["stitch", "yarn", "taken", "cloth", "loops", "number", "way"] ["stitch", "yarn", "taken", "cloth"] (aM j7) := ⟨rfl, rfl, rfl, by decide +kernel, rfl, by decide +kernel, by decide +kernel⟩
noncomputable def rh : DM Fl :=
    (ak (aF 4 (aD 2 (af (ae 2) (af (ag (ae 0) (fC (.str "r")) gEq) ai)) iM))
    (ak (fIf (au (ag (ae 0) (fC (.str "s")) gEq)) (aI (ae 4)) aO)
    (ak (aF 5 (fCB (af (ae 3) ai) bq))
    (ak (fIf (au (ag (ae 0) (aY (af (fC (.str "t")) (af (fC (.str "o")) ai))) gIn)) (ak (bE 3 (aY (af (ae 1) (af (fC (.str "t")) (af (aY ai) ai)))))
    (aI (ag (ae 4) (bF (af (ae 5) ai)) aK))) aO)
    (ak (aF 6 (fS (au (ag (ae 0) (fC (.str "p")) gEq)) (fC (.str "p")) (fC (.str "k"))))
    (ak (bE 3 (aY (af (ae 1) (af (ae 6) (af (fCB (af (ae 4) ai) mD) ai)))))
    (aI (bF (af (ae 5) ai)))))))))
noncomputable def i6 : List D → List (List D) → Rn := runN rh 7 [3]
theorem wO {f : Addr} {fd : FuncData} (F : Fun K "stitched" "stitched" j7 f fd) (T : Txt K mg) (F_joined : aR P w K mg base 1 "joined" 2 iM) : aW P w K mg base CX0 2 f fd ["stitch", "yarn", "taken", "cloth"] (spN K 4 [3] i6) :=
  fnN [3] F ml fun cdv A outer s H E hr =>
      (aw (aT 4 ml.nd (bp F_joined (hr.mono (by decide)) (aj (ah 2) (aj (fP (bB hr.units) (ah 0) aH (aS _)) ar))))
      (aw (aV (aU (bB hr.units) (ah 0) aH (aS _)) (aA (aP (ah 4))) aZ)
      (aw (aT 5 ml.nd (bY dt T.b_len dk (aj (ah 3) ar)))
      (aw (aV (aU pw (ah 0) (bP (aj aH (aj aH ar))) (by with_unfolding_all rfl)) (aw (dm 3 (bP (aj (ah 1) (aj aH (aj (bP ar) ar)))))
      (aA (aP (az bo (ah 4) (bR (aj (ah 5) ar)))))) aZ)
      (aw (aT 6 ml.nd (om (aU (bB hr.units) (ah 0) aH (aS _)) aH aH))
      (aw (dm 3 (bP (aj (ah 1) (aj (ah 6) (aj (kc C7 T.b_tuple uB (aj (ah 4) ar)) ar)))))
      (aA (aP (bR (aj (ah 5) ar))))))))))
noncomputable abbrev kq : Stmt := top 30
theorem mH : bu ["row", "from_right", "places", "cloth", "steps", "behind", "stitch", "start", "end"] ["row", "from_right", "places", "cloth"] (aM kq) := ⟨rfl, rfl, rfl, by decide +kernel, rfl, by decide +kernel, by decide +kernel⟩
noncomputable def u9 : DM Fl :=
    (ak (bV 4 (aD 1 (af (ag (ae 0) (fC (.int 2)) gIx) ai) dO))
    (ak (fIf (au (ae 1)) (eQ 4) aO)
    (ak (bV 5 (bF ai))
    (ak (fun δ => (b0 (fIt (ae 4) cD) (b9 [6, 7, 8]) (bE 5 (gD 4 [3] (af (ae 6) (af (ag (ae 0) (fC (.int 1)) gIx) (af (cO (ae 2) (bT (ae 7)) (bT (ae 8))) (af (ae 3) ai)))) i6))) (frz 4 δ))
    (ak (fIf (au (ae 1)) (eQ 5) aO)
    (aI (ae 5)))))))
noncomputable def i8 : List D → List (List D) → Rn := runN u9 9 [3]
theorem BG {f : Addr} {fd : FuncData} (F : Fun K "worked" "worked" kq f fd) (T : Txt K mg) (F_steps_of : aR P w K mg base 1 "steps_of" 1 dO) (F_stitched : jD P w K mg base 2 "stitched" 4 [3] i6) : aW P w K mg base CX0 3 f fd ["row", "from_right", "places", "cloth"] (spN K 4 [3] i8) :=
  fnN [3] F mH fun cdv A outer s H E hr =>
      (aw (di 4 mH.nd (bp F_steps_of (hr.mono (by decide)) (aj (ba (ah 0) ao) ar)))
      (aw (aV (cz (ah 1)) (aA (mI 4)) aZ)
      (aw (di 5 mH.nd (bR ar))
      (aw (jx 4 (cM PassesOwn.never rfl (eP (ah 4)) (mK mH.nd) (aA (dm 5 (BQ F_stitched (hr.mono (by decide)) (aj (ah 6) (aj (ba (ah 0) ao) (aj (fW (ah 2) (eF (ah 7)) (eF (ah 8))) (aj (ah 3) ar)))))))))
      (aw (aV (cz (ah 1)) (aA (mI 5)) aZ)
      (aA (aP (ah 5))))))))
noncomputable abbrev jw : Stmt := top 29
theorem gX : bu ["pattern", "cast", "cloth", "places", "from_right", "row"] ["pattern"] (aM jw) := ⟨rfl, rfl, rfl, by decide +kernel, rfl, by decide +kernel, by decide +kernel⟩
noncomputable def pL : DM Fl :=
    (ak (gQ (aD 1 (af (ae 0) ai) dS))
    (ak (aF 1 (ag (ae 0) (fC (.int 0)) gIx))
    (ak (bV 2 (fLC (dv (af (ag (ae 1) (fC (.int 1)) gIx) ai)) (bg 0) (.ret true) (aY (af (ag (ae 1) (fC (.int 2)) gIx) (af (fC (.str "t")) (af (aY ai) ai)))) [none, some 1]))
    (ak (aF 3 (fLC (dv (af (ag (ae 1) (fC (.int 1)) gIx) ai)) (bg 0) (.ret true) (bF (af (ae 0) ai)) [none]))
    (ak (aF 4 (fC (.bl true)))
    (ak (b0 (fIt (cO (ae 0) (bT (fC (.int 1))) fE) cD) (bg 5) (ak (aF 3 (gD 4 [3] (af (ae 5) (af (ae 4) (af (ae 3) (af (ae 2) ai)))) i8))
    (aF 4 (gk (ae 4)))))
    (fun δ => (aI (aY (af (ae 2) (af (ae 3) ai)))) (frz 2 δ))))))))
noncomputable def ey : List D → Ro := dU pL 6
theorem yk {f : Addr} {fd : FuncData} (F : Fun K "told" "told" jw f fd) (T : Txt K mg) (F_need_good : eB P w K mg base 4 "need_good" 1 dS) (F_worked : jD P w K mg base 3 "worked" 4 [3] i8) : aW P w K mg base (Fly P w) 5 f fd ["pattern"] (spP K (dQ mg) 1 ey) :=
  fnX F gX fun cdv A outer s H E hr =>
      (aw (vn (tF F_need_good rX (hr.mono (by decide)) (aj (ah 0) ar)))
      (aw (aT 1 gX.nd (ba (ah 0) ao))
      (aw (rj 2 gX.nd (N := ["number", "cast"]) (sel := [none, some 1]) ⟨rfl, rfl, rfl, rfl, rfl, rfl⟩ rfl (gF T.b_range (aj (ba (ah 1) ao) ar)) (fun _ => cU wL) (fun _ => il) (fun _ => (bP (aj (ba (ah 1) ao) (aj aH (aj (bP ar) ar))))))
      (aw (qb 3 gX.nd (N := ["number"]) (sel := [none]) ⟨rfl, rfl, rfl, rfl, rfl, rfl⟩ rfl (gF T.b_range (aj (ba (ah 1) ao) ar)) (fun _ => cU yH) (fun _ => il) (fun _ => (bR (aj (ah 0) ar))))
      (aw (aT 4 gX.nd d8)
      (aw (cM PassesOwn.leaving rfl (eP (fW (ah 0) (eF ao) jy)) (cU gX.nd) (aw (aT 3 gX.nd (Cb F_worked (hr.mono (by decide)) (aj (ah 5) (aj (ah 4) (aj (ah 3) (aj (ah 2) ar))))))
      (aA (aT 4 gX.nd (vD (ah 4))))))
      (aA (jx 2 (aP (bP (aj (ah 2) (aj (ah 3) ar))))))))))))
noncomputable abbrev jS : Stmt := top 25
theorem zV : bu ["at", "goal"] ["at", "goal"] (aM jS) := ⟨rfl, rfl, rfl, by decide +kernel, rfl, by decide +kernel, by decide +kernel⟩
noncomputable def sH : DM Fl :=
    (aI (fCB (af (ag (ae 0) (fC pf) cu) (af (fCB (af (ag (ae 0) (fC pf) aK) (af (ae 1) ai)) fk) ai)) jX))
noncomputable def eK : List D → Ro := bA sH 2
theorem za {f : Addr} {fd : FuncData} (F : Fun K "nearer" "nearer" jS f fd) (T : Txt K mg)  : aW P w K mg base CX0 1 f fd ["at", "goal"] (spP K (fun _ => .none) 2 eK) :=
  fnP F zV fun cdv A outer s H E hr =>
      (aA (aP (bY (vC rfl) T.b_max rH (aj (az dY (ah 0) (kI T.g_FARTHEST)) (aj (bY (nr rfl) T.b_min nz (aj (az bo (ah 0) (kI T.g_FARTHEST)) (aj (ah 1) ar))) ar)))))
noncomputable abbrev jv : Stmt := top 24
theorem ly : bu ["source", "goal", "deeds", "at", "over"] ["source", "goal"] (aM jv) := ⟨rfl, rfl, rfl, by decide +kernel, rfl, by decide +kernel, by decide +kernel⟩
noncomputable def tY : DM Fl :=
    (ak (bV 2 (bF ai))
    (ak (aF 3 (ae 0))
    (ak (cT (au (ag (ae 3) (ae 1) gNe)) (ak (aF 4 (aD 2 (af (ae 3) (af (ae 1) ai)) eK))
    (ak (bE 2 (aY (af (fC (.str "move")) (af (fC (.str "f")) (af (ae 3) (af (ae 4) ai))))))
    (ak (aF 3 (aD 2 (af (ae 4) (af (ae 1) ai)) eK))
    (bE 2 (aY (af (fC (.str "move")) (af (fC (.str "b")) (af (ae 4) (af (ae 3) ai))))))))) 64)
    (aI (ae 2)))))
noncomputable def dJ : List D → Ro := bA tY 5
theorem xJ {f : Addr} {fd : FuncData} (F : Fun K "moves_along" "moves_along" jv f fd) (T : Txt K mg) (F_nearer : aR P w K mg base 1 "nearer" 2 eK) : aW P w K mg base CX0 2 f fd ["source", "goal"] (spP K (fun _ => .none) 2 dJ) :=
  fnP F ly fun cdv A outer s H E hr =>
      (aw (di 2 ly.nd (bR ar))
      (aw (aT 3 ly.nd (ah 0))
      (aw (sU 64 PassesOwn.never (aU (kP hr.units) (ah 3) (ah 1) (aS _)) (aw (aT 4 ly.nd (bp F_nearer (hr.mono (by decide)) (aj (ah 3) (aj (ah 1) ar))))
      (aw (dm 2 (bP (aj aH (aj aH (aj (ah 3) (aj (ah 4) ar))))))
      (aw (aT 3 ly.nd (bp F_nearer (hr.mono (by decide)) (aj (ah 4) (aj (ah 1) ar))))
      (aA (dm 2 (bP (aj aH (aj aH (aj (ah 4) (aj (ah 3) ar)))))))))))
      (aA (aP (ah 2))))))
noncomputable abbrev kl : Stmt := top 21
theorem ou : bu ["stitches", "deeds", "stitch", "start", "end"] ["stitches"] (aM kl) := ⟨rfl, rfl, rfl, by decide +kernel, rfl, by decide +kernel, by decide +kernel⟩
noncomputable def uV : DM Fl :=
    (ak (bV 1 (bF ai))
    (ak (b0 (fIt (aD 1 (af (ae 0) ai) dO) cD) (b9 [2, 3, 4]) (fIf (au (ag (ae 2) (fC (.str "l")) gEq)) (bS 1 (aD 2 (af (ag (ae 3) (fC (.int 1)) aK) (af (ae 3) ai)) dJ)) (fIf (au (ag (ae 2) (fC (.str "r")) gEq)) (bS 1 (aD 2 (af (ae 3) (af (ag (ae 3) (fC (.int 1)) aK) ai)) dJ)) aO)))
    (aI (ae 1))))
noncomputable def h9 : List D → Ro := bA uV 5
theorem A0 {f : Addr} {fd : FuncData} (F : Fun K "joining_moves" "joining_moves" kl f fd) (T : Txt K mg) (F_steps_of : aR P w K mg base 1 "steps_of" 1 dO) (F_moves_along : aR P w K mg base 2 "moves_along" 2 dJ) : aW P w K mg base CX0 3 f fd ["stitches"] (spP K (fun _ => .none) 1 h9) :=
  fnP F ou fun cdv A outer s H E hr =>
      (aw (di 1 ou.nd (bR ar))
      (aw (cM PassesOwn.never rfl (eP (bp F_steps_of (hr.mono (by decide)) (aj (ah 0) ar))) (mK ou.nd) (aA (aV (aU (bB hr.units) (ah 2) aH (aS _)) (aA (gu 1 (bp F_moves_along (hr.mono (by decide)) (aj (az bo (ah 3) ao) (aj (ah 3) ar))))) (aA (aV (aU (bB hr.units) (ah 2) aH (aS _)) (aA (gu 1 (bp F_moves_along (hr.mono (by decide)) (aj (ah 3) (aj (az bo (ah 3) ao) ar))))) aZ)))))
      (aA (aP (ah 1)))))
noncomputable abbrev ku : Stmt := top 23
theorem nK : bu ["stitches", "ways", "goal", "step"] ["stitches"] (aM ku) := ⟨rfl, rfl, rfl, by decide +kernel, rfl, by decide +kernel, by decide +kernel⟩
noncomputable def rp : DM Fl :=
    (ak (bV 1 (bF ai))
    (ak (b0 (nv (aD 1 (af (ae 0) ai) dO)) (b9 [2, 3]) (fIf (au (ag (ag (ae 3) (fC (.int 0)) gIx) (fC (.str "r")) gEq)) (bE 1 (aY (af (ag (ag (ae 3) (fC (.int 1)) gIx) (fC (.int 1)) aK) (af (ae 2) ai)))) (fIf (au (ag (ag (ae 3) (fC (.int 0)) gIx) (fC (.str "o")) gNe)) (bE 1 (aY (af (ag (ae 3) (fC (.int 1)) gIx) (af (ae 2) ai)))) aO)))
    (aI (ae 1))))
noncomputable def jN : List D → Ro := bA rp 4
theorem BR {f : Addr} {fd : FuncData} (F : Fun K "ways_of" "ways_of" ku f fd) (T : Txt K mg) (F_steps_of : aR P w K mg base 1 "steps_of" 1 dO) : aW P w K mg base CX0 2 f fd ["stitches"] (spP K (fun _ => .none) 1 jN) :=
  fnP F nK fun cdv A outer s H E hr =>
      (aw (di 1 nK.nd (bR ar))
      (aw (cM PassesOwn.never rfl (AA T.b_enumerate (bp F_steps_of (hr.mono (by decide)) (aj (ah 0) ar))) (lh nK.nd) (aA (aV (aU (bB hr.units) (ba (ah 3) ao) aH (aS _)) (aA (dm 1 (bP (aj (az bo (ba (ah 3) ao) ao) (aj (ah 2) ar))))) (aA (aV (aU (kP hr.units) (ba (ah 3) ao) aH (aS _)) (aA (dm 1 (bP (aj (ba (ah 3) ao) (aj (ah 2) ar))))) aZ)))))
      (aA (aP (ah 1)))))
noncomputable abbrev kz : Stmt := top 22
theorem lI : bu ["stitches", "ways", "deeds", "source", "goal"] ["stitches"] (aM kz) := ⟨rfl, rfl, rfl, by decide +kernel, rfl, by decide +kernel, by decide +kernel⟩
noncomputable def tU : DM Fl :=
    (ak (aF 1 (aD 1 (af (ae 0) ai) jN))
    (ak (bV 2 (bF ai))
    (ak (b0 (lX (ae 1)) (b9 [3, 4]) (fIf (au (ag (ae 3) (ae 4) (aX lt))) (bS 2 (aD 2 (af (ae 3) (af (ae 4) ai)) dJ)) aO))
    (ak (b0 (fIt (ae 1) cD) (b9 [3, 4]) (fIf (au (ag (ae 3) (ae 4) (aX gt))) (bS 2 (aD 2 (af (ae 3) (af (ae 4) ai)) dJ)) aO))
    (aI (ae 2))))))
noncomputable def hW : List D → Ro := bA tU 5
theorem xj {f : Addr} {fd : FuncData} (F : Fun K "placing_moves" "placing_moves" kz f fd) (T : Txt K mg) (F_ways_of : aR P w K mg base 2 "ways_of" 1 jN) (F_moves_along : aR P w K mg base 2 "moves_along" 2 dJ) : aW P w K mg base CX0 3 f fd ["stitches"] (spP K (fun _ => .none) 1 hW) :=
  fnP F lI fun cdv A outer s H E hr =>
      (aw (aT 1 lI.nd (bp F_ways_of (hr.mono (by decide)) (aj (ah 0) ar)))
      (aw (di 2 lI.nd (bR ar))
      (aw (cM PassesOwn.never rfl (Bk T.b_reversed (ah 1)) (lh lI.nd) (aA (aV (aU fR (ah 3) (ah 4) (aS _)) (aA (gu 2 (bp F_moves_along (hr.mono (by decide)) (aj (ah 3) (aj (ah 4) ar))))) aZ)))
      (aw (cM PassesOwn.never rfl (eP (ah 1)) (lh lI.nd) (aA (aV (aU cmp_gt (ah 3) (ah 4) (aS _)) (aA (gu 2 (bp F_moves_along (hr.mono (by decide)) (aj (ah 3) (aj (ah 4) ar))))) aZ)))
      (aA (aP (ah 2)))))))
noncomputable abbrev ka : Stmt := top 27
theorem AX : bu ["stitch", "hook", "yarn"] ["stitch", "hook", "yarn"] (aM ka) := ⟨rfl, rfl, rfl, by decide +kernel, rfl, by decide +kernel, by decide +kernel⟩
noncomputable def so : DM Fl :=
    (ak (fIf (au (ag (ae 0) (fC (.str "s")) gEq)) (aI (bF ai)) aO)
    (ak (fIf (au (ag (ae 0) (aY (af (fC (.str "t")) (af (fC (.str "o")) ai))) gIn)) (aI (bF (af (aY (af (fC (.str "tuck")) (af (fC (.str "f")) (af (ae 1) (af (ae 2) ai))))) ai))) aO)
    (ak (fIf (au (ag (ae 0) (fC (.str "p")) gEq)) (aI (bF (af (aY (af (fC (.str "move")) (af (fC (.str "f")) (af (ae 1) (af (ae 1) ai))))) (af (aY (af (fC (.str "knit")) (af (fC (.str "b")) (af (ae 1) (af (ae 2) ai))))) (af (aY (af (fC (.str "move")) (af (fC (.str "b")) (af (ae 1) (af (ae 1) ai))))) ai))))) aO)
    (aI (bF (af (aY (af (fC (.str "knit")) (af (fC (.str "f")) (af (ae 1) (af (ae 2) ai))))) ai))))))
noncomputable def i7 : List D → Ro := bA so 3
theorem wz {f : Addr} {fd : FuncData} (F : Fun K "stitch_deeds" "stitch_deeds" ka f fd) (T : Txt K mg)  : aW P w K mg base CX0 1 f fd ["stitch", "hook", "yarn"] (spP K (fun _ => .none) 3 i7) :=
  fnP F AX fun cdv A outer s H E hr =>
      (aw (aV (aU (bB hr.units) (ah 0) aH (aS _)) (aA (aP (bR ar))) aZ)
      (aw (aV (aU pw (ah 0) (bP (aj aH (aj aH ar))) (by with_unfolding_all rfl)) (aA (aP (bR (aj (bP (aj aH (aj aH (aj (ah 1) (aj (ah 2) ar))))) ar)))) aZ)
      (aw (aV (aU (bB hr.units) (ah 0) aH (aS _)) (aA (aP (bR (aj (bP (aj aH (aj aH (aj (ah 1) (aj (ah 1) ar))))) (aj (bP (aj aH (aj aH (aj (ah 1) (aj (ah 2) ar))))) (aj (bP (aj aH (aj aH (aj (ah 1) (aj (ah 1) ar))))) ar)))))) aZ)
      (aA (aP (bR (aj (bP (aj aH (aj aH (aj (ah 1) (aj (ah 2) ar))))) ar)))))))
noncomputable abbrev kf : Stmt := top 26
theorem ni : bu ["row", "from_right", "stitches", "deeds", "hook", "stitch"] ["row", "from_right"] (aM kf) := ⟨rfl, rfl, rfl, by decide +kernel, rfl, by decide +kernel, by decide +kernel⟩
noncomputable def vk : DM Fl :=
    (ak (bV 2 (fUn (ag (ae 0) (fC (.int 2)) gIx) lE))
    (ak (fIf (au (ae 1)) (eQ 2) aO)
    (ak (bV 3 (bF ai))
    (ak (fun δ => (b0 (fIt (ae 2) cD) (b9 [4, 5]) (bS 3 (aD 3 (af (ae 5) (af (ae 4) (af (ag (ae 0) (fC (.int 1)) gIx) ai))) i7))) (frz 2 δ))
    (aI (ae 3))))))
noncomputable def gP : List D → Ro := bA vk 6
theorem BX {f : Addr} {fd : FuncData} (F : Fun K "worked_deeds" "worked_deeds" kf f fd) (T : Txt K mg) (F_stitch_deeds : aR P w K mg base 1 "stitch_deeds" 3 i7) : aW P w K mg base CX0 2 f fd ["row", "from_right"] (spP K (fun _ => .none) 2 gP) :=
  fnP F ni fun cdv A outer s H E hr =>
      (aw (di 2 ni.nd (Cp (ba (ah 0) ao) rfl T.b_list T.b_enumerate))
      (aw (aV (cz (ah 1)) (aA (mI 2)) aZ)
      (aw (di 3 ni.nd (bR ar))
      (aw (jx 2 (cM PassesOwn.never rfl (eP (ah 2)) (lh ni.nd) (aA (gu 3 (bp F_stitch_deeds (hr.mono (by decide)) (aj (ah 5) (aj (ah 4) (aj (ba (ah 0) ao) ar))))))))
      (aA (aP (ah 3)))))))
noncomputable abbrev j3 : Stmt := top 20
theorem jn : bu ["pattern", "cast", "deeds", "from_right", "row"] ["pattern"] (aM j3) := ⟨rfl, rfl, rfl, by decide +kernel, rfl, by decide +kernel, by decide +kernel⟩
noncomputable def n0 : DM Fl :=
    (ak (gQ (aD 1 (af (ae 0) ai) dS))
    (ak (aF 1 (ag (ae 0) (fC (.int 0)) gIx))
    (ak (bV 2 (fLC (dv (af (ag (ae 1) (fC (.int 1)) gIx) ai)) (bg 0) (.ret true) (aY (af (fC (.str "tuck")) (af (fC (.str "f")) (af (ae 0) (af (ag (ae 1) (fC (.int 2)) gIx) ai))))) [none, some 1]))
    (ak (aF 3 (fC (.bl true)))
    (ak (b0 (fIt (cO (ae 0) (bT (fC (.int 1))) fE) cD) (bg 4) (ak (bS 2 (aD 1 (af (ag (ae 4) (fC (.int 2)) gIx) ai) h9))
    (ak (bS 2 (aD 1 (af (ag (ae 4) (fC (.int 2)) gIx) ai) hW))
    (ak (bS 2 (aD 2 (af (ae 4) (af (ae 3) ai)) gP))
    (aF 3 (gk (ae 3)))))))
    (aI (ae 2)))))))
noncomputable def eH : List D → Ro := dU n0 5
theorem C3 {f : Addr} {fd : FuncData} (F : Fun K "made" "made" j3 f fd) (T : Txt K mg) (F_need_good : eB P w K mg base 4 "need_good" 1 dS) (F_joining_moves : aR P w K mg base 3 "joining_moves" 1 h9) (F_placing_moves : aR P w K mg base 3 "placing_moves" 1 hW) (F_worked_deeds : aR P w K mg base 2 "worked_deeds" 2 gP) : aW P w K mg base (Fly P w) 5 f fd ["pattern"] (spP K (dQ mg) 1 eH) :=
  fnX F jn fun cdv A outer s H E hr =>
      (aw (vn (tF F_need_good rX (hr.mono (by decide)) (aj (ah 0) ar)))
      (aw (aT 1 jn.nd (ba (ah 0) ao))
      (aw (rj 2 jn.nd (N := ["hook", "cast"]) (sel := [none, some 1]) ⟨rfl, rfl, rfl, rfl, rfl, rfl⟩ rfl (gF T.b_range (aj (ba (ah 1) ao) ar)) (fun _ => cU wM) (fun _ => il) (fun _ => (bP (aj aH (aj aH (aj (ah 0) (aj (ba (ah 1) ao) ar)))))))
      (aw (aT 3 jn.nd d8)
      (aw (cM PassesOwn.leaving rfl (eP (fW (ah 0) (eF ao) jy)) (cU jn.nd) (aw (gu 2 (nc F_joining_moves (fun _ _ => mx) (hr.mono (by decide)) (aj (ba (ah 4) ao) ar)))
      (aw (gu 2 (nc F_placing_moves (fun _ _ => mx) (hr.mono (by decide)) (aj (ba (ah 4) ao) ar)))
      (aw (gu 2 (nc F_worked_deeds (fun _ _ => mx) (hr.mono (by decide)) (aj (ah 4) (aj (ah 3) ar))))
      (aA (aT 3 jn.nd (vD (ah 3))))))))
      (aA (aP (ah 2))))))))
noncomputable abbrev j0 : Stmt := top 43
theorem jV : bu ["many", "cell", "at", "row", "rows", "first", "lean"] ["many", "cell"] (aM j0) := ⟨rfl, rfl, rfl, by decide +kernel, rfl, by decide +kernel, by decide +kernel⟩
noncomputable def ua : DM Fl :=
    (ak (aF 2 (ag (ae 1) (ae 0) bc))
    (ak (aF 3 (ag (ag (ag (fC (.str "s")) (ae 2) aQ) (fC (.str "t")) aK) (ag (fC (.str "s")) (ag (ag (ae 0) (fC (.int 1)) cu) (ae 2) cu) aQ) aK))
    (ak (aF 4 (bF (af (ae 3) (af (ae 3) (af (ae 3) ai)))))
    (ak (fIf (bX (au (ag (ag (ag (ae 1) (ae 0) bJ) (fC (.int 2)) bc) (fC (.int 1)) gEq)) (au (ag (ae 0) (fC (.int 1)) (aX gt)))) (ak (aF 5 (fCB (af (ae 2) (af (ag (ae 0) (fC (.int 2)) cu) ai)) fk))
    (ak (aF 6 (ag (fC (.str "lr")) (ag (ag (ag (ae 1) (ae 0) bJ) (fC (.int 2)) bJ) (fC (.int 2)) bc) gIx))
    (aI (ag (ae 4) (bF (af (ag (ag (ag (fC (.str "s")) (ae 5) aQ) (ae 6) aK) (ag (fC (.str "k")) (ag (ag (ae 0) (fC (.int 2)) cu) (ae 5) cu) aQ) aK) ai)) aK)))) aO)
    (aI (ag (ae 4) (bF (af (ae 3) ai)) aK))))))
noncomputable def iy : List D → Ro := bA ua 7
theorem yY {f : Addr} {fd : FuncData} (F : Fun K "_law_crowded" "_law_crowded" j0 f fd) (T : Txt K mg)  : aW P w K mg base CX0 1 f fd ["many", "cell"] (spP K (fun _ => .none) 2 iy) :=
  fnP F jV fun cdv A outer s H E hr =>
      (aw (aT 2 jV.nd (az cm (ah 1) (ah 0)))
      (aw (aT 3 jV.nd (az bo (az bo (az bL aH (ah 2)) aH) (az bL aH (az dY (az dY (ah 0) ao) (ah 2)))))
      (aw (aT 4 jV.nd (bR (aj (ah 3) (aj (ah 3) (aj (ah 3) ar)))))
      (aw (aV (df (kA (aU (bB hr.units) (az cm (az dF (ah 1) (ah 0)) ao) ao (aS _)) (jY (aU cmp_gt (ah 0) ao (aS _))))) (aw (aT 5 jV.nd (bY (nr rfl) T.b_min nz (aj (ah 2) (aj (az dY (ah 0) ao) ar))))
      (aw (aT 6 jV.nd (ba aH (az cm (az dF (az dF (ah 1) (ah 0)) ao) ao)))
      (aA (aP (az bo (ah 4) (bR (aj (az bo (az bo (az bL aH (ah 5)) (ah 6)) (az bL aH (az dY (az dY (ah 0) ao) (ah 5)))) ar))))))) aZ)
      (aA (aP (az bo (ah 4) (bR (aj (ah 3) ar)))))))))
noncomputable abbrev kg : Stmt := top 44
theorem nR : bu ["pattern", "turn", "e"] ["pattern"] (aM kg) := ⟨rfl, rfl, rfl, by decide +kernel, rfl, by decide +kernel, by decide +kernel⟩
noncomputable def qv : DM Fl :=
    (ak (b0 (dv (af (fC (.int 2)) ai)) (bg 1) (iT (gO 1 (af (fCB (af (ae 0) ai) d4) ai) ey) (aI (fC (.bl false))) (fun c => match lQ c with | some true => fun δ => kG 2 ((ak (fIf (bO (cH (au (fUn (ae 2) (dw kY)))) (cH (au (fUn (ae 2) (dw mW))))) (aI (fC (.bl false))) aO) (fIf (bO (au (fUn (ae 2) (dw lp))) (au (fUn (ae 2) (dw lC)))) (aI (fC (.bl false))) aO)) (δ.set 2 (.sh (.exc c)))) | some false => (fun _ _ => .un) c | none => fun _ => .un)))
    (aI (fC (.bl true))))
noncomputable def gS : List D → Ro := bA qv 3
theorem Bh {f : Addr} {fd : FuncData} (F : Fun K "_law_refused" "_law_refused" kg f fd) (T : Txt K mg) (F_told : eB P w K mg base 5 "told" 1 ey) : aW P w K mg base CX0 6 f fd ["pattern"] (spP K (fun _ => .none) 1 gS) :=
  fnP F nR fun cdv A outer s H E hr =>
      (aw (cM PassesOwn.never rfl (gF T.b_range (aj ao ar)) (cU nR.nd) (aA (qZ (ud F_told (hr.mono (by decide)) (aj (kc kN T.b_list iW (aj (ah 0) ar)) ar)) (aA (aP d8)) (tW 2 T.h_Unfit.choose_spec.2.1 T.h_Unfit.choose_spec.1 nR.nd (fun _ => (aw (aV (df (fJ (h8 (cz (ib (v := .ref T.h_LoopError.choose) T.h_LoopError.choose_spec.2.2 (fun _ z => z) (hV rfl T.h_LoopError.choose_spec.1 rfl) T.b_isinstance (ah 2)))) (fm (h8 (cz (ib (v := .ty "ValueError") T.h_ValueError (fun _ z => z) (oM (v := .ty "ValueError") rfl T.b_ValueError rQ rfl) T.b_isinstance (ah 2))))))) (aA (aP d8)) aZ)
      (aA (aV (df (fJ (cz (ib (v := .ref T.h_NoPattern.choose) T.h_NoPattern.choose_spec.2.2 (fun _ z => z) (hV rfl T.h_NoPattern.choose_spec.1 rfl) T.b_isinstance (ah 2))) (fm (cz (ib (v := .ref T.h_BedFault.choose) T.h_BedFault.choose_spec.2.2 (fun _ z => z) (hV rfl T.h_BedFault.choose_spec.1 rfl) T.b_isinstance (ah 2)))))) (aA (aP d8)) aZ)))) uc))))
      (aA (aP d8)))
noncomputable abbrev jO : Stmt := top 45
theorem oi : bu ["pattern", "turn", "e"] ["pattern"] (aM jO) := ⟨rfl, rfl, rfl, by decide +kernel, rfl, by decide +kernel, by decide +kernel⟩
noncomputable def u0 : DM Fl :=
    (ak (b0 (dv (af (fC (.int 2)) ai)) (bg 1) (iT (gO 1 (af (fCB (af (ae 0) ai) d4) ai) eH) (aI (fC (.bl false))) (fun c => match lQ c with | some true => fun δ => kG 2 ((ak (fIf (bO (cH (au (fUn (ae 2) (dw kY)))) (cH (au (fUn (ae 2) (dw mW))))) (aI (fC (.bl false))) aO) (fIf (bO (au (fUn (ae 2) (dw lp))) (au (fUn (ae 2) (dw lC)))) (aI (fC (.bl false))) aO)) (δ.set 2 (.sh (.exc c)))) | some false => (fun _ _ => .un) c | none => fun _ => .un)))
    (aI (fC (.bl true))))
noncomputable def gU : List D → Ro := bA u0 3
theorem yi {f : Addr} {fd : FuncData} (F : Fun K "_law_unmade" "_law_unmade" jO f fd) (T : Txt K mg) (F_made : eB P w K mg base 5 "made" 1 eH) : aW P w K mg base CX0 6 f fd ["pattern"] (spP K (fun _ => .none) 1 gU) :=
  fnP F oi fun cdv A outer s H E hr =>
      (aw (cM PassesOwn.never rfl (gF T.b_range (aj ao ar)) (cU oi.nd) (aA (qZ (ud F_made (hr.mono (by decide)) (aj (kc kN T.b_list iW (aj (ah 0) ar)) ar)) (aA (aP d8)) (tW 2 T.h_Unfit.choose_spec.2.1 T.h_Unfit.choose_spec.1 oi.nd (fun _ => (aw (aV (df (fJ (h8 (cz (ib (v := .ref T.h_LoopError.choose) T.h_LoopError.choose_spec.2.2 (fun _ z => z) (hV rfl T.h_LoopError.choose_spec.1 rfl) T.b_isinstance (ah 2)))) (fm (h8 (cz (ib (v := .ty "ValueError") T.h_ValueError (fun _ z => z) (oM (v := .ty "ValueError") rfl T.b_ValueError rQ rfl) T.b_isinstance (ah 2))))))) (aA (aP d8)) aZ)
      (aA (aV (df (fJ (cz (ib (v := .ref T.h_NoPattern.choose) T.h_NoPattern.choose_spec.2.2 (fun _ z => z) (hV rfl T.h_NoPattern.choose_spec.1 rfl) T.b_isinstance (ah 2))) (fm (cz (ib (v := .ref T.h_BedFault.choose) T.h_BedFault.choose_spec.2.2 (fun _ z => z) (hV rfl T.h_BedFault.choose_spec.1 rfl) T.b_isinstance (ah 2)))))) (aA (aP d8)) aZ)))) uc))))
      (aA (aP d8)))
noncomputable abbrev gh : Stmt := top 46
theorem eW : bu ["script", "good", "width", "bad", "rows", "pattern", "found", "deeds"] ["script"] (aM gh) := ⟨rfl, rfl, rfl, by decide +kernel, rfl, by decide +kernel, by decide +kernel⟩
noncomputable def rl : DM Fl :=
    (ak (aF 1 (aD 3 (af (ae 0) (af (ag (aD 2 (af (ae 0) (af (fC (.int 0)) ai)) cI) (fC (.int 6)) bc) (af (fC (.int 9)) ai))) je))
    (ak (aF 2 (fCB (af (ag (ag (ae 1) (fUn (fC (.int 1)) ft) gIx) (fC (.int 2)) gIx) ai) bq))
    (ak (fIf (au (ag (fCB (af (ae 1) ai) bq) (fC (.int 1)) gEq)) (aF 2 (ag (ag (ae 1) (fC (.int 0)) gIx) (fC (.int 1)) gIx)) aO)
    (ak (aF 3 (aD 2 (af (ag (ag (aD 2 (af (ae 0) (af (fC (.int 1)) ai)) cI) (fC (.int 9)) bJ) (fC (.int 1000)) bc) (af (ae 2) ai)) gR))
    (ak (fIf (au (ag (ae 3) (fC .non) mj)) (ak (aF 4 (aD 2 (af (ag (ag (ae 1) (fC (.int 0)) gIx) (fC (.int 1)) gIx) (af (ag (ag (aD 2 (af (ae 0) (af (fC (.int 1)) ai)) cI) (fC (.int 9)) bJ) (fC (.int 1009)) bc) ai)) iy))
    (ak (aF 1 (ag (cO (ae 1) fE (bT (fC (.int 1)))) (fLC (fIt (cO (ae 4) fE (bT (fUn (fC (.int 1)) ft))) cD) (bg 0) (.ret true) (aY (af (fC (.str "row")) (af (fC (.str "b")) (af (ae 0) ai)))) [none]) aK))
    (aF 3 (ag (ae 4) (fUn (fC (.int 1)) ft) gIx)))) aO)
    (ak (bV 5 (ag (ae 1) (bF (af (aY (af (fC (.str "row")) (af (fC (.str "c")) (af (ae 3) ai)))) ai)) aK))
    (ak (fIf (au (ag (ag (ag (aD 2 (af (ae 0) (af (fC (.int 0)) ai)) cI) (fC (.int 6)) bJ) (fC (.int 2)) bc) (fC (.int 1)) gEq)) (bE 5 (aY (af (fC (.str "row")) (af (fC (.str "a")) (af (fC (.str "k")) ai))))) aO)
    (ak (fun δ => (fIf (bO (cH (au (aD 1 (af (ae 5) ai) gS))) (cH (au (aD 1 (af (ae 5) ai) gU)))) (aI (fC (.bl false))) aO) (frz 5 δ))
    (ak (aF 6 (aD 1 (af (fCB (af (ae 1) ai) d4) ai) ey))
    (ak (aF 7 (aD 1 (af (fCB (af (ae 1) ai) d4) ai) eH))
    (ak (fIf (bO (cH (au (fUn (ae 6) (gIs "tuple")))) (cH (au (fUn (ag (ae 6) (fC (.int 0)) gIx) (gIs "list"))))) (aI (fC (.bl false))) aO)
    (aI (eE (fUn (ae 7) (gIs "list")) (ag (fCB (af (ae 7) ai) bq) (fC (.int 0)) (aX gt)))))))))))))))
noncomputable def iK : List D → Ro := bA rl 8
theorem yT {f : Addr} {fd : FuncData} (F : Fun K "law" "law" gh f fd) (T : Txt K mg) (F_pattern : aR P w K mg base 3 "_law_pattern" 3 je) (F_faulty : aR P w K mg base 1 "_law_faulty" 2 gR) (F_told : eB P w K mg base 5 "told" 1 ey) (F_made : eB P w K mg base 5 "made" 1 eH) (F_crowded : aR P w K mg base 1 "_law_crowded" 2 iy) (F_cell_at : aR P w K mg base 1 "_law_cell_at" 2 cI) (F_refused : aR P w K mg base 6 "_law_refused" 1 gS) (F_unmade : aR P w K mg base 6 "_law_unmade" 1 gU) : aW P w K mg base CX0 7 f fd ["script"] (spP K (fun _ => .none) 1 iK) :=
  fnP F eW fun cdv A outer s H E hr =>
      (aw (aT 1 eW.nd (bp F_pattern (hr.mono (by decide)) (aj (ah 0) (aj (az cm (bp F_cell_at (hr.mono (by decide)) (aj (ah 0) (aj ao ar))) ao) (aj ao ar)))))
      (aw (aT 2 eW.nd (bY dt T.b_len dk (aj (ba (ba (ah 1) (n8 ao)) ao) ar)))
      (aw (aV (aU (bB hr.units) (bY dt T.b_len dk (aj (ah 1) ar)) ao (aS _)) (aA (aT 2 eW.nd (ba (ba (ah 1) ao) ao))) aZ)
      (aw (aT 3 eW.nd (bp F_faulty (hr.mono (by decide)) (aj (az cm (az dF (bp F_cell_at (hr.mono (by decide)) (aj (ah 0) (aj ao ar))) ao) ao) (aj (ah 2) ar))))
      (aw (aV (aU zM (ah 3) lW (aS _)) (aw (aT 4 eW.nd (bp F_crowded (hr.mono (by decide)) (aj (ba (ba (ah 1) ao) ao) (aj (az cm (az dF (bp F_cell_at (hr.mono (by decide)) (aj (ah 0) (aj ao ar))) ao) ao) ar))))
      (aw (aT 1 eW.nd (az bo (fW (ah 1) jy (eF ao)) (lZ (N := ["row"]) (sel := [none]) ⟨rfl, rfl, rfl, rfl, rfl, rfl⟩ rfl (eP (fW (ah 4) jy (eF (n8 ao)))) (fun _ => cU w9) (fun _ => il) (fun _ => (bP (aj aH (aj aH (aj (ah 0) ar))))))))
      (aA (aT 3 eW.nd (ba (ah 4) (n8 ao)))))) aZ)
      (aw (di 5 eW.nd (az bo (ah 1) (bR (aj (bP (aj aH (aj aH (aj (ah 3) ar)))) ar))))
      (aw (aV (aU (bB hr.units) (az cm (az dF (bp F_cell_at (hr.mono (by decide)) (aj (ah 0) (aj ao ar))) ao) ao) ao (aS _)) (aA (dm 5 (bP (aj aH (aj aH (aj aH ar)))))) aZ)
      (aw (jx 5 (aV (df (fJ (h8 (cz (bp F_refused (hr.mono (by decide)) (aj (ah 5) ar)))) (fm (h8 (cz (bp F_unmade (hr.mono (by decide)) (aj (ah 5) ar))))))) (aA (aP d8)) aZ))
      (aw (aT 6 eW.nd (pW F_told (hr.mono (by decide)) (aj (kc kN T.b_list iW (aj (ah 1) ar)) ar)))
      (aw (aT 7 eW.nd (pW F_made (hr.mono (by decide)) (aj (kc kN T.b_list iW (aj (ah 1) ar)) ar)))
      (aw (aV (df (fJ (h8 (cz (n5 T.b_isinstance T.b_tuple uB (ah 6)))) (fm (h8 (cz (n5 T.b_isinstance T.b_list iW (ba (ah 6) ao))))))) (aA (aP d8)) aZ)
      (aA (aP (pI (n5 T.b_isinstance T.b_list iW (ah 7)) (pB (fP cmp_gt (bY dt T.b_len dk (aj (ah 7) ar)) ao (aS _)))))))))))))))))
end
end Lw
set_option bootstrap.genMatcherCode true
local macro_rules | `(tactic| walk_at "ev1") => `(tactic| first
  | (with_reducible (first | exact DL.ax | exact DL.aN | exact DL.cx | exact DL.lA))
  | ((with_reducible apply DL.aq); rfl)
  | ((with_reducible apply DL.hZ); rfl)
  | ((with_reducible change DL.res _ _ = _); rfl)
  | ((with_reducible change DL.norm _ = _); rfl)
  | ((with_reducible change DL.cw _ = _); rfl)
  | ((with_reducible change DL.fG _ _ = _); rfl)
  | (with_reducible (first | assumption))
  | ((with_reducible change DL.bD _ _ _ _ = _); assumption)
  | ((with_reducible change DL.cT _ _ _ _ = _); assumption)
  | ((with_reducible change DL.cf _ _ _ _ _ _ = _); assumption)
  | (with_reducible (first | apply DL.aC | apply DL.ay | apply DL.fw | apply DL.dE | apply DL.aG | apply DL.aJ | exact DL.jK | exact DL.lP | apply DL.bM | apply DL.eo | apply DL.dy | apply DL.cX | apply DL.bz | apply DL.kj | apply DL.jW | apply DL.ik | apply DL.wX))
  | ((with_reducible apply DL.vv); rfl)
  | ((with_reducible apply DL.fh); rfl)
  | (with_reducible (first | apply DL.fz | apply DL.bj | apply DL.yF | apply DL.AK | apply DL.Ci))
  | ((with_reducible apply DL.cy); first | with_reducible assumption | decide | with_unfolding_all rfl)
  | ((with_reducible apply DL.cg); first | with_reducible assumption | decide | with_unfolding_all rfl)
  | (with_reducible (first | apply DL.B0 | apply DL.lu | apply DL.lN | apply DL.vf | apply DL.lJ))
  | ((with_reducible apply DL.gI); rfl)
  | (with_reducible (first | apply DL.dM | apply DL.cQ | apply DL.sP | apply DL.qE | apply DL.eX | exact DL.gz | exact DL.o8))
  | ((with_reducible apply DL.wC); rfl)
  | ((with_reducible change DL.eS _ _ _ = _); rfl)
  | (with_reducible (first | exact DL.rR | exact DL.nW | exact DL.zJ | exact DL.xH | apply DL.iH | apply DL.mF | exact DL.kJ | apply DL.BI | apply DL.iL | apply DL.eO | exact DL.iz | apply DL.CW | apply DL.iE | exact DL.hX | apply DL.gH | apply DL.gr | apply DL.Bs | apply DL.mZ))
  | rfl
  | ((with_reducible apply DL.zR) <;> omega)
  | ((with_reducible apply DL.jq) <;> omega)
  | exact Nat.le_of_ble_eq_true rfl
  | (unfold PySem.sizeLine; omega)
  | assumption)
local macro_rules | `(tactic| walk_at "ev") => `(tactic| repeat walk_at "ev1")
namespace Lw
open PySem L2 DL
noncomputable def codes : List Nat := [107, 112, 116, 115, 108, 114, 111]
noncomputable def tkn (c : Nat) : Nat := if c = 111 then 0 else if c = 108 ∨ c = 114 then 2 else 1
noncomputable def met (c : Nat) (cs : List Int) : Int := (cs.take (tkn c)).sum
noncomputable def fits (c : Nat) (cs : List Int) : Prop := tkn c ≤ cs.length ∧ (c = 116 → met c cs < 4) ∧ (c = 108 ∨ c = 114 → met c cs ≤ 4)
noncomputable def cj (c : Nat) (cs : List Int) : Int := if c = 115 then met c cs else if c = 116 then met c cs + 1 else 1
noncomputable def bw : List Nat → List Int → List Int → Prop
  | [], cs, r => cs = r
  | c :: w, cs, r => c ∈ codes ∧ fits c cs ∧ bw w (cs.drop (tkn c)) r
noncomputable def outs : List Nat → List Int → List Int
  | [], _ => []
  | c :: w, cs => cj c cs :: outs w (cs.drop (tkn c))
theorem i3 : ∀ {u w : List Nat} {cs r q : List Int}, bw u cs r → bw w r q → bw (u ++ w) cs q
  | [], _, _, _, _, h, h2 => by cases (show _ = _ from h); exact h2
  | _ :: _, _, _, _, _, h, h2 => ⟨h.1, h.2.1, i3 h.2.2 h2⟩
theorem gM : ∀ {w : List Nat} {cs r : List Int}, bw w cs r → ∀ c ∈ w, c ∈ codes
  | [], _, _, _, c, hc => by cases hc
  | d :: w, _, _, h, c, hc => by
    rcases List.mem_cons.mp hc with rfl | hc
    · exact h.1
    · exact gM h.2.2 c hc
theorem nA : ∀ {w : List Nat} {cs r : List Int}, bw w cs r → cs.length = (w.map tkn).sum + r.length
  | [], _, _, h => by cases (show _ = _ from h); simp
  | c :: w, cs, r, h => by
    have := nA h.2.2
    have h1 := h.2.1.1
    rw [List.length_drop] at this
    rw [List.map_cons, List.sum_cons]
    omega
theorem jd : ∀ (w : List Nat) (cs : List Int), (outs w cs).length = w.length
  | [], _ => rfl
  | c :: w, cs => by show (outs w _).length + 1 = w.length + 1; rw [jd w]
noncomputable def okC (cs : List Int) : Prop := ∀ x ∈ cs, 1 ≤ x ∧ x ≤ 4
theorem okC.drop {cs : List Int} (h : okC cs) (n : Nat) : okC (cs.drop n) := fun x hx => h x (List.mem_of_mem_drop hx)
theorem u6 {c : Nat} {cs : List Int} (hc : c = 115 ∨ c = 116) (hf : fits c cs) (hk : okC cs) : 1 ≤ met c cs ∧ met c cs ≤ 4 := by
  have ht : tkn c = 1 := by rcases hc with rfl | rfl <;> rfl
  have h1 := hf.1
  rw [ht] at h1
  cases cs with
  | nil => simp at h1
  | cons a r =>
    unfold met
    rw [ht]
    have := hk a List.mem_cons_self
    simpa using this
theorem vc : ∀ {w : List Nat} {cs r : List Int}, bw w cs r → okC cs → okC (outs w cs)
  | [], _, _, _, _, x, hx => by cases hx
  | c :: w, cs, r, h, hk, x, hx => by
    rcases List.mem_cons.mp hx with rfl | hx
    · unfold cj
      split
      · rename_i hc; exact u6 (.inl hc) h.2.1 hk
      · split
        · rename_i hc
          have h1 := u6 (.inr hc) h.2.1 hk
          have h2 := h.2.1.2.1 hc
          omega
        · omega
    · exact vc h.2.2 (hk.drop _) x hx
noncomputable def iD (cs : List Int) : List D := cs.map D.int
theorem eJ (cs : List Int) : (iD cs).length = cs.length := List.length_map _
theorem iI {cs : List Int} {i : Int} {c : Int} (h0 : 0 ≤ i) (h : cs[i.toNat]? = some c) : gIx (.lst (iD cs)) (.int i) = some (.val (.int c)) :=
  oZ (yq h0 (by unfold iD; rw [List.getElem?_map, h]; rfl))
theorem dz (cs : List Int) : bq [.lst (iD cs)] = some (.val (.int (cs.length : Int))) := by
  show some (DV.val (.int _)) = _
  rw [eJ]
theorem qQ : ∀ cs : List Int, intsOf (iD cs) = some cs
  | [] => rfl
  | c :: cs => by
    show (intsOf (iD cs)).map _ = _
    rw [qQ cs]; rfl
noncomputable abbrev ch (c : Nat) : Str := ⟨#[c]⟩
theorem oF {cs : List Int} {a : Int} {c : Nat} (ha : 0 ≤ a) (hl : a.toNat + tkn c ≤ cs.length) : dP (.lst (iD cs)) (some a) (some (a + (tkn c : Nat))) = some (.own (iD ((cs.drop a.toNat).take (tkn c)))) := by
  rw [hX]
  have e1 : HT.sIx (iD cs).length 0 (some a) = a.toNat := by
    have := HT.gb (iD cs).length 0 a.toNat
    rw [Int.toNat_of_nonneg ha] at this
    rw [this, eJ]; omega
  have e2 : HT.sIx (iD cs).length (iD cs).length (some (a + (tkn c : Nat))) = a.toNat + tkn c := by
    have := HT.gb (iD cs).length (iD cs).length (a.toNat + tkn c)
    have q : ((a.toNat + tkn c : Nat) : Int) = a + (tkn c : Nat) := by omega
    rw [q] at this
    rw [this, eJ]; omega
  unfold cutD
  rw [e1, e2, Nat.add_sub_cancel_left]
  unfold iD
  rw [← List.map_drop, ← List.map_take]
theorem pJ {cs : List Int} {a : Int} {c : Nat} : fT [.lst (iD ((cs.drop a.toNat).take (tkn c)))] = some (.val (.int (met c (cs.drop a.toNat)))) := by
  show (intsOf _).map _ = _
  rw [qQ]; rfl
theorem vo {c : Nat} (h : c ∈ codes) : gY eZ (.str (ch c)) = some (.val (.int (tkn c : Nat))) := by
  show (tabAt (ch c) eZ).map _ = _
  rw [(by decide +kernel : ∀ c ∈ codes, tabAt (ch c) eZ = some ((tkn c : Nat) : Int)) c h]; rfl
end Lw
namespace Lw
open PySem L2 DL
noncomputable def ez : List Nat → Int → List D
  | [], _ => []
  | c :: w, a => .tup [.str (ch c), .int a, .int (a + (tkn c : Nat))] :: ez w (a + (tkn c : Nat))
noncomputable def nV : DM Fl := (ak (aF 4 (ag (ae 2) (fUn (ae 3) (gY eZ)) aK))
    (ak (bE 1 (aY (af (ae 3) (af (ae 2) (af (ae 4) ai)))))
    (aF 2 (ae 4))))
theorem vm (p : Sl) : ∀ (w : List Nat) (a : Int) (ds : List D) (b3 b4 : Sl), (∀ c ∈ w, c ∈ codes) → ds.length + w.length ≤ 1000 → ∃ x2 x3 x4,
    bD (bg 3) nV (w.map fun c => D.str (ch c)) [p, .ow ds, .sh (.int a), b3, b4] = .ok .nx [p, .ow (ds ++ ez w a), x2, x3, x4]
  | [], a, ds, b3, b4, _, _ => ⟨.sh (.int a), b3, b4, by rw [List.map_nil, qk]; show _ = Rs.ok Fl.nx [p, .ow (ds ++ []), _, _, _]; rw [List.append_nil]⟩
  | c :: w, a, ds, b3, b4, hc, hl => by
    rw [List.length_cons] at hl
    obtain ⟨x2, x3, x4, e⟩ := vm p w (a + (tkn c : Nat)) (ds ++ [.tup [.str (ch c), .int a, .int (a + (tkn c : Nat))]]) (.sh (.str (ch c))) (.sh (.int (a + (tkn c : Nat)))) (fun d hd => hc d (List.mem_cons_of_mem _ hd)) (by rw [List.length_append, List.length_singleton]; omega)
    refine ⟨x2, x3, x4, ?_⟩
    rw [List.map_cons]
    refine cB rfl (δ2 := [p, .ow (ds ++ [.tup [.str (ch c), .int a, .int (a + (tkn c : Nat))]]), .sh (.int (a + (tkn c : Nat))), .sh (.str (ch c)), .sh (.int (a + (tkn c : Nat)))]) ?_ ?_
    · have h1 := vo (hc c List.mem_cons_self)
      have h2 : ds.length < sizeLine := by unfold sizeLine; omega
      unfold nV
      apply Eq.trans
      walk_at "ev"
    · rw [e, List.append_assoc]; rfl
theorem jR {x : Str} (hc : ∀ c ∈ x.cps.toList, c ∈ codes) (hl : x.length ≤ 100) : dO [.str x] = .own (ez x.cps.toList 0) := by
  have hl' : x.cps.toList.length ≤ 100 := by simpa [Str.length] using hl
  obtain ⟨x2, x3, x4, e⟩ := vm (.sh (.str x)) x.cps.toList 0 [] .no .no hc (by simp only [List.length_nil]; omega)
  rw [List.nil_append] at e
  have g : fK (.str x) = some (x.cps.toList.map fun c => D.str (ch c)) := rfl
  unfold nV at e
  unfold dO qW
  apply cQ
  walk_at "ev"
theorem vw : ∀ w : List Nat, intsOf (w.map fun c => D.int (tkn c : Nat)) = some (w.map fun c => ((tkn c : Nat) : Int))
  | [] => rfl
  | c :: w => by
    show (intsOf (w.map fun c => D.int (tkn c : Nat))).map _ = _
    rw [vw w]; rfl
theorem qo : ∀ w : List Nat, (w.map fun c => ((tkn c : Nat) : Int)).sum = (((w.map tkn).sum : Nat) : Int)
  | [] => rfl
  | c :: w => by
    rw [List.map_cons, List.sum_cons, qo w, List.map_cons, List.sum_cons]; omega
theorem rD {x : Str} (hc : ∀ c ∈ x.cps.toList, c ∈ codes) (hl : x.length ≤ 100) : jo [.str x] = .ok (.int (((x.cps.toList.map tkn).sum : Nat) : Int)) := by
  have hl' : x.cps.toList.length ≤ 100 := by simpa [Str.length] using hl
  have e : cf (bg 0) (.ret true) (fUn (ae 0) (gY eZ)) (x.cps.toList.map fun c => D.str (ch c)) [.no] [] = some (x.cps.toList.map fun c => D.int (tkn c : Nat)) := by
    rw [comp_map (g := fun d => match d with | .str y => .int ((tkn (y.cps.getD 0 0) : Nat) : Int) | _ => .non) _ .no (by rw [List.length_map]; unfold sizeLine; omega) ?_, List.map_map]
    · rfl
    · intro d hd
      obtain ⟨c, hc', rfl⟩ := List.mem_map.mp hd
      have h1 := vo (hc c hc')
      have h3 : (fUn (ae 0) (gY eZ)) [.sh (.str (ch c))] = .ok (.val (.int (tkn c : Nat))) [.sh (.str (ch c))] := by walk_at "ev"
      unfold fN DM.bd
      rw [h3]
      rfl
  have g : fK (.str x) = some (x.cps.toList.map fun c => D.str (ch c)) := rfl
  have s : fT [.lst (x.cps.toList.map fun c => D.int (tkn c : Nat))] = some (.val (.int (((x.cps.toList.map tkn).sum : Nat) : Int))) := by
    show (intsOf _).map _ = _
    rw [vw]
    show some (DV.val (.int (List.sum _))) = _
    rw [qo]
  unfold jo vy
  walk_at "ev"
theorem dN (c d : Nat) : gEq (.str (ch c)) (.str (ch d)) = some (.val (.bl (decide (c = d)))) := by
  refine gH ?_
  show some (decide (ch c = ch d)) = _
  congr 1
  by_cases h : c = d
  · subst h; simp
  · rw [decide_eq_false h, decide_eq_false]
    intro e
    exact h (by injection e with e; injection e with e; injection e)
theorem jz : Str.ofString "t" = ch 116 := by decide +kernel
theorem i9 : Str.ofString "s" = ch 115 := by decide +kernel
theorem o6 : Str.ofString "l" = ch 108 := by decide +kernel
theorem mY : Str.ofString "r" = ch 114 := by decide +kernel
theorem gK : Str.ofString "o" = ch 111 := by decide +kernel
theorem wc {c : Nat} {m : Int} (h1 : c = 116 → m < 4) (h2 : c = 108 ∨ c = 114 → m ≤ 4) : eU [.str (ch c), .int m] = .ok (.bl false) := by
  have e1 : gEq (.str (ch c)) (.str (Str.ofString "t")) = some (.val (.bl (decide (c = 116)))) := by rw [jz]; exact dN c 116
  have e2 : gIn (.str (ch c)) (.tup [.str (Str.ofString "l"), .str (Str.ofString "r")]) = some (.val (.bl (decide (c = 108 ∨ c = 114)))) := by
    show some (DV.val (.bl (i5 (ch c) [Str.ofString "l", Str.ofString "r"]))) = _
    rw [o6, mY]
    congr 3
    show (decide (ch 108 = ch c) || (decide (ch 114 = ch c) || false)) = _
    have q : ∀ a b : Nat, decide (ch a = ch b) = decide (b = a) := fun a b => by
      by_cases h : b = a
      · subst h; simp
      · rw [decide_eq_false h, decide_eq_false]
        intro e
        exact h (by injection e with e; injection e with e; injection e with e; exact e.symm)
    rw [q, q]
    by_cases h : c = 108 <;> by_cases h' : c = 114 <;> simp [h, h']
  by_cases ht : c = 116
  · have e3 : decide (c = 116) = true := decide_eq_true ht
    have e4 : gt (m + 1) 4 = false := decide_eq_false (by have := h1 ht; omega)
    have e5 : aX gt (.int (m + 1)) (.int 4) = some (.val (.bl false)) := by show some (DV.val (.bl (gt _ _))) = _; rw [e4]
    unfold eU kE
    walk_at "ev"
  · have e3 : decide (c = 116) = false := decide_eq_false ht
    unfold eU kE
    by_cases hl : c = 108 ∨ c = 114
    · have e4 : decide (c = 108 ∨ c = 114) = true := decide_eq_true hl
      have e5 : aX gt (.int m) (.int 4) = some (.val (.bl false)) := by show some (DV.val (.bl (gt _ _))) = _; rw [show gt m 4 = false from decide_eq_false (by have := h2 hl; omega)]
      walk_at "ev"
    · have e4 : decide (c = 108 ∨ c = 114) = false := decide_eq_false hl
      walk_at "ev"
theorem Dz {c : Nat} {cs : List Int} : iJ [.str (ch c), .int (met c cs)] = .ok (.int (cj c cs)) := by
  have e1 : gEq (.str (ch c)) (.str (Str.ofString "s")) = some (.val (.bl (decide (c = 115)))) := by rw [i9]; exact dN c 115
  have e2 : gEq (.str (ch c)) (.str (Str.ofString "t")) = some (.val (.bl (decide (c = 116)))) := by rw [jz]; exact dN c 116
  unfold iJ sQ cj
  by_cases h1 : c = 115
  · have e3 : decide (c = 115) = true := decide_eq_true h1
    rw [if_pos h1]
    walk_at "ev"
  · have e3 : decide (c = 115) = false := decide_eq_false h1
    rw [if_neg h1]
    by_cases h2 : c = 116
    · have e4 : decide (c = 116) = true := decide_eq_true h2
      rw [if_pos h2]
      walk_at "ev"
    · have e4 : decide (c = 116) = false := decide_eq_false h2
      rw [if_neg h2]
      walk_at "ev"
end Lw
namespace Lw
open PySem L2 DL
noncomputable def eT : DM Fl := (fIf (au (aD 2 (af (ae 2) (af (fCB (af (cO (ae 1) (bT (ae 3)) (bT (ae 4))) ai) fT) ai)) eU)) (aI (fC (.str "many"))) aO)
theorem u7 (p : Sl) (cs : List Int) : ∀ (w : List Nat) (a : Int) (b2 b3 b4 : Sl), 0 ≤ a → a.toNat ≤ cs.length → bw w (cs.drop a.toNat) [] → ∃ x2 x3 x4,
    bD (b9 [2, 3, 4]) eT (ez w a) [p, .sh (.lst (iD cs)), b2, b3, b4] = .ok .nx [p, .sh (.lst (iD cs)), x2, x3, x4]
  | [], a, b2, b3, b4, _, _, _ => ⟨b2, b3, b4, rfl⟩
  | c :: w, a, b2, b3, b4, ha, hl, h => by
    obtain ⟨h1, h2, h3⟩ := h
    have hle := h2.1
    rw [List.length_drop] at hle
    have e0 : (a + (tkn c : Nat)).toNat = a.toNat + tkn c := by omega
    rw [List.drop_drop, ← e0] at h3
    obtain ⟨x2, x3, x4, e⟩ := u7 p cs w (a + (tkn c : Nat)) (.sh (.str (ch c))) (.sh (.int a)) (.sh (.int (a + (tkn c : Nat)))) (by omega) (by omega) h3
    refine ⟨x2, x3, x4, cB (δ1 := [p, .sh (.lst (iD cs)), .sh (.str (ch c)), .sh (.int a), .sh (.int (a + (tkn c : Nat)))]) rfl ?_ e⟩
    have g1 := oF (cs := cs) (c := c) ha (by omega)
    have g2 := pJ (cs := cs) (a := a) (c := c)
    have g3 := wc h2.2.1 h2.2.2
    unfold eT
    walk_at "ev"
theorem tZ {x : Str} {cs : List Int} (hx : x.length ≤ 16) (hl : cs.length ≤ 100) (h : bw x.cps.toList cs []) : d7 [.str x, .lst (iD cs)] = .ok .non := by
  have hc := gM h
  have g1 : bq [.str x] = some (.val (.int x.length)) := iE (by unfold sizeLine; omega)
  have g2 : aX gt (.int x.length) (.int 16) = some (.val (.bl false)) := by
    show some (DV.val (.bl (gt _ _))) = _
    rw [show gt (x.length : Int) 16 = false from decide_eq_false (by omega)]
  have g3 := rD hc (by omega)
  have hn := nA h
  rw [List.length_nil, Nat.add_zero] at hn
  rw [← hn] at g3
  have g4 := dz cs
  have g5 : gNe (.int (cs.length : Int)) (.int (cs.length : Int)) = some (.val (.bl false)) := gr (lV 8 _ rfl)
  have g6 := jR hc (by omega)
  obtain ⟨x2, x3, x4, e⟩ := u7 (.sh (.str x)) cs x.cps.toList 0 .no .no .no (by omega) (by simp) (by simpa using h)
  unfold eT at e
  unfold d7 jT
  walk_at "ev"
noncomputable def oP : DM Fl := (bE 2 (aD 2 (af (ae 3) (af (fCB (af (cO (ae 1) (bT (ae 4)) (bT (ae 5))) ai) fT) ai)) iJ))
theorem sG (p : Sl) (cs : List Int) : ∀ (w : List Nat) (a : Int) (ds : List Int) (b2 b3 b4 : Sl), 0 ≤ a → a.toNat ≤ cs.length → bw w (cs.drop a.toNat) [] → ds.length + w.length ≤ 1000 → ∃ x2 x3 x4,
    bD (b9 [3, 4, 5]) oP (ez w a) [p, .sh (.lst (iD cs)), .ow (iD ds), b2, b3, b4] = .ok .nx [p, .sh (.lst (iD cs)), .ow (iD (ds ++ outs w (cs.drop a.toNat))), x2, x3, x4]
  | [], a, ds, b2, b3, b4, _, _, _, _ => ⟨b2, b3, b4, by show Rs.ok Fl.nx _ = Rs.ok Fl.nx [p, _, .ow (iD (ds ++ [])), _, _, _]; rw [List.append_nil]⟩
  | c :: w, a, ds, b2, b3, b4, ha, hl, h, hz => by
    obtain ⟨h1, h2, h3⟩ := h
    have hle := h2.1
    rw [List.length_drop] at hle
    rw [List.length_cons] at hz
    have e0 : (a + (tkn c : Nat)).toNat = a.toNat + tkn c := by omega
    rw [List.drop_drop, ← e0] at h3
    obtain ⟨x2, x3, x4, e⟩ := sG p cs w (a + (tkn c : Nat)) (ds ++ [cj c (cs.drop a.toNat)]) (.sh (.str (ch c))) (.sh (.int a)) (.sh (.int (a + (tkn c : Nat)))) (by omega) (by omega) h3 (by rw [List.length_append, List.length_singleton]; omega)
    refine ⟨x2, x3, x4, cB (δ1 := [p, .sh (.lst (iD cs)), .ow (iD ds), .sh (.str (ch c)), .sh (.int a), .sh (.int (a + (tkn c : Nat)))]) rfl
      (δ2 := [p, .sh (.lst (iD cs)), .ow (iD (ds ++ [cj c (cs.drop a.toNat)])), .sh (.str (ch c)), .sh (.int a), .sh (.int (a + (tkn c : Nat)))]) ?_ ?_⟩
    · have g1 := oF (cs := cs) (c := c) ha (by omega)
      have g2 := pJ (cs := cs) (a := a) (c := c)
      have g3 := Dz (c := c) (cs := cs.drop a.toNat)
      have g4 : (iD ds).length < sizeLine := by rw [eJ]; unfold sizeLine; omega
      have g5 : iD (ds ++ [cj c (cs.drop a.toNat)]) = iD ds ++ [.int (cj c (cs.drop a.toNat))] := by unfold iD; rw [List.map_append]; rfl
      rw [g5]
      unfold oP
      apply Eq.trans
      walk_at "ev"
    · rw [e, List.append_assoc]
      show _ = Rs.ok Fl.nx [p, _, .ow (iD (ds ++ (cj c (cs.drop a.toNat) :: outs w ((cs.drop a.toNat).drop (tkn c))))), _, _, _]
      rw [List.drop_drop, e0]; rfl
theorem qB {x : Str} {cs : List Int} (hx : x.length ≤ 16) (h : bw x.cps.toList cs []) : iG [.str x, .lst (iD cs)] = .own (iD (outs x.cps.toList cs)) := by
  have hc := gM h
  have hl : x.cps.toList.length ≤ 16 := by simpa [Str.length] using hx
  have g6 := jR hc (by omega)
  obtain ⟨x2, x3, x4, e⟩ := sG (.sh (.str x)) cs x.cps.toList 0 [] .no .no .no (by omega) (by simp) (by simpa using h) (by simp only [List.length_nil]; omega)
  have e1 : iD ([] ++ outs x.cps.toList (cs.drop (0 : Int).toNat)) = iD (outs x.cps.toList cs) := by simp
  rw [e1] at e
  unfold oP at e
  unfold iG qG
  apply cQ
  walk_at "ev"
noncomputable abbrev aL (many : Int) (y : Str) : D := .tup [.str "cast", .int many, .str y]
noncomputable abbrev av (r : Str × Str) : D := .tup [.str "row", .str r.1, .str r.2]
noncomputable def cZ : List Int → List (Str × Str) → Prop
  | _, [] => True
  | cs, r :: rs => r.2.length ≤ 16 ∧ 1 ≤ r.2.length ∧ bw r.2.cps.toList cs [] ∧ cZ (outs r.2.cps.toList cs) rs
noncomputable def eN : DM Fl := (ak (aF 5 (ag (ae 4) (fC (.int 2)) gIx))
    (ak (aF 6 (aD 2 (af (ae 5) (af (ae 1) ai)) d7))
    (ak (fIf (au (ag (ae 6) (fC .non) kU)) (aI (aY (af (ae 6) (af (ae 3) ai)))) aO)
    (ak (aF 1 (aD 2 (af (ae 5) (af (ae 1) ai)) iG))
    (bE 2 (fCB (af (ae 1) ai) bq))))))
noncomputable def wid (rs : List (Str × Str)) : List Int := rs.map fun r => (r.2.length : Int)
theorem sx (p : Sl) : ∀ (rs : List (Str × Str)) (lo : Int) (cs ws : List Int) (b3 b4 b5 b6 : Sl), cZ cs rs → cs.length ≤ 16 → ws.length + rs.length ≤ 1000 → ∃ x1 x3 x4 x5 x6,
    bD (b9 [3, 4]) eN (cW lo (rs.map av)) [p, .sh (.lst (iD cs)), .ow (iD ws), b3, b4, b5, b6] = .ok .nx [p, x1, .ow (iD (ws ++ wid rs)), x3, x4, x5, x6]
  | [], lo, cs, ws, b3, b4, b5, b6, _, _, _ => ⟨_, b3, b4, b5, b6, by show Rs.ok Fl.nx _ = Rs.ok Fl.nx [p, _, .ow (iD (ws ++ [])), _, _, _, _]; rw [List.append_nil]⟩
  | r :: rs, lo, cs, ws, b3, b4, b5, b6, h, hl, hz => by
    obtain ⟨h1, h2, h3, h4⟩ := h
    rw [List.length_cons] at hz
    have hol := jd r.2.cps.toList cs
    have hrl : r.2.cps.toList.length = r.2.length := by simp [Str.length]
    obtain ⟨x1, x3, x4, x5, x6, e⟩ := sx p rs (lo + 1) (outs r.2.cps.toList cs) (ws ++ [(r.2.length : Int)]) (.sh (.int lo)) (.sh (av r)) (.sh (.str r.2)) (.sh .non) h4 (by omega) (by rw [List.length_append, List.length_singleton]; omega)
    refine ⟨x1, x3, x4, x5, x6, cB (δ1 := [p, .sh (.lst (iD cs)), .ow (iD ws), .sh (.int lo), .sh (av r), b5, b6]) rfl
      (δ2 := [p, .sh (.lst (iD (outs r.2.cps.toList cs))), .ow (iD (ws ++ [(r.2.length : Int)])), .sh (.int lo), .sh (av r), .sh (.str r.2), .sh .non]) ?_ ?_⟩
    · have g1 := tZ h1 (by omega) h3
      have g2 := qB h1 h3
      have g3 : bq [.lst (iD (outs r.2.cps.toList cs))] = some (.val (.int (r.2.length : Int))) := by rw [dz, hol, hrl]
      have g4 : (iD ws).length < sizeLine := by rw [eJ]; unfold sizeLine; omega
      have g5 : iD (ws ++ [(r.2.length : Int)]) = iD ws ++ [.int (r.2.length : Int)] := by unfold iD; rw [List.map_append]; rfl
      rw [g5]
      unfold eN
      apply Eq.trans
      walk_at "ev"
    · rw [e, List.append_assoc]; rfl
theorem uE (n : Nat) : (List.replicate n [D.int 1]).flatten = iD (List.replicate n 1) := by
  induction n with
  | zero => rfl
  | succ n ih => rw [List.replicate_succ, List.flatten_cons, ih, List.replicate_succ]; rfl
theorem yE {many : Int} {y : Str} {rs : List (Str × Str)} (h1 : 1 ≤ many) (h2 : many ≤ 16) (hr : cZ (List.replicate many.toNat 1) rs) (hn : rs.length ≤ 20) :
    fQ [.lst (aL many y :: rs.map av)] = .ok (.tup [.str "good", .lst (iD (many :: wid rs))]) := by
  have g0 : gIx (.lst (aL many y :: rs.map av)) (.int 0) = some (.val (aL many y)) := iz
  have g1 : aQ (.lst [.int 1]) (.int many) = some (.own (iD (List.replicate many.toNat 1))) := by
    show (if dG 1 many then _ else _) = _
    rw [show dG 1 many = true by
      unfold dG
      rw [decide_eq_true (show -(2 ^ 62 : Int) ≤ many by omega), decide_eq_true (show many < 2 ^ 62 by omega), decide_eq_true (show 1 * many.toNat ≤ sizeLine by unfold sizeLine; omega)]; rfl]
    rw [if_pos rfl, uE]
  have g2 : bq [.lst (iD (List.replicate many.toNat 1))] = some (.val (.int many)) := by
    rw [dz, List.length_replicate, Int.toNat_of_nonneg (by omega)]
  have g3 : dP (.lst (aL many y :: rs.map av)) (some 1) none = some (.own (rs.map av)) := by
    rw [hX]
    unfold cutD
    have a1 : HT.sIx (aL many y :: rs.map av).length 0 (some 1) = 1 := by
      have := HT.gb (aL many y :: rs.map av).length 0 1
      rw [List.length_cons] at this ⊢
      exact this.trans (by omega)
    rw [a1, HT.kR]
    show some (DV.own (List.take _ (rs.map av))) = _
    rw [List.take_of_length_le (by rw [List.length_cons]; omega)]
  obtain ⟨x1, x3, x4, x5, x6, e⟩ := sx (.sh (.lst (aL many y :: rs.map av))) rs 1 (List.replicate many.toNat 1) [many] .no .no .no .no hr (by rw [List.length_replicate]; omega) (by rw [List.length_singleton]; omega)
  have g4 : ot (.lst (rs.map av)) = some (cW 1 (rs.map av)) := rfl
  unfold eN at e
  unfold fQ my
  walk_at "ev"
end Lw
namespace Lw
open PySem L2 DL
theorem sN (z : Array Nat) : ∀ (n : Nat) (acc : Array Nat), ((List.replicate n z).foldl (· ++ ·) acc).toList = acc.toList ++ (List.replicate n z.toList).flatten
  | 0, acc => by simp
  | n + 1, acc => by rw [List.replicate_succ, List.foldl_cons, sN z n, Array.toList_append, List.replicate_succ, List.flatten_cons, List.append_assoc]
theorem kX (z : Str) (n : Int) : (Txt.mul z n).cps.toList = (List.replicate n.toNat z.cps.toList).flatten := by
  unfold Txt.mul
  split
  · rename_i h
    rw [show n.toNat = 0 by omega]; rfl
  · split
    · rename_i h1 h2
      rcases Bool.or_eq_true_iff.mp h2 with h3 | h3
      · have : n = 1 := by simpa using h3
        subst this
        show _ = (List.replicate 1 z.cps.toList).flatten
        simp
      · have : z.cps.toList = [] := by
          have : z.length = 0 := by simpa using h3
          have h4 : z.cps.toList.length = 0 := by simpa [Str.length] using this
          exact List.eq_nil_of_length_eq_zero h4
        rw [this]
        have : ∀ n : Nat, (List.replicate n ([] : List Nat)).flatten = [] := fun n => by
          induction n with
          | zero => rfl
          | succ n ih => rw [List.replicate_succ, List.flatten_cons, ih]; rfl
        rw [this]
    · have := sN z.cps n.toNat #[]
      simpa using this
theorem ny (c : Nat) : ∀ n : Nat, (List.replicate n [c]).flatten = List.replicate n c
  | 0 => rfl
  | n + 1 => by rw [List.replicate_succ, List.flatten_cons, ny c n, List.replicate_succ]; rfl
theorem lH (z : Str) (n : Int) : (Txt.mul z n).length = n.toNat * z.length := by
  have e : (Txt.mul z n).length = (Txt.mul z n).cps.toList.length := by simp [Str.length]
  rw [e, kX]
  have hz : z.cps.toList.length = z.length := by simp [Str.length]
  rw [← hz, List.length_flatten, List.map_replicate, List.sum_replicate_nat]
theorem cC {z : Str} {k : Int} (h1 : -100 ≤ k) (h2 : k ≤ 100) (h3 : z.length ≤ 100) : aQ (.str z) (.int k) = some (.val (.str (Txt.mul z k))) := by
  show (if dG z.length k then _ else _) = _
  rw [show dG z.length k = true by
    unfold dG
    have : z.length * k.toNat ≤ 100 * 100 := Nat.mul_le_mul h3 (by omega)
    rw [decide_eq_true (show -(2 ^ 62 : Int) ≤ k by omega), decide_eq_true (show k < 2 ^ 62 by omega), decide_eq_true (show z.length * k.toNat ≤ sizeLine by unfold sizeLine; omega)]; rfl]
  rw [if_pos rfl]
theorem jj (a b : Str) : (a ++ b).cps.toList = a.cps.toList ++ b.cps.toList := by rw [Str.cps_append, Array.toList_append]
theorem jg {c : Nat} (hc : c = 107 ∨ c = 112 ∨ c = 115) : ∀ {n : Nat} {cs r : List Int}, cs.length = n + r.length → cs.drop n = r → bw (List.replicate n c) cs r
  | 0, cs, r, _, e => (show cs = r by simpa using e)
  | n + 1, cs, r, h, e => by
    have ht : tkn c = 1 := by rcases hc with rfl | rfl | rfl <;> rfl
    refine ⟨by rcases hc with rfl | rfl | rfl <;> decide, ⟨by rw [ht]; omega, fun z => ?_, fun z => ?_⟩, ?_⟩
    · omega
    · omega
    · rw [ht]
      exact jg hc (by rw [List.length_drop]; omega) (by rw [List.drop_drop, Nat.add_comm]; exact e)
theorem mG : ∀ (n : Nat) (cs : List Int), bw (List.replicate n 111) cs cs
  | 0, _ => rfl
  | n + 1, cs => ⟨by decide, ⟨Nat.zero_le _, fun z => absurd z (by decide), fun z => absurd z (by decide)⟩, mG n cs⟩
theorem pR {c : Nat} (hc : c = 108 ∨ c = 114) : ∀ {n : Nat} {cs r : List Int}, cs.length = 2 * n + r.length → cs.drop (2 * n) = r → (∀ k, k < n → ∀ a b, cs[2 * k]? = some a → cs[2 * k + 1]? = some b → a + b ≤ 4) → bw (List.replicate n c) cs r
  | 0, cs, r, _, e, _ => (show cs = r by simpa using e)
  | n + 1, cs, r, h, e, hp => by
    have ht : tkn c = 2 := by rcases hc with rfl | rfl <;> rfl
    match cs, h, e, hp with
    | a :: b :: q, h, e, hp =>
      have h0 := hp 0 (by omega) a b rfl rfl
      have hm : met c (a :: b :: q) = a + b := by unfold met; rw [ht]; show [a, b].sum = _; simp
      refine ⟨by rcases hc with rfl | rfl <;> decide, ⟨by rw [ht]; simp, fun z => by omega, fun z => by rw [hm]; exact h0⟩, ?_⟩
      rw [ht]
      show bw _ q r
      simp only [List.length_cons] at h
      refine pR hc (by omega) ?_ fun k hk x y hx hy => hp (k + 1) (by omega) x y ?_ ?_
      · rw [show 2 * (n + 1) = 2 * n + 1 + 1 by omega] at e; exact e
      · rw [show 2 * (k + 1) = 2 * k + 1 + 1 by omega]; exact hx
      · rw [show 2 * (k + 1) + 1 = 2 * k + 1 + 1 + 1 by omega]; exact hy
    | [a], h, _, _ => simp at h; omega
    | [], h, _, _ => simp at h; omega
noncomputable def jH (cs : List Int) : List Nat := cs.map fun c => if c < 4 then 116 else 115
theorem oy : ∀ cs : List Int, bw (jH cs) cs []
  | [] => rfl
  | a :: r => by
    show bw ((if a < 4 then 116 else 115) :: jH r) (a :: r) []
    split
    · rename_i h
      refine ⟨by decide, ⟨by show 1 ≤ _; simp, fun _ => ?_, fun z => absurd z (by decide)⟩, oy r⟩
      show [a].sum < 4
      simpa using h
    · exact ⟨by decide, ⟨by show 1 ≤ _; simp, fun z => absurd z (by decide), fun z => absurd z (by decide)⟩, oy r⟩
theorem uL : ∀ (m : Nat) {cs : List Int}, m ≤ cs.length → bw (List.replicate m [111, 107]).flatten cs (cs.drop m)
  | 0, _, _ => rfl
  | m + 1, cs, h => by
    rw [List.replicate_succ, List.flatten_cons]
    refine ⟨by decide, ⟨Nat.zero_le _, fun z => absurd z (by decide), fun z => absurd z (by decide)⟩, by decide, ⟨by show 1 ≤ _; show 1 ≤ cs.length; omega, fun z => absurd z (by decide), fun z => absurd z (by decide)⟩, ?_⟩
    show bw _ (cs.drop 1) _
    have := uL m (cs := cs.drop 1) (by rw [List.length_drop]; omega)
    rwa [List.drop_drop, Nat.add_comm] at this
end Lw
namespace Lw
open PySem L2 DL
noncomputable def bW (ns : List Int) (k : Int) : Int := if k < ns.length then ns.getD k.toNat 0 else 0
theorem iv (ns : List Int) (k : Int) (hk : 0 ≤ k) : cI [.scr ns, .int k] = .ok (.int (bW ns k)) := by
  unfold cI uX bW
  by_cases h : k < ns.length
  · have e : gIx (.scr ns) (.int k) = some (.val (.int (ns.getD k.toNat 0))) := by
      show (atI ns k).map _ = _
      unfold atI ixN
      rw [if_pos hk, if_pos h]
      have : k.toNat < ns.length := by omega
      show (ns[k.toNat]?).map _ = _
      rw [List.getD_eq_getElem?_getD, List.getElem?_eq_getElem this]; rfl
    rw [if_pos h]
    have hb : lt k ns.length = true := decide_eq_true h
    walk_at "ev"
  · rw [if_neg h]
    have hb : lt k ns.length = false := decide_eq_false h
    walk_at "ev"
noncomputable def dI (c k : Int) : Int :=
  let s1 := (c + 7919 * (k + 3)) % 2147483647
  let s2 := (s1 * s1 + 104729 * k + 5) % 2147483629
  s2 * s2 % 2147483587
theorem lg (c k : Int) : de [.int c, .int k] = .ok (.int (dI c k)) := by
  unfold de qg dI
  walk_at "ev"
theorem pX {c : Nat} (h : c ∈ codes) : fg [.str (ch c)] = .ok (.int ((tkn c : Nat) : Int)) := by
  have : c = 107 ∨ c = 112 ∨ c = 116 ∨ c = 115 ∨ c = 108 ∨ c = 114 ∨ c = 111 := by simpa [codes] using h
  rcases this with rfl | rfl | rfl | rfl | rfl | rfl | rfl <;> kernel_rfl
theorem vL {c : Nat} {cs : List Int} {a : Int} (ht : tkn c = 1) (hf : fits c (cs.drop a.toNat)) : cs[a.toNat]? = some (met c (cs.drop a.toNat)) := by
  have h1 := hf.1
  rw [ht, List.length_drop] at h1
  have hlt : a.toNat < cs.length := by omega
  unfold met
  rw [ht, List.getElem?_eq_getElem hlt, List.drop_eq_getElem_cons hlt]
  show some cs[a.toNat] = some (List.sum [cs[a.toNat]])
  rw [List.sum_cons, List.sum_nil, Int.add_zero]
noncomputable def bLB : DM Fl := (ak (fIf (au (ag (ae 4) (fC (.str "t")) gEq)) (bE 2 (ag (ag (ae 1) (ae 3) gIx) (fC (.int 1)) aK)) (fIf (au (ag (ae 4) (fC (.str "s")) gEq)) (bE 2 (ag (ae 1) (ae 3) gIx)) (bE 2 (fC (.int 1)))))
    (aF 3 (ag (ae 3) (aD 1 (af (ae 4) ai) fg) aK)))
theorem xI (p b4 : Sl) (cs ds : List Int) (c : Nat) (a : Int) (ha : 0 ≤ a) (hc : c ∈ codes) (hf : fits c (cs.drop a.toNat)) (hd : ds.length ≤ 1000) :
    bLB [p, .sh (.lst (iD cs)), .ow (iD ds), .sh (.int a), .sh (.str (ch c))] = .ok .nx [p, .sh (.lst (iD cs)), .ow (iD (ds ++ [cj c (cs.drop a.toNat)])), .sh (.int (a + (tkn c : Nat))), .sh (.str (ch c))] := by
  have e1 : gEq (.str (ch c)) (.str (Str.ofString "t")) = some (.val (.bl (decide (c = 116)))) := by rw [jz]; exact dN c 116
  have e2 : gEq (.str (ch c)) (.str (Str.ofString "s")) = some (.val (.bl (decide (c = 115)))) := by rw [i9]; exact dN c 115
  have e3 := pX hc
  have g4 : (iD ds).length < sizeLine := by rw [eJ]; unfold sizeLine; omega
  have g5 : iD (ds ++ [cj c (cs.drop a.toNat)]) = iD ds ++ [.int (cj c (cs.drop a.toNat))] := by unfold iD; rw [List.map_append]; rfl
  rw [g5]
  unfold bLB
  by_cases h1 : c = 116
  · have e4 : decide (c = 116) = true := decide_eq_true h1
    have e5 := iI ha (vL (by rw [h1]; rfl) hf)
    have e6 : cj c (cs.drop a.toNat) = met c (cs.drop a.toNat) + 1 := by unfold cj; rw [if_neg (by omega), if_pos h1]
    rw [e6]
    apply Eq.trans
    walk_at "ev"
  · have e4 : decide (c = 116) = false := decide_eq_false h1
    by_cases h2 : c = 115
    · have e7 : decide (c = 115) = true := decide_eq_true h2
      have e5 := iI ha (vL (by rw [h2]; rfl) hf)
      have e6 : cj c (cs.drop a.toNat) = met c (cs.drop a.toNat) := by unfold cj; rw [if_pos h2]
      rw [e6]
      apply Eq.trans
      walk_at "ev"
    · have e7 : decide (c = 115) = false := decide_eq_false h2
      have e6 : cj c (cs.drop a.toNat) = 1 := by unfold cj; rw [if_neg h2, if_neg h1]
      rw [e6]
      apply Eq.trans
      walk_at "ev"
theorem uy (p : Sl) (cs : List Int) : ∀ (w : List Nat) (a : Int) (ds : List Int) (b4 : Sl), 0 ≤ a → a.toNat ≤ cs.length → bw w (cs.drop a.toNat) [] → ds.length + w.length ≤ 1000 → ∃ x3 x4,
    bD (bg 4) bLB (w.map fun c => D.str (ch c)) [p, .sh (.lst (iD cs)), .ow (iD ds), .sh (.int a), b4] = .ok .nx [p, .sh (.lst (iD cs)), .ow (iD (ds ++ outs w (cs.drop a.toNat))), x3, x4]
  | [], a, ds, b4, _, _, _, _ => ⟨_, b4, by show Rs.ok Fl.nx _ = Rs.ok Fl.nx [p, _, .ow (iD (ds ++ [])), _, _]; rw [List.append_nil]⟩
  | c :: w, a, ds, b4, ha, hl, h, hz => by
    obtain ⟨h1, h2, h3⟩ := h
    have hle := h2.1
    rw [List.length_drop] at hle
    rw [List.length_cons] at hz
    have e0 : (a + (tkn c : Nat)).toNat = a.toNat + tkn c := by omega
    rw [List.drop_drop, ← e0] at h3
    obtain ⟨x3, x4, e⟩ := uy p cs w (a + (tkn c : Nat)) (ds ++ [cj c (cs.drop a.toNat)]) (.sh (.str (ch c))) (by omega) (by omega) h3 (by rw [List.length_append, List.length_singleton]; omega)
    refine ⟨x3, x4, ?_⟩
    rw [List.map_cons]
    refine cB rfl (xI p b4 cs ds c a ha h1 h2 (by omega)) ?_
    rw [e, List.append_assoc]
    show _ = Rs.ok Fl.nx [p, _, .ow (iD (ds ++ (cj c (cs.drop a.toNat) :: outs w ((cs.drop a.toNat).drop (tkn c))))), _, _]
    rw [List.drop_drop, e0]; rfl
theorem vP {x : Str} {cs : List Int} (hx : x.length ≤ 16) (h : bw x.cps.toList cs []) : iO [.str x, .lst (iD cs)] = .own (iD (outs x.cps.toList cs)) := by
  have hl : x.cps.toList.length ≤ 16 := by simpa [Str.length] using hx
  obtain ⟨x3, x4, e⟩ := uy (.sh (.str x)) cs x.cps.toList 0 [] .no (by omega) (by simp) (by simpa using h) (by simp only [List.length_nil]; omega)
  have e1 : iD ([] ++ outs x.cps.toList (cs.drop (0 : Int).toNat)) = iD (outs x.cps.toList cs) := by simp
  rw [e1] at e
  have g : fK (.str x) = some (x.cps.toList.map fun c => D.str (ch c)) := rfl
  unfold bLB at e
  unfold iO qF
  apply cQ
  walk_at "ev"
noncomputable def Two (cs : List Int) (a : Int) : Prop := ∃ x y, cs[a.toNat]? = some x ∧ cs[(a + 1).toNat]? = some y ∧ x + y ≤ 4
noncomputable def Here (cs : List Int) (a : Int) (room : Bool) (x : Str) : Prop :=
  (room = true ∧ x = Str.ofString "o") ∨ (Two cs a ∧ x ∈ [Str.ofString "ol", Str.ofString "lo", Str.ofString "or", Str.ofString "ro"]) ∨ (Two cs a ∧ x ∈ [Str.ofString "l", Str.ofString "r"]) ∨
  ((∃ v, cs[a.toNat]? = some v ∧ v < 4) ∧ x = Str.ofString "t") ∨ x ∈ [Str.ofString "s", Str.ofString "k", Str.ofString "p"]
theorem lT {c c1 : DM Bool} {δ : DSt} {b b1 : Bool} (h : c δ = .ok b δ) (h1 : c1 δ = .ok b1 δ) : bX c c1 δ = .ok (b && b1) δ := by
  unfold bX DM.bd; simp only [h]; cases b <;> simp [h1, DM.ret]
theorem qz {c c1 : DM Bool} {δ : DSt} {b b1 : Bool} (h : c δ = .ok b δ) (h1 : c1 δ = .ok b1 δ) : bO c c1 δ = .ok (b || b1) δ := by
  unfold bO DM.bd; simp only [h]; cases b <;> simp [h1, DM.ret]
noncomputable def vj : DM Fl := (ak (fIf (bX (au (ag (ae 0) (fC (.int 0)) gEq)) (au (ae 4))) (aI (fC (.str "o"))) aO)
    (ak (fIf (bX (au (ag (ae 0) (fC (.int 1)) gEq)) (au (ae 5))) (aI (ag (bF (af (fC (.str "ol")) (af (fC (.str "lo")) (af (fC (.str "or")) (af (fC (.str "ro")) ai))))) (ag (ae 1) (fC (.int 4)) bc) gIx)) aO)
    (ak (fIf (bX (bO (au (ag (ae 0) (fC (.int 2)) gEq)) (au (ag (ae 0) (fC (.int 3)) gEq))) (au (ae 5))) (aI (ag (fC (.str "lr")) (ag (ae 1) (fC (.int 2)) bc) gIx)) aO)
    (ak (fIf (bX (bO (au (ag (ae 0) (fC (.int 4)) gEq)) (au (ag (ae 0) (fC (.int 5)) gEq))) (au (ag (ag (ae 2) (ae 3) gIx) (fC (.int 4)) (aX lt)))) (aI (fC (.str "t"))) aO)
    (aI (ag (fC (.str "skppkk")) (ag (ae 1) (fC (.int 6)) bc) gIx))))))
theorem z6 (way sign a v : Int) (cs : List Int) (room two : Bool) (ha : 0 ≤ a) (hv : cs[a.toNat]? = some v) (h2 : two = true → Two cs a) : ∃ x δ, vj [.sh (.int way), .sh (.int sign), .sh (.lst (iD cs)), .sh (.int a), .sh (.bl room), .sh (.bl two)] = .ok (.rt (.str x)) δ ∧ Here cs a room x := by
  have e0 := iI ha hv
  have q : ∀ j : Int, gEq (.int way) (.int j) = some (.val (.bl (decide (way = j)))) := fun j => gH rfl
  have q0 := q 0
  have q1 := q 1
  have q2 := q 2
  have q3 := q 3
  have q4 := q 4
  have q5 := q 5
  have t0 : bX (au (ag (ae 0) (fC (.int 0)) gEq)) (au (ae 4)) [.sh (.int way), .sh (.int sign), .sh (.lst (iD cs)), .sh (.int a), .sh (.bl room), .sh (.bl two)] = .ok (decide (way = 0) && room) _ := lT (by walk_at "ev") (by walk_at "ev")
  have t1 : bX (au (ag (ae 0) (fC (.int 1)) gEq)) (au (ae 5)) [.sh (.int way), .sh (.int sign), .sh (.lst (iD cs)), .sh (.int a), .sh (.bl room), .sh (.bl two)] = .ok (decide (way = 1) && two) _ := lT (by walk_at "ev") (by walk_at "ev")
  have t2 : bX (bO (au (ag (ae 0) (fC (.int 2)) gEq)) (au (ag (ae 0) (fC (.int 3)) gEq))) (au (ae 5)) [.sh (.int way), .sh (.int sign), .sh (.lst (iD cs)), .sh (.int a), .sh (.bl room), .sh (.bl two)] = .ok ((decide (way = 2) || decide (way = 3)) && two) _ := lT (qz (by walk_at "ev") (by walk_at "ev")) (by walk_at "ev")
  have t3 : bX (bO (au (ag (ae 0) (fC (.int 4)) gEq)) (au (ag (ae 0) (fC (.int 5)) gEq))) (au (ag (ag (ae 2) (ae 3) gIx) (fC (.int 4)) (aX lt))) [.sh (.int way), .sh (.int sign), .sh (.lst (iD cs)), .sh (.int a), .sh (.bl room), .sh (.bl two)] = .ok ((decide (way = 4) || decide (way = 5)) && lt v 4) _ := lT (qz (by walk_at "ev") (by walk_at "ev")) (by walk_at "ev")
  unfold vj
  cases z0 : decide (way = 0) && room with
  | true =>
    rw [z0] at t0
    exact ⟨Str.ofString "o", _, by walk_at "ev", .inl ⟨(Bool.and_eq_true_iff.mp z0).2, rfl⟩⟩
  | false =>
    rw [z0] at t0
    cases z1 : decide (way = 1) && two with
    | true =>
      rw [z1] at t1
      have hm : sign % 4 = 0 ∨ sign % 4 = 1 ∨ sign % 4 = 2 ∨ sign % 4 = 3 := by omega
      have i4 : ∃ x : Str, gIx (.lst [.str (Str.ofString "ol"), .str (Str.ofString "lo"), .str (Str.ofString "or"), .str (Str.ofString "ro")]) (.int (sign % 4)) = some (.val (.str x)) ∧ x ∈ [Str.ofString "ol", Str.ofString "lo", Str.ofString "or", Str.ofString "ro"] := by
        rcases hm with h | h | h | h <;> rw [h]
        · exact ⟨_, rfl, by simp⟩
        · exact ⟨_, rfl, by simp⟩
        · exact ⟨_, rfl, by simp⟩
        · exact ⟨_, rfl, by simp⟩
      obtain ⟨x, i4, hx⟩ := i4
      exact ⟨x, _, by walk_at "ev", .inr (.inl ⟨h2 (Bool.and_eq_true_iff.mp z1).2, hx⟩)⟩
    | false =>
      rw [z1] at t1
      cases z2 : (decide (way = 2) || decide (way = 3)) && two with
      | true =>
        rw [z2] at t2
        have hm : sign % 2 = 0 ∨ sign % 2 = 1 := by omega
        have i4 : ∃ x : Str, gIx (.str (Str.ofString "lr")) (.int (sign % 2)) = some (.val (.str x)) ∧ x ∈ [Str.ofString "l", Str.ofString "r"] := by
          rcases hm with h | h <;> rw [h]
          · exact ⟨Str.ofString "l", by kernel_rfl, by simp⟩
          · exact ⟨Str.ofString "r", by kernel_rfl, by simp⟩
        obtain ⟨x, i4, hx⟩ := i4
        exact ⟨x, _, by walk_at "ev", .inr (.inr (.inl ⟨h2 (Bool.and_eq_true_iff.mp z2).2, hx⟩))⟩
      | false =>
        rw [z2] at t2
        cases z3 : (decide (way = 4) || decide (way = 5)) && lt v 4 with
        | true =>
          rw [z3] at t3
          exact ⟨Str.ofString "t", _, by walk_at "ev", .inr (.inr (.inr (.inl ⟨⟨v, hv, of_decide_eq_true (Bool.and_eq_true_iff.mp z3).2⟩, rfl⟩)))⟩
        | false =>
          rw [z3] at t3
          have hm : sign % 6 = 0 ∨ sign % 6 = 1 ∨ sign % 6 = 2 ∨ sign % 6 = 3 ∨ sign % 6 = 4 ∨ sign % 6 = 5 := by omega
          have i4 : ∃ x : Str, gIx (.str (Str.ofString "skppkk")) (.int (sign % 6)) = some (.val (.str x)) ∧ x ∈ [Str.ofString "s", Str.ofString "k", Str.ofString "p"] := by
            rcases hm with h | h | h | h | h | h <;> rw [h]
            · exact ⟨Str.ofString "s", by kernel_rfl, by simp⟩
            · exact ⟨Str.ofString "k", by kernel_rfl, by simp⟩
            · exact ⟨Str.ofString "p", by kernel_rfl, by simp⟩
            · exact ⟨Str.ofString "p", by kernel_rfl, by simp⟩
            · exact ⟨Str.ofString "k", by kernel_rfl, by simp⟩
            · exact ⟨Str.ofString "k", by kernel_rfl, by simp⟩
          obtain ⟨x, i4, hx⟩ := i4
          exact ⟨x, _, by walk_at "ev", .inr (.inr (.inr (.inr hx)))⟩
end Lw
namespace Lw
open PySem L2 DL
theorem v8 (way sign a v : Int) (cs : List Int) (room : Bool) (ha : 0 ≤ a) (hv : cs[a.toNat]? = some v) (hl : cs.length ≤ 100) : ∃ x, iB [.int way, .int sign, .lst (iD cs), .int a, .bl room] = .ok (.str x) ∧ Here cs a room x := by
  have e0 := iI ha hv
  have g1 := dz cs
  have two : ∃ two : Bool, (eE (ag (ag (ae 3) (fC (.int 1)) aK) (fCB (af (ae 2) ai) bq) (aX lt)) (ag (ag (ag (ae 2) (ae 3) gIx) (ag (ae 2) (ag (ae 3) (fC (.int 1)) aK) gIx) aK) (fC (.int 4)) (aX le))) [.sh (.int way), .sh (.int sign), .sh (.lst (iD cs)), .sh (.int a), .sh (.bl room), .no] = .ok (.val (.bl two)) [.sh (.int way), .sh (.int sign), .sh (.lst (iD cs)), .sh (.int a), .sh (.bl room), .no] ∧ (two = true → Two cs a) := by
    by_cases h : a + 1 < cs.length
    · have hb : lt (a + 1) (cs.length : Int) = true := decide_eq_true h
      have hw : cs[(a + 1).toNat]? = some cs[(a + 1).toNat] := List.getElem?_eq_getElem (by omega)
      have e1 := iI (i := a + 1) (by omega) hw
      exact ⟨le (v + cs[(a + 1).toNat]) 4, by walk_at "ev", fun z => ⟨v, _, hv, hw, of_decide_eq_true z⟩⟩
    · have hb : lt (a + 1) (cs.length : Int) = false := decide_eq_false h
      exact ⟨false, by walk_at "ev", fun z => nomatch z⟩
  obtain ⟨two, h1, h2⟩ := two
  obtain ⟨x, δ, h3, h4⟩ := z6 way sign a v cs room two ha hv h2
  refine ⟨x, ?_, h4⟩
  unfold iB vG
  apply dM
  apply aG
  · exact bM h1 rfl
  · exact h3
theorem vM (h : D → Bool) : ∀ (l : List D), iF (l.map fun d => D.bl (h d)) = some (l.map h)
  | [] => rfl
  | d :: l => by
    show (iF (l.map fun d => D.bl (h d))).map _ = _
    rw [vM h l]; rfl
noncomputable def pairD (cs : List Int) : D → Bool
  | .int j => gt (cs.getD (2 * j).toNat 0 + cs.getD (2 * j + 1).toNat 0) 4
  | _ => false
theorem getD_some {cs : List Int} {n : Nat} (h : n < cs.length) : cs[n]? = some (cs.getD n 0) := by
  rw [List.getD_eq_getElem?_getD, List.getElem?_eq_getElem h]; rfl
theorem Bc (cs : List Int) (hl : cs.length ≤ 16) : cf (bg 0) (.ret true) (ag (ag (ag (ae 1) (ag (fC (.int 2)) (ae 0) aQ) gIx) (ag (ae 1) (ag (ag (fC (.int 2)) (ae 0) aQ) (fC (.int 1)) aK) gIx) aK) (fC (.int 4)) (aX gt)) (bK 0 ((cs.length : Int) / 2).toNat) [.no, .sh (.lst (iD cs))] [] = some ((bK 0 ((cs.length : Int) / 2).toNat).map fun d => D.bl (pairD cs d)) := by
  rw [comp_map (g := fun d => D.bl (pairD cs d)) _ .no (by rw [iC]; unfold sizeLine; omega) ?_]
  intro d hd
  obtain ⟨k, hk, rfl⟩ := uz hd
  have e1 := iI (cs := cs) (i := 2 * (k : Int)) (by omega) (getD_some (by omega))
  have e2 := iI (cs := cs) (i := 2 * (k : Int) + 1) (by omega) (getD_some (by omega))
  have h3 : (ag (ag (ag (ae 1) (ag (fC (.int 2)) (ae 0) aQ) gIx) (ag (ae 1) (ag (ag (fC (.int 2)) (ae 0) aQ) (fC (.int 1)) aK) gIx) aK) (fC (.int 4)) (aX gt)) [.sh (.int k), .sh (.lst (iD cs))] = .ok (.val (.bl (pairD cs (.int k)))) [.sh (.int k), .sh (.lst (iD cs))] := by walk_at "ev"
  unfold fN DM.bd
  rw [h3]
  rfl
theorem wB (cs : List Int) : lM [.lst ((bK 0 ((cs.length : Int) / 2).toNat).map fun d => D.bl (pairD cs d))] = some (.val (.bl ((bK 0 ((cs.length : Int) / 2).toNat).any (pairD cs)))) := by
  show (iF _).map _ = _
  rw [vM]
  show some (DV.val (.bl (List.any _ id))) = _
  rw [List.any_map]; rfl
theorem Ca {cs : List Int} (h : (bK 0 ((cs.length : Int) / 2).toNat).any (pairD cs) = false) (k : Nat) (hk : k < cs.length / 2) (a b : Int) (ha : cs[2 * k]? = some a) (hb : cs[2 * k + 1]? = some b) : a + b ≤ 4 := by
  have h1 : D.int (0 + (k : Int)) ∈ bK 0 ((cs.length : Int) / 2).toNat := by
    unfold bK
    exact List.mem_map.mpr ⟨k, List.mem_range.mpr (by omega), rfl⟩
  have h2 := List.any_eq_false.mp h _ h1
  have e1 : (2 * (0 + (k : Int))).toNat = 2 * k := by omega
  have e2 : (2 * (0 + (k : Int)) + 1).toNat = 2 * k + 1 := by omega
  have h3 : ¬ gt (cs.getD (2 * (0 + (k : Int))).toNat 0 + cs.getD (2 * (0 + (k : Int)) + 1).toNat 0) 4 = true := h2
  rw [e1, e2, List.getD_eq_getElem?_getD, List.getD_eq_getElem?_getD, ha, hb] at h3
  have : ¬ (4 < a + b) := fun z => h3 (decide_eq_true z)
  omega
noncomputable def ja (cs : List Int) (x : Str) : Prop := x = Str.ofString "" ∨ (bw x.cps.toList cs [] ∧ x.length ≤ 16)
theorem Bb (way : Int) (cs : List Int) (hl : cs.length ≤ 16) : au (fCB (af (fLC (dv (af (ag (ae 2) (fC (.int 2)) bJ) ai)) (bg 0) (.ret true) (ag (ag (ag (ae 1) (ag (fC (.int 2)) (ae 0) aQ) gIx) (ag (ae 1) (ag (ag (fC (.int 2)) (ae 0) aQ) (fC (.int 1)) aK) gIx) aK) (fC (.int 4)) (aX gt)) [none, some 1]) ai) lM) [.sh (.int way), .sh (.lst (iD cs)), .sh (.int (cs.length : Int))] = .ok ((bK 0 ((cs.length : Int) / 2).toNat).any (pairD cs)) [.sh (.int way), .sh (.lst (iD cs)), .sh (.int (cs.length : Int))] := by
  have hL : (fLC (dv (af (ag (ae 2) (fC (.int 2)) bJ) ai)) (bg 0) (.ret true) (ag (ag (ag (ae 1) (ag (fC (.int 2)) (ae 0) aQ) gIx) (ag (ae 1) (ag (ag (fC (.int 2)) (ae 0) aQ) (fC (.int 1)) aK) gIx) aK) (fC (.int 4)) (aX gt)) [none, some 1]) [.sh (.int way), .sh (.lst (iD cs)), .sh (.int (cs.length : Int))] = .ok (.own ((bK 0 ((cs.length : Int) / 2).toNat).map fun d => D.bl (pairD cs d))) [.sh (.int way), .sh (.lst (iD cs)), .sh (.int (cs.length : Int))] := by
    apply kj (ds := bK 0 ((cs.length : Int) / 2).toNat)
    · apply jW (j := (cs.length : Int) / 2) (as := [.val (.int ((cs.length : Int) / 2))])
      · walk_at "ev"
      · rfl
      · exact jq (by omega) (by omega)
    · exact Bc cs hl
  have g3 := wB cs
  exact bz (dE (ay hL aN) rfl g3) rfl
theorem vp (way : Int) (c : Nat) (cs : List Int) (hc : (way = 0 ∧ c = 108) ∨ (way = 1 ∧ c = 114)) (h0 : 1 ≤ cs.length) (hl : cs.length ≤ 16) : ∃ x, cN [.int way, .lst (iD cs)] = .ok (.str x) ∧ ja cs x := by
  have g1 := dz cs
  have g3 := Bb way cs hl
  have i0 : gIx (.str (Str.ofString "lr")) (.int way) = some (.val (.str (ch c))) := by rcases hc with ⟨rfl, rfl⟩ | ⟨rfl, rfl⟩ <;> kernel_rfl
  have t0 : bO (au (ag (ae 0) (fC (.int 0)) gEq)) (au (ag (ae 0) (fC (.int 1)) gEq)) [.sh (.int way), .sh (.lst (iD cs)), .sh (.int (cs.length : Int))] = .ok true [.sh (.int way), .sh (.lst (iD cs)), .sh (.int (cs.length : Int))] := by
    rcases hc with ⟨rfl, rfl⟩ | ⟨rfl, rfl⟩ <;> walk_at "ev"
  have m1 : aQ (.str (ch c)) (.int ((cs.length : Int) / 2)) = some (.val (.str (Txt.mul (ch c) ((cs.length : Int) / 2)))) := cC (by omega) (by omega) (by show 1 ≤ 100; decide)
  have m2 : aQ (.str (Str.ofString "k")) (.int ((cs.length : Int) % 2)) = some (.val (.str (Txt.mul (Str.ofString "k") ((cs.length : Int) % 2)))) := cC (by omega) (by omega) (by decide +kernel)
  have l1 : (Txt.mul (ch c) ((cs.length : Int) / 2)).length = ((cs.length : Int) / 2).toNat := by rw [lH]; show _ * 1 = _; omega
  have l2 : (Txt.mul (Str.ofString "k") ((cs.length : Int) % 2)).length = ((cs.length : Int) % 2).toNat := by rw [lH, (by decide +kernel : (Str.ofString "k").length = 1)]; omega
  have a1 : (Txt.mul (ch c) ((cs.length : Int) / 2)).length + (Txt.mul (Str.ofString "k") ((cs.length : Int) % 2)).length ≤ sizeLine := by rw [l1, l2]; unfold sizeLine; omega
  cases hb : (bK 0 ((cs.length : Int) / 2).toNat).any (pairD cs) with
  | true =>
    rw [hb] at g3
    refine ⟨Str.ofString "", ?_, .inl rfl⟩
    unfold cN gZ
    apply dM
    apply aG
    · walk_at "ev"
    apply aJ
    apply aG
    · apply bj
      · exact t0
      · apply cy rfl
        walk_at "ev"
    · exact jK
  | false =>
    rw [hb] at g3
    refine ⟨Txt.mul (ch c) ((cs.length : Int) / 2) ++ Txt.mul (Str.ofString "k") ((cs.length : Int) % 2), ?_, .inr ⟨?_, ?_⟩⟩
    · unfold cN gZ
      apply dM
      apply aG
      · walk_at "ev"
      apply aJ
      apply aG
      · apply bj
        · exact t0
        · apply cy rfl
          walk_at "ev"
      · exact jK
    · rw [jj, kX, kX, show (ch c).cps.toList = [c] from rfl, (by decide +kernel : (Str.ofString "k").cps.toList = [107]), ny, ny]
      have hn : ((cs.length : Int) / 2).toNat = cs.length / 2 := by omega
      have hm : ((cs.length : Int) % 2).toNat = cs.length % 2 := by omega
      rw [hn, hm]
      refine i3 (r := cs.drop (2 * (cs.length / 2))) (pR (by rcases hc with ⟨_, h⟩ | ⟨_, h⟩ <;> simp [h]) (by rw [List.length_drop]; omega) rfl fun k hk a b ha hb' => Ca hb k hk a b ha hb') (jg (.inl rfl) (by rw [List.length_drop]; simp; omega) ?_)
      rw [List.drop_drop]
      exact List.drop_eq_nil_of_le (by omega)
    · rw [str_len, l1, l2]; omega
end Lw
namespace Lw
open PySem L2 DL
theorem k_is : Str.ofString "k" = ch 107 := by decide +kernel
theorem lD : Str.ofString "p" = ch 112 := by decide +kernel
theorem km (c : Nat) (n : Int) : (Txt.mul (ch c) n).cps.toList = List.replicate n.toNat c := by
  rw [kX, show (ch c).cps.toList = [c] from rfl, ny]
theorem eM (c : Nat) (n : Int) : (Txt.mul (ch c) n).length = n.toNat := by rw [lH]; show _ * 1 = _; omega
theorem oX (cs : List Int) : cs.drop cs.length = [] := List.drop_eq_nil_of_le (Nat.le_refl _)
theorem v7 (cs : List Int) (h0 : 1 ≤ cs.length) (hl : cs.length ≤ 16) : ∃ x, cN [.int 2, .lst (iD cs)] = .ok (.str x) ∧ ja cs x := by
  have g1 := dz cs
  have m1 : aQ (.str (Str.ofString "o")) (.int (16 - (cs.length : Int))) = some (.val (.str (Txt.mul (Str.ofString "o") (16 - (cs.length : Int))))) := cC (by omega) (by omega) (by decide +kernel)
  have m2 : aQ (.str (Str.ofString "p")) (.int (cs.length : Int)) = some (.val (.str (Txt.mul (Str.ofString "p") (cs.length : Int)))) := cC (by omega) (by omega) (by decide +kernel)
  have a1 : (Txt.mul (Str.ofString "o") (16 - (cs.length : Int))).length + (Txt.mul (Str.ofString "p") (cs.length : Int)).length ≤ sizeLine := by rw [gK, lD, eM, eM]; unfold sizeLine; omega
  refine ⟨Txt.mul (Str.ofString "o") (16 - (cs.length : Int)) ++ Txt.mul (Str.ofString "p") (cs.length : Int), ?_, .inr ⟨?_, ?_⟩⟩
  · unfold cN gZ
    walk_at "ev"
  · rw [jj, gK, lD, km, km]
    exact i3 (mG _ cs) (jg (.inr (.inl rfl)) (by simp) (by rw [Int.toNat_natCast]; exact oX cs))
  · rw [str_len, gK, lD, eM, eM]; omega
theorem BE (cs : List Int) (h0 : 1 ≤ cs.length) (hl : cs.length ≤ 16) : ∃ x, cN [.int 3, .lst (iD cs)] = .ok (.str x) ∧ ja cs x := by
  have g1 := dz cs
  have m1 : aQ (.str (Str.ofString "o")) (.int (16 - (cs.length : Int))) = some (.val (.str (Txt.mul (Str.ofString "o") (16 - (cs.length : Int))))) := cC (by omega) (by omega) (by decide +kernel)
  have m2 : aQ (.str (Str.ofString "k")) (.int (cs.length : Int)) = some (.val (.str (Txt.mul (Str.ofString "k") (cs.length : Int)))) := cC (by omega) (by omega) (by decide +kernel)
  have a1 : (Txt.mul (Str.ofString "k") (cs.length : Int)).length + (Txt.mul (Str.ofString "o") (16 - (cs.length : Int))).length ≤ sizeLine := by rw [gK, k_is, eM, eM]; unfold sizeLine; omega
  refine ⟨Txt.mul (Str.ofString "k") (cs.length : Int) ++ Txt.mul (Str.ofString "o") (16 - (cs.length : Int)), ?_, .inr ⟨?_, ?_⟩⟩
  · unfold cN gZ
    walk_at "ev"
  · rw [jj, gK, k_is, km, km]
    exact i3 (r := []) (jg (.inl rfl) (by simp) (by rw [Int.toNat_natCast]; exact oX cs)) (mG _ [])
  · rw [str_len, gK, k_is, eM, eM]; omega
theorem Aw (cs : List Int) (h0 : 1 ≤ cs.length) (hl : cs.length ≤ 16) : ∃ x, cN [.int 5, .lst (iD cs)] = .ok (.str x) ∧ ja cs x := by
  have g1 := dz cs
  have m2 : aQ (.str (Str.ofString "s")) (.int (cs.length : Int)) = some (.val (.str (Txt.mul (Str.ofString "s") (cs.length : Int)))) := cC (by omega) (by omega) (by decide +kernel)
  refine ⟨Txt.mul (Str.ofString "s") (cs.length : Int), ?_, .inr ⟨?_, ?_⟩⟩
  · unfold cN gZ
    walk_at "ev"
  · rw [i9, km]
    exact jg (.inr (.inr rfl)) (by simp) (by rw [Int.toNat_natCast]; exact oX cs)
  · rw [i9, eM]; omega
theorem zj (cs : List Int) (h0 : 1 ≤ cs.length) (hl : cs.length ≤ 16) : ∃ x, cN [.int 6, .lst (iD cs)] = .ok (.str x) ∧ ja cs x := by
  have g1 := dz cs
  have hm : 0 ≤ bQ (cs.length : Int) (16 - (cs.length : Int)) ∧ bQ (cs.length : Int) (16 - (cs.length : Int)) ≤ cs.length ∧ bQ (cs.length : Int) (16 - (cs.length : Int)) ≤ 16 - (cs.length : Int) := by unfold bQ; split <;> omega
  have hok : (Str.ofString "ok").length = 2 := by decide +kernel
  have okc : (Str.ofString "ok").cps.toList = [111, 107] := by decide +kernel
  have g2 : fk [.int (cs.length : Int), .int (16 - (cs.length : Int))] = some (.val (.int (bQ (cs.length : Int) (16 - (cs.length : Int))))) := rfl
  have m1 : aQ (.str (Str.ofString "ok")) (.int (bQ (cs.length : Int) (16 - (cs.length : Int)))) = some (.val (.str (Txt.mul (Str.ofString "ok") (bQ (cs.length : Int) (16 - (cs.length : Int)))))) := cC (by omega) (by omega) (by omega)
  have m2 : aQ (.str (Str.ofString "k")) (.int ((cs.length : Int) - bQ (cs.length : Int) (16 - (cs.length : Int)))) = some (.val (.str (Txt.mul (Str.ofString "k") ((cs.length : Int) - bQ (cs.length : Int) (16 - (cs.length : Int)))))) := cC (by omega) (by omega) (by decide +kernel)
  have a1 : (Txt.mul (Str.ofString "ok") (bQ (cs.length : Int) (16 - (cs.length : Int)))).length + (Txt.mul (Str.ofString "k") ((cs.length : Int) - bQ (cs.length : Int) (16 - (cs.length : Int)))).length ≤ sizeLine := by rw [k_is, lH, eM, hok]; unfold sizeLine; omega
  refine ⟨Txt.mul (Str.ofString "ok") (bQ (cs.length : Int) (16 - (cs.length : Int))) ++ Txt.mul (Str.ofString "k") ((cs.length : Int) - bQ (cs.length : Int) (16 - (cs.length : Int))), ?_, .inr ⟨?_, ?_⟩⟩
  · unfold cN gZ
    walk_at "ev"
  · rw [jj, k_is, km, kX, okc]
    refine i3 (uL _ (by omega)) (jg (.inl rfl) (by rw [List.length_drop]; simp; omega) ?_)
    rw [List.drop_drop]
    exact List.drop_eq_nil_of_le (by omega)
  · rw [str_len, k_is, lH, eM, hok]; omega
theorem rY : ∀ ys : List Str, (Str.join (Str.ofString "") ys).cps.toList = (ys.map fun y => y.cps.toList).flatten
  | [] => by decide +kernel
  | [y] => by simp [Str.join]
  | y :: z :: r => by
    show ((y ++ Str.ofString "") ++ Str.join (Str.ofString "") (z :: r)).cps.toList = _
    rw [Str.cps_append, Str.cps_append, Array.toList_append, Array.toList_append, rY (z :: r)]
    have : (Str.ofString "").cps.toList = [] := by decide +kernel
    rw [this, List.append_nil]; rfl
noncomputable def tsS (cs : List Int) : List Str := cs.map fun c => if c < 4 then ch 116 else ch 115
theorem sF : ∀ cs : List Int, ((tsS cs).map fun y => y.cps.toList).flatten = jH cs
  | [] => rfl
  | c :: cs => by
    show (if c < 4 then ch 116 else ch 115).cps.toList ++ ((tsS cs).map fun y => y.cps.toList).flatten = (if c < 4 then 116 else 115) :: jH cs
    rw [sF cs]
    split <;> rfl
theorem qc : ∀ cs : List Int, ((tsS cs).map (·.length)).sum = cs.length
  | [] => rfl
  | c :: cs => by
    show (if c < 4 then ch 116 else ch 115).length + ((tsS cs).map (·.length)).sum = _
    rw [qc cs, List.length_cons]
    split <;> (show 1 + _ = _; omega)
theorem wd (cs : List Int) (h0 : 1 ≤ cs.length) (hl : cs.length ≤ 16) : ∃ x, cN [.int 4, .lst (iD cs)] = .ok (.str x) ∧ ja cs x := by
  have g1 := dz cs
  have e : cf (bg 0) (.ret true) (fS (au (ag (ae 0) (fC (.int 4)) (aX lt))) (fC (.str "t")) (fC (.str "s"))) (iD cs) [.no] [] = some ((tsS cs).map D.str) := by
    rw [comp_map (g := fun d => match d with | .int c => .str (if c < 4 then ch 116 else ch 115) | _ => .non) (iD cs) .no (by rw [eJ]; unfold sizeLine; omega) ?_]
    · unfold iD tsS
      rw [List.map_map, List.map_map]; rfl
    · intro d hd
      obtain ⟨c, hc', rfl⟩ := List.mem_map.mp hd
      have h3 : (fS (au (ag (ae 0) (fC (.int 4)) (aX lt))) (fC (.str "t")) (fC (.str "s"))) [.sh (.int c)] = .ok (.val (.str (if c < 4 then ch 116 else ch 115))) [.sh (.int c)] := by
        by_cases h : c < 4
        · have hb : lt c 4 = true := decide_eq_true h
          rw [if_pos h, ← jz]
          walk_at "ev"
        · have hb : lt c 4 = false := decide_eq_false h
          rw [if_neg h, ← i9]
          walk_at "ev"
      unfold fN DM.bd
      rw [h3]
      rfl
  have e2 := tN (tsS cs)
  have e0 : (Str.ofString "").length = 0 := by decide +kernel
  have e3 : ((tsS cs).map (·.length)).sum + (tsS cs).length * (Str.ofString "").length ≤ 16777216 := by rw [qc, e0]; omega
  have e4 : cD (.lst (iD cs)) = some (iD cs) := rfl
  have hj : (Txt.join (Str.ofString "") (tsS cs)).cps.toList = jH cs := by rw [Bd, rY, sF]
  refine ⟨Txt.join (Str.ofString "") (tsS cs), ?_, .inr ⟨?_, ?_⟩⟩
  · unfold cN gZ
    walk_at "ev"
  · rw [hj]; exact oy cs
  · have : (Txt.join (Str.ofString "") (tsS cs)).length = (Txt.join (Str.ofString "") (tsS cs)).cps.toList.length := by simp [Str.length]
    rw [this, hj]
    unfold jH
    rw [List.length_map]; exact hl
theorem Ak (way : Int) (cs : List Int) (h1 : 0 ≤ way) (h2 : way < 7) (h0 : 1 ≤ cs.length) (hl : cs.length ≤ 16) : ∃ x, cN [.int way, .lst (iD cs)] = .ok (.str x) ∧ ja cs x := by
  have : way = 0 ∨ way = 1 ∨ way = 2 ∨ way = 3 ∨ way = 4 ∨ way = 5 ∨ way = 6 := by omega
  rcases this with rfl | rfl | rfl | rfl | rfl | rfl | rfl
  · exact vp 0 108 cs (.inl ⟨rfl, rfl⟩) h0 hl
  · exact vp 1 114 cs (.inr ⟨rfl, rfl⟩) h0 hl
  · exact v7 cs h0 hl
  · exact BE cs h0 hl
  · exact wd cs h0 hl
  · exact Aw cs h0 hl
  · exact zj cs h0 hl
end Lw
namespace Lw
open PySem L2 DL
theorem vh {c : DM Bool} {S : DM Fl} {n : Nat} {δ δ1 δ2 : DSt} {R : Rs Fl} (h : c δ = .ok true δ1) (hb : S δ1 = .ok .nx δ2) (hr : cT c S n δ2 = R) : cT c S (n + 1) δ = R := by
  unfold cT DM.bd; simp only [h, if_true, hb]; exact hr
theorem oW {c : DM Bool} {S : DM Fl} {n : Nat} {δ δ1 : DSt} (h : c δ = .ok false δ1) : cT c S (n + 1) δ = .ok .nx δ1 := by
  unfold cT DM.bd; simp only [h, Bool.false_eq_true, if_false]; rfl
noncomputable def tkS (x : Str) : Nat := (x.cps.toList.map tkn).sum
theorem r6 {cs : List Int} {a : Int} {room : Bool} {x : Str} (h : Here cs a room x) (ha : 0 ≤ a) (hl : a < cs.length) : bw x.cps.toList (cs.drop a.toNat) (cs.drop (a.toNat + tkS x)) ∧ a.toNat + tkS x ≤ cs.length ∧
    ((x.length = 1 ∧ tkS x = 0 ∧ room = true) ∨ (x.length = 2 ∧ tkS x = 2) ∨ (x.length = 1 ∧ tkS x = 2) ∨ (x.length = 1 ∧ tkS x = 1)) := by
  have hlt : a.toNat < cs.length := by omega
  have hd := List.drop_eq_getElem_cons hlt
  have twoF : Two cs a → ∃ u v q, cs.drop a.toNat = u :: v :: q ∧ u + v ≤ 4 ∧ q = cs.drop (a.toNat + 2) ∧ a.toNat + 2 ≤ cs.length := by
    rintro ⟨u, v, h1, h2, h3⟩
    have e1 : (a + 1).toNat = a.toNat + 1 := by omega
    rw [e1] at h2
    obtain ⟨l1, q1⟩ := List.getElem?_eq_some_iff.mp h1
    obtain ⟨l2, q2⟩ := List.getElem?_eq_some_iff.mp h2
    refine ⟨u, v, _, ?_, h3, rfl, by omega⟩
    rw [hd, List.drop_eq_getElem_cons l2, q1, q2]
  have lr : ∀ c, c = 108 ∨ c = 114 → ∀ u v q, u + v ≤ 4 → c ∈ codes ∧ fits c (u :: v :: q) ∧ (u :: v :: q : List Int).drop (tkn c) = q := by
    intro c hc u v q h4
    have ht : tkn c = 2 := by rcases hc with rfl | rfl <;> rfl
    have hm : met c (u :: v :: q) = u + v := by unfold met; rw [ht]; show [u, v].sum = _; simp
    exact ⟨by rcases hc with rfl | rfl <;> decide, ⟨by rw [ht]; simp, fun z => by omega, fun _ => by rw [hm]; exact h4⟩, by rw [ht]; rfl⟩
  have oo : ∀ q : List Int, (111 : Nat) ∈ codes ∧ fits 111 q ∧ q.drop (tkn 111) = q := fun q => ⟨by decide, ⟨Nat.zero_le _, fun z => absurd z (by decide), fun z => absurd z (by decide)⟩, rfl⟩
  have one : ∀ c, c = 107 ∨ c = 112 ∨ c = 115 → c ∈ codes ∧ fits c (cs.drop a.toNat) ∧ tkn c = 1 := by
    intro c hc
    have ht : tkn c = 1 := by rcases hc with rfl | rfl | rfl <;> rfl
    exact ⟨by rcases hc with rfl | rfl | rfl <;> decide, ⟨by rw [ht, List.length_drop]; omega, fun z => by omega, fun z => by omega⟩, ht⟩
  rcases h with ⟨h1, rfl⟩ | ⟨h1, h2⟩ | ⟨h1, h2⟩ | ⟨⟨v, h1, h2⟩, rfl⟩ | h2
  · have e : (Str.ofString "o").cps.toList = [111] := by decide +kernel
    have e2 : tkS (Str.ofString "o") = 0 := by unfold tkS; rw [e]; rfl
    rw [e, e2]
    exact ⟨⟨(oo []).1, (oo _).2.1, rfl⟩, by omega, .inl ⟨by decide +kernel, rfl, h1⟩⟩
  · obtain ⟨u, v, q, h3, h4, h5, h6⟩ := twoF h1
    have key : ∀ x : Str, ∀ c, (c = 108 ∨ c = 114) → (x.cps.toList = [111, c] ∨ x.cps.toList = [c, 111]) → x.length = 2 → bw x.cps.toList (cs.drop a.toNat) (cs.drop (a.toNat + tkS x)) ∧ a.toNat + tkS x ≤ cs.length ∧ ((x.length = 1 ∧ tkS x = 0 ∧ room = true) ∨ (x.length = 2 ∧ tkS x = 2) ∨ (x.length = 1 ∧ tkS x = 2) ∨ (x.length = 1 ∧ tkS x = 1)) := by
      intro x c hc hx hxl
      have ht : tkn c = 2 := by rcases hc with rfl | rfl <;> rfl
      have e2 : tkS x = 2 := by
        unfold tkS
        rcases hx with hx | hx <;> rw [hx]
        · show 0 + (tkn c + 0) = 2; omega
        · show tkn c + (0 + 0) = 2; omega
      refine ⟨?_, by omega, .inr (.inl ⟨hxl, e2⟩)⟩
      obtain ⟨k1, k2, k3⟩ := lr c hc u v q h4
      rw [e2, ← h5, h3]
      rcases hx with hx | hx <;> rw [hx]
      · exact ⟨(oo []).1, (oo _).2.1, k1, k2, k3⟩
      · refine ⟨k1, k2, ?_⟩
        rw [k3]
        exact ⟨(oo []).1, (oo q).2.1, rfl⟩
    simp only [List.mem_cons, List.not_mem_nil, or_false] at h2
    rcases h2 with rfl | rfl | rfl | rfl
    · exact key _ 108 (.inl rfl) (.inl (by decide +kernel)) (by decide +kernel)
    · exact key _ 108 (.inl rfl) (.inr (by decide +kernel)) (by decide +kernel)
    · exact key _ 114 (.inr rfl) (.inl (by decide +kernel)) (by decide +kernel)
    · exact key _ 114 (.inr rfl) (.inr (by decide +kernel)) (by decide +kernel)
  · obtain ⟨u, v, q, h3, h4, h5, h6⟩ := twoF h1
    have key : ∀ x : Str, ∀ c, (c = 108 ∨ c = 114) → x.cps.toList = [c] → x.length = 1 → bw x.cps.toList (cs.drop a.toNat) (cs.drop (a.toNat + tkS x)) ∧ a.toNat + tkS x ≤ cs.length ∧ ((x.length = 1 ∧ tkS x = 0 ∧ room = true) ∨ (x.length = 2 ∧ tkS x = 2) ∨ (x.length = 1 ∧ tkS x = 2) ∨ (x.length = 1 ∧ tkS x = 1)) := by
      intro x c hc hx hxl
      have ht : tkn c = 2 := by rcases hc with rfl | rfl <;> rfl
      have e2 : tkS x = 2 := by unfold tkS; rw [hx]; show tkn c + 0 = 2; omega
      obtain ⟨k1, k2, k3⟩ := lr c hc u v q h4
      rw [e2, ← h5, h3, hx]
      exact ⟨⟨k1, k2, k3⟩, by omega, .inr (.inr (.inl ⟨hxl, rfl⟩))⟩
    simp only [List.mem_cons, List.not_mem_nil, or_false] at h2
    rcases h2 with rfl | rfl
    · exact key _ 108 (.inl rfl) (by decide +kernel) (by decide +kernel)
    · exact key _ 114 (.inr rfl) (by decide +kernel) (by decide +kernel)
  · have e : (Str.ofString "t").cps.toList = [116] := by decide +kernel
    have e2 : tkS (Str.ofString "t") = 1 := by unfold tkS; rw [e]; rfl
    rw [e, e2]
    refine ⟨⟨by decide, ⟨by show 1 ≤ _; rw [List.length_drop]; omega, fun _ => ?_, fun z => absurd z (by decide)⟩, ?_⟩, by omega, .inr (.inr (.inr ⟨by decide +kernel, rfl⟩))⟩
    · obtain ⟨l1, q1⟩ := List.getElem?_eq_some_iff.mp h1
      unfold met
      rw [hd, q1]
      show [v].sum < 4
      simpa using h2
    · show List.drop 1 _ = _
      rw [List.drop_drop]
  · have key : ∀ x : Str, ∀ c, (c = 107 ∨ c = 112 ∨ c = 115) → x.cps.toList = [c] → x.length = 1 → bw x.cps.toList (cs.drop a.toNat) (cs.drop (a.toNat + tkS x)) ∧ a.toNat + tkS x ≤ cs.length ∧ ((x.length = 1 ∧ tkS x = 0 ∧ room = true) ∨ (x.length = 2 ∧ tkS x = 2) ∨ (x.length = 1 ∧ tkS x = 2) ∨ (x.length = 1 ∧ tkS x = 1)) := by
      intro x c hc hx hxl
      obtain ⟨k1, k2, k3⟩ := one c hc
      have e2 : tkS x = 1 := by unfold tkS; rw [hx]; show tkn c + 0 = 1; omega
      rw [e2, hx]
      exact ⟨⟨k1, k2, by rw [k3]; show List.drop 1 _ = _; rw [List.drop_drop]⟩, by omega, .inr (.inr (.inr ⟨hxl, rfl⟩))⟩
    simp only [List.mem_cons, List.not_mem_nil, or_false] at h2
    rcases h2 with rfl | rfl | rfl
    · exact key _ 115 (.inr (.inr rfl)) (by decide +kernel) (by decide +kernel)
    · exact key _ 107 (.inl rfl) (by decide +kernel) (by decide +kernel)
    · exact key _ 112 (.inr (.inl rfl)) (by decide +kernel) (by decide +kernel)
theorem pT (p0 p1 p2 p3 p5 p6 p7 : Sl) : ∀ (w : List Nat) (a : Int) (b8 : Sl), (∀ c ∈ w, c ∈ codes) → ∃ x8, bD (bg 8) (aF 4 (ag (ae 4) (aD 1 (af (ae 8) ai) fg) aK)) (w.map fun c => D.str (ch c)) [p0, p1, p2, p3, .sh (.int a), p5, p6, p7, b8] = .ok .nx [p0, p1, p2, p3, .sh (.int (a + ((w.map tkn).sum : Nat))), p5, p6, p7, x8]
  | [], a, b8, _ => ⟨b8, by rw [List.map_nil, qk, List.map_nil, List.sum_nil]; show _ = Rs.ok Fl.nx [p0, p1, p2, p3, .sh (.int (a + 0)), p5, p6, p7, b8]; rw [Int.add_zero]⟩
  | c :: w, a, b8, h => by
    have e3 := pX (h c List.mem_cons_self)
    obtain ⟨x8, e⟩ := pT p0 p1 p2 p3 p5 p6 p7 w (a + (tkn c : Nat)) (.sh (.str (ch c))) fun d hd => h d (List.mem_cons_of_mem _ hd)
    refine ⟨x8, ?_⟩
    rw [List.map_cons]
    refine cB rfl (δ2 := [p0, p1, p2, p3, .sh (.int (a + (tkn c : Nat))), p5, p6, p7, .sh (.str (ch c))]) ?_ ?_
    · apply Eq.trans
      walk_at "ev"
    · rw [e]
      have : a + (tkn c : Nat) + ((w.map tkn).sum : Nat) = a + (((c :: w).map tkn).sum : Nat) := by rw [List.map_cons, List.sum_cons]; omega
      rw [this]
noncomputable def cWh : DM Bool := (au (ag (ae 4) (fCB (af (ae 1) ai) bq) (aX lt)))
noncomputable def bWh : DM Fl := (ak (aF 6 (ag (ag (ag (fCB (af (ae 3) ai) bq) (fCB (af (ae 1) ai) bq) aK) (ae 4) cu) (fC (.int 16)) (aX lt)))
    (ak (aF 7 (aD 5 (af (ag (ag (aD 2 (af (ae 0) (af (ag (fC (.int 2)) (ae 5) aQ) ai)) de) (fC (.int 13)) bJ) (fC (.int 14)) bc) (af (ag (aD 2 (af (ae 0) (af (ag (ag (fC (.int 2)) (ae 5) aQ) (fC (.int 1)) aK) ai)) de) (fC (.int 7)) bJ) (af (ae 1) (af (ae 4) (af (ae 6) ai))))) iB))
    (ak (aF 3 (ag (ae 3) (ae 7) aK))
    (ak (aF 5 (ag (ae 5) (fC (.int 1)) aK))
    (b0 (fIt (ae 7) fK) (bg 8) (aF 4 (ag (ae 4) (aD 1 (af (ae 8) ai) fg) aK)))))))
theorem xy (cell some k a : Int) (cs : List Int) (st : Str) (b6 b7 b8 : Sl) (ha : 0 ≤ a) (hl : a < cs.length) (hn : cs.length ≤ 16) (hs : st.length ≤ 100) : ∃ x x6 x8, Here cs a (lt ((st.length : Int) + cs.length - a) 16) x ∧
    bWh [.sh (.int cell), .sh (.lst (iD cs)), .sh (.int some), .sh (.str st), .sh (.int a), .sh (.int k), b6, b7, b8] = .ok .nx [.sh (.int cell), .sh (.lst (iD cs)), .sh (.int some), .sh (.str (st ++ x)), .sh (.int (a + (tkS x : Nat))), .sh (.int (k + 1)), x6, .sh (.str x), x8] := by
  have g1 := dz cs
  have g2 : bq [.str st] = Option.some (.val (.int st.length)) := iE (by unfold sizeLine; omega)
  have g3 := lg cell (2 * k)
  have g4 := lg cell (2 * k + 1)
  have hv : cs[a.toNat]? = Option.some cs[a.toNat] := List.getElem?_eq_getElem (by omega)
  obtain ⟨x, g5, hx⟩ := v8 (dI cell (2 * k) / 13 % 14) (dI cell (2 * k + 1) / 7) a _ cs (lt ((st.length : Int) + cs.length - a) 16) ha hv (by omega)
  obtain ⟨h1, h2, h3⟩ := r6 hx ha hl
  have hxl : x.length ≤ 2 := by omega
  have g6 : st.length + x.length ≤ sizeLine := by unfold sizeLine; omega
  obtain ⟨x8, g7⟩ := pT (.sh (.int cell)) (.sh (.lst (iD cs))) (.sh (.int some)) (.sh (.str (st ++ x))) (.sh (.int (k + 1))) (.sh (.bl (lt ((st.length : Int) + cs.length - a) 16))) (.sh (.str x)) x.cps.toList a b8 (gM h1)
  have g8 : fK (.str x) = Option.some (x.cps.toList.map fun c => D.str (ch c)) := rfl
  refine ⟨x, .sh (.bl (lt ((st.length : Int) + cs.length - a) 16)), x8, hx, ?_⟩
  unfold bWh
  apply Eq.trans
  walk_at "ev"
theorem qI (cell some : Int) (cs : List Int) (hn : cs.length ≤ 16) : ∀ (n : Nat) (st : Str) (a k : Int) (b6 b7 b8 : Sl), bw st.cps.toList cs (cs.drop a.toNat) → 0 ≤ a → a ≤ cs.length → (st.length : Int) + cs.length - a ≤ 16 → 16 - ((st.length : Int) + cs.length - a) + 2 * (cs.length - a) < n →
    ∃ x x4 x5 x6 x7 x8, bw x.cps.toList cs [] ∧ x.length ≤ 16 ∧ cT cWh bWh n [.sh (.int cell), .sh (.lst (iD cs)), .sh (.int some), .sh (.str st), .sh (.int a), .sh (.int k), b6, b7, b8] = .ok .nx [.sh (.int cell), .sh (.lst (iD cs)), .sh (.int some), .sh (.str x), x4, x5, x6, x7, x8]
  | 0, st, a, k, b6, b7, b8, h, ha, hl, hs, hm => by omega
  | n + 1, st, a, k, b6, b7, b8, h, ha, hl, hs, hm => by
    have g1 := dz cs
    by_cases hlt : a < cs.length
    · have hb : lt a (cs.length : Int) = true := decide_eq_true hlt
      have hc : cWh [.sh (.int cell), .sh (.lst (iD cs)), .sh (.int some), .sh (.str st), .sh (.int a), .sh (.int k), b6, b7, b8] = .ok true [.sh (.int cell), .sh (.lst (iD cs)), .sh (.int some), .sh (.str st), .sh (.int a), .sh (.int k), b6, b7, b8] := by
        rw [← hb]
        unfold cWh
        walk_at "ev"
      obtain ⟨x, y6, y8, hx, e⟩ := xy cell some k a cs st b6 b7 b8 ha hlt hn (by omega)
      obtain ⟨h1, h2, h3⟩ := r6 hx ha hlt
      have e0 : (a + (tkS x : Nat)).toNat = a.toNat + tkS x := by omega
      have hroom : lt ((st.length : Int) + cs.length - a) 16 = true → (st.length : Int) + cs.length - a < 16 := of_decide_eq_true
      obtain ⟨y, x4, x5, x6, x7, x8, q1, q2, q3⟩ := qI cell some cs hn n (st ++ x) (a + (tkS x : Nat)) (k + 1) y6 (.sh (.str x)) y8 (by rw [jj, e0]; exact i3 h h1) (by omega) (by omega)
        (by rw [str_len]; rcases h3 with ⟨z1, z2, z3⟩ | ⟨z1, z2⟩ | ⟨z1, z2⟩ | ⟨z1, z2⟩ <;> (try have := hroom z3) <;> omega)
        (by rw [str_len]; rcases h3 with ⟨z1, z2, z3⟩ | ⟨z1, z2⟩ | ⟨z1, z2⟩ | ⟨z1, z2⟩ <;> (try have := hroom z3) <;> omega)
      exact ⟨y, x4, x5, x6, x7, x8, q1, q2, vh hc e q3⟩
    · have hb : lt a (cs.length : Int) = false := decide_eq_false hlt
      have hc : cWh [.sh (.int cell), .sh (.lst (iD cs)), .sh (.int some), .sh (.str st), .sh (.int a), .sh (.int k), b6, b7, b8] = .ok false [.sh (.int cell), .sh (.lst (iD cs)), .sh (.int some), .sh (.str st), .sh (.int a), .sh (.int k), b6, b7, b8] := by
        rw [← hb]
        unfold cWh
        walk_at "ev"
      refine ⟨st, _, _, _, _, _, ?_, by omega, oW hc⟩
      have : cs.drop a.toNat = [] := List.drop_eq_nil_of_le (by omega)
      rw [this] at h
      exact h
end Lw
namespace Lw
open PySem L2 DL
noncomputable def pz : DM Fl := (ak (aF 4 (fC (.int 0)))
    (ak (aF 5 (fC (.int 0)))
    (ak (cT cWh bWh 64)
    (ak (fIf (bX (au (ag (ag (ag (aD 2 (af (ae 0) (af (fC (.int 99)) ai)) de) (fC (.int 5)) bJ) (fC (.int 3)) bc) (fC (.int 0)) gEq)) (au (ag (fCB (af (ae 3) ai) bq) (fC (.int 16)) (aX lt)))) (aF 3 (ag (ae 3) (fC (.str "o")) aK)) aO)
    (aI (ae 3))))))
theorem len_pos {x : Str} {cs : List Int} (h : bw x.cps.toList cs []) (h0 : 1 ≤ cs.length) : 1 ≤ x.length := by
  cases e : x.cps.toList with
  | nil =>
    rw [e] at h
    have : cs = [] := h
    rw [this] at h0
    simp at h0
  | cons c w =>
    have : x.cps.toList.length = x.length := by simp [Str.length]
    rw [e, List.length_cons] at this
    omega
theorem wa (cell some : Int) (cs : List Int) (h0 : 1 ≤ cs.length) (hn : cs.length ≤ 16) : ∃ x δ, bw x.cps.toList cs [] ∧ x.length ≤ 16 ∧
    pz [.sh (.int cell), .sh (.lst (iD cs)), .sh (.int some), .sh (.str (Str.ofString "")), .no, .no, .no, .no, .no] = .ok (.rt (.str x)) δ := by
  have e0 : (Str.ofString "").length = 0 := by decide +kernel
  have e1 : (Str.ofString "").cps.toList = [] := by decide +kernel
  obtain ⟨x, x4, x5, x6, x7, x8, h1, h2, h3⟩ := qI cell some cs hn 64 (Str.ofString "") 0 0 .no .no .no (by rw [e1]; rfl) (by omega) (by omega) (by omega) (by omega)
  have g1 := lg cell 99
  have g2 : bq [.str x] = Option.some (.val (.int x.length)) := iE (by unfold sizeLine; omega)
  have g3 : gEq (.int (dI cell 99 / 5 % 3)) (.int 0) = Option.some (.val (.bl (decide (dI cell 99 / 5 % 3 = 0)))) := gH rfl
  have t0 : bX (au (ag (ag (ag (aD 2 (af (ae 0) (af (fC (.int 99)) ai)) de) (fC (.int 5)) bJ) (fC (.int 3)) bc) (fC (.int 0)) gEq)) (au (ag (fCB (af (ae 3) ai) bq) (fC (.int 16)) (aX lt))) [.sh (.int cell), .sh (.lst (iD cs)), .sh (.int some), .sh (.str x), x4, x5, x6, x7, x8] = .ok (decide (dI cell 99 / 5 % 3 = 0) && lt x.length 16) [.sh (.int cell), .sh (.lst (iD cs)), .sh (.int some), .sh (.str x), x4, x5, x6, x7, x8] := lT (by walk_at "ev") (by walk_at "ev")
  unfold pz
  cases hb : decide (dI cell 99 / 5 % 3 = 0) && lt x.length 16 with
  | true =>
    rw [hb] at t0
    have hlt : (x.length : Int) < 16 := of_decide_eq_true (Bool.and_eq_true_iff.mp hb).2
    have hol : (Str.ofString "o").length = 1 := by decide +kernel
    have g4 : x.length + (Str.ofString "o").length ≤ sizeLine := by rw [hol]; unfold sizeLine; omega
    refine ⟨x ++ Str.ofString "o", _, ?_, by rw [str_len, hol]; omega, by walk_at "ev"⟩
    rw [jj, (by decide +kernel : (Str.ofString "o").cps.toList = [111])]
    exact i3 h1 (mG 1 [])
  | false =>
    rw [hb] at t0
    exact ⟨x, _, h1, h2, by walk_at "ev"⟩
theorem CI (cell : Int) (cs : List Int) (h0 : 1 ≤ cs.length) (hn : cs.length ≤ 16) : ∃ x, fY [.int cell, .lst (iD cs)] = .ok (.str x) ∧ bw x.cps.toList cs [] ∧ 1 ≤ x.length ∧ x.length ≤ 16 := by
  have g1 := lg cell 90
  have ne : ∀ x : Str, gNe (.str x) (.str (Str.ofString "")) = Option.some (.val (.bl (!decide (x = Str.ofString "")))) := fun x => gr rfl
  obtain ⟨x2, δ2, q1, q2, q3⟩ := wa cell (dI cell 90 / 7 % 30) cs h0 hn
  unfold pz cWh bWh at q3
  by_cases hs : dI cell 90 / 7 % 30 < 7
  · have hb : lt (dI cell 90 / 7 % 30) 7 = true := decide_eq_true hs
    obtain ⟨x, g2, hx⟩ := Ak (dI cell 90 / 7 % 30) cs (by omega) hs h0 hn
    have g3 := ne x
    by_cases he : x = Str.ofString ""
    · have hd : (!decide (x = Str.ofString "")) = false := by rw [decide_eq_true he]; rfl
      subst he
      refine ⟨x2, ?_, q1, len_pos q1 h0, q2⟩
      unfold fY mM
      apply dM
      apply aG
      · walk_at "ev"
      apply aJ
      apply aG
      · walk_at "ev"
      apply aJ
      apply aG
      · walk_at "ev"
      exact q3
    · have hd : (!decide (x = Str.ofString "")) = true := by rw [decide_eq_false he]; rfl
      rcases hx with hx | ⟨h1, h2⟩
      · exact absurd hx he
      refine ⟨x, ?_, h1, len_pos h1 h0, h2⟩
      unfold fY mM
      walk_at "ev"
  · have hb : lt (dI cell 90 / 7 % 30) 7 = false := decide_eq_false hs
    have g3 : gNe (.str (Str.ofString "")) (.str (Str.ofString "")) = Option.some (.val (.bl false)) := gr (lV 8 _ rfl)
    refine ⟨x2, ?_, q1, len_pos q1 h0, q2⟩
    unfold fY mM
    apply dM
    apply aG
    · walk_at "ev"
    apply aJ
    apply aG
    · walk_at "ev"
    apply aJ
    apply aG
    · walk_at "ev"
    exact q3
end Lw
namespace Lw
open PySem L2 DL
noncomputable def gW : List Str := ["a", "b", "c", "d", "e", "f"]
theorem qL (x : Int) : ∃ y : Str, gIx (.str "abcdef") (.int (x % 6)) = some (.val (.str y)) ∧ y ∈ gW := by
  have : x % 6 = 0 ∨ x % 6 = 1 ∨ x % 6 = 2 ∨ x % 6 = 3 ∨ x % 6 = 4 ∨ x % 6 = 5 := by omega
  rcases this with h | h | h | h | h | h <;> rw [h]
  · exact ⟨"a", by kernel_rfl, by decide +kernel⟩
  · exact ⟨"b", by kernel_rfl, by decide +kernel⟩
  · exact ⟨"c", by kernel_rfl, by decide +kernel⟩
  · exact ⟨"d", by kernel_rfl, by decide +kernel⟩
  · exact ⟨"e", by kernel_rfl, by decide +kernel⟩
  · exact ⟨"f", by kernel_rfl, by decide +kernel⟩
noncomputable def ng : DM Fl := (ak (aF 7 (ag (aD 2 (af (ae 0) (af (ag (fC (.int 3)) (ae 6) aK) ai)) cI) (ag (fC (.int 5003)) (ae 6) aQ) aK))
    (ak (aF 8 (aD 2 (af (ae 7) (af (ae 5) ai)) fY))
    (ak (bE 4 (aY (af (fC (.str "row")) (af (ag (fC (.str "abcdef")) (ag (ag (aD 2 (af (ae 7) (af (fC (.int 200)) ai)) de) (fC (.int 11)) bJ) (fC (.int 6)) bc) gIx) (af (ae 8) ai)))))
    (aF 5 (aD 2 (af (ae 8) (af (ae 5) ai)) iO)))))
theorem Ac (ns : List Int) (p1 p2 p3 b7 b8 : Sl) (ps : List D) (cs : List Int) (k : Nat) (hk : k < 100) (h0 : 1 ≤ cs.length) (hn : cs.length ≤ 16) (hp : ps.length ≤ 100) : ∃ (r : Str × Str) (x7 : Sl), r.1 ∈ gW ∧ bw r.2.cps.toList cs [] ∧ 1 ≤ r.2.length ∧ r.2.length ≤ 16 ∧
    ng [.sh (.scr ns), p1, p2, p3, .ow ps, .sh (.lst (iD cs)), .sh (.int k), b7, b8] = .ok .nx [.sh (.scr ns), p1, p2, p3, .ow (ps ++ [av r]), .sh (.lst (iD (outs r.2.cps.toList cs))), .sh (.int k), x7, .sh (.str r.2)] := by
  have g1 := iv ns (3 + k) (by omega)
  obtain ⟨x, g2, h1, h2, h3⟩ := CI (bW ns (3 + k) + 5003 * (k : Int)) cs h0 hn
  have g3 := lg (bW ns (3 + k) + 5003 * (k : Int)) 200
  obtain ⟨y, g4, hy⟩ := qL (dI (bW ns (3 + k) + 5003 * (k : Int)) 200 / 11)
  have g5 := vP h3 h1
  have g6 : ps.length < sizeLine := by unfold sizeLine; omega
  refine ⟨(y, x), .sh (.int (bW ns (3 + k) + 5003 * (k : Int))), hy, h1, h2, h3, ?_⟩
  unfold ng
  apply Eq.trans
  walk_at "ev"
theorem uD (ns : List Int) (p1 p2 p3 : Sl) : ∀ (ks : List D) (ps : List D) (cs : List Int) (b6 b7 b8 : Sl), (∀ d ∈ ks, ∃ k : Nat, k < 100 ∧ d = .int (k : Int)) → ps.length + ks.length ≤ 100 → 1 ≤ cs.length → cs.length ≤ 16 → ∃ (rs : List (Str × Str)) (x5 x6 x7 x8 : Sl),
    cZ cs rs ∧ (∀ r ∈ rs, r.1 ∈ gW) ∧ rs.length = ks.length ∧ bD (bg 6) ng ks [.sh (.scr ns), p1, p2, p3, .ow ps, .sh (.lst (iD cs)), b6, b7, b8] = .ok .nx [.sh (.scr ns), p1, p2, p3, .ow (ps ++ rs.map av), x5, x6, x7, x8]
  | [], ps, cs, b6, b7, b8, _, _, _, _ => ⟨[], _, b6, b7, b8, trivial, (fun _ z => nomatch z), rfl, by rw [List.map_nil, List.append_nil]; rfl⟩
  | d :: ks, ps, cs, b6, b7, b8, hk, hl, h0, hn => by
    obtain ⟨k, hk1, rfl⟩ := hk d List.mem_cons_self
    rw [List.length_cons] at hl
    obtain ⟨r, x7, hy, h1, h2, h3, e⟩ := Ac ns p1 p2 p3 b7 b8 ps cs k hk1 h0 hn (by omega)
    have hol := jd r.2.cps.toList cs
    have hrl : r.2.cps.toList.length = r.2.length := by simp [Str.length]
    obtain ⟨rs, y5, y6, y7, y8, q1, q2, q3, q4⟩ := uD ns p1 p2 p3 ks (ps ++ [av r]) (outs r.2.cps.toList cs) (.sh (.int k)) x7 (.sh (.str r.2)) (fun x hx => hk x (List.mem_cons_of_mem _ hx)) (by rw [List.length_append, List.length_singleton]; omega) (by omega) (by omega)
    refine ⟨r :: rs, y5, y6, y7, y8, ⟨h3, h2, h1, q1⟩, fun x hx => ?_, by rw [List.length_cons, List.length_cons, q3], ?_⟩
    · rcases List.mem_cons.mp hx with z | z
      · rw [z]; exact hy
      · exact q2 x z
    · refine cB rfl e ?_
      rw [q4, List.map_cons, List.append_assoc]
      rfl
structure wA (many : Int) (y : Str) (rs : List (Str × Str)) : Prop where
  m1 : 1 ≤ many
  m2 : many ≤ 16
  y : y ∈ gW
  ry : ∀ r ∈ rs, r.1 ∈ gW
  rows : cZ (List.replicate many.toNat 1) rs
  n : rs.length ≤ 12
theorem wV (n : Nat) (hn : n ≤ 100) : cf (bg 0) (.ret true) (fC (.int 1)) (bK 0 n) [.no] [] = some (iD (List.replicate n 1)) := by
  rw [comp_map (g := fun _ => .int 1) _ .no (by rw [iC]; unfold sizeLine; omega) ?_]
  · unfold bK iD
    rw [List.map_map, List.map_replicate]
    congr 1
    apply List.ext_getElem?
    intro i
    rw [List.getElem?_map, List.getElem?_replicate]
    by_cases h : i < n
    · rw [List.getElem?_range h, if_pos h]; rfl
    · rw [List.getElem?_eq_none (by simpa using h), if_neg h]; rfl
  · intro d hd; rfl
theorem wk (ns : List Int) (rows widest : Int) (h1 : 0 ≤ rows) (h2 : rows ≤ 12) (h3 : 1 ≤ widest) (h4 : widest ≤ 16) : ∃ many y rs, wA many y rs ∧ je [.scr ns, .int rows, .int widest] = .own (aL many y :: rs.map av) := by
  have g1 := iv ns 1 (by omega)
  have g2 := iv ns 2 (by omega)
  obtain ⟨y, g3, hy⟩ := qL (bW ns 2)
  have hm : 0 ≤ bW ns 1 % widest ∧ bW ns 1 % widest < widest := ⟨Int.emod_nonneg _ (by omega), Int.emod_lt_of_pos _ (by omega)⟩
  have g4 : bc (.int (bW ns 1)) (.int widest) = some (.val (.int (bW ns 1 % widest))) := eO (decide_eq_true (by omega))
  have g5 := wV (1 + bW ns 1 % widest).toNat (by omega)
  have g6 : gB (1 + bW ns 1 % widest) = true := jq (by omega) (by omega)
  have g7 : gB rows = true := jq (by omega) (by omega)
  obtain ⟨rs, x5, x6, x7, x8, q1, q2, q3, q4⟩ := uD ns (.sh (.int rows)) (.sh (.int widest)) (.sh (.int (1 + bW ns 1 % widest))) (bK 0 rows.toNat) [aL (1 + bW ns 1 % widest) y] (List.replicate (1 + bW ns 1 % widest).toNat 1) .no .no .no
    (fun d hd => by
      obtain ⟨k, hk, e⟩ := uz hd
      exact ⟨k, by omega, e⟩) (by rw [iC, List.length_singleton]; omega) (by rw [List.length_replicate]; omega) (by rw [List.length_replicate]; omega)
  rw [iC] at q3
  refine ⟨1 + bW ns 1 % widest, y, rs, ⟨by omega, by omega, hy, q2, q1, by omega⟩, ?_⟩
  unfold ng at q4
  unfold je rS
  apply cQ
  walk_at "ev"
end Lw
namespace Lw
open PySem L2 DL
noncomputable def fU (c : Nat) (m : Int) : Bool := if c = 116 then gt (m + 1) 4 else if c = 108 ∨ c = 114 then gt m 4 else false
noncomputable def fI : List Nat → List Int → Bool
  | [], _ => false
  | c :: w, cs => fU c (met c cs) || fI w (cs.drop (tkn c))
noncomputable def bZ (w : List Nat) (cs : List Int) : D := if w.length > 16 then .str "wide" else if (w.map tkn).sum ≠ cs.length then .str "fit" else if fI w cs = true then .str "many" else .non
theorem A7 {c : Nat} {cs : List Int} (hc : c ∈ codes) (hl : tkn c ≤ cs.length) (h : fU c (met c cs) = false) : fits c cs := by
  unfold fU at h
  refine ⟨hl, fun z => ?_, fun z => ?_⟩
  · rw [if_pos z] at h
    have := of_decide_eq_false h
    omega
  · rw [if_neg (by omega), if_pos z] at h
    have := of_decide_eq_false h
    omega
theorem qK : ∀ {w : List Nat} {cs : List Int}, (∀ c ∈ w, c ∈ codes) → (w.map tkn).sum = cs.length → fI w cs = false → bw w cs []
  | [], cs, _, h, _ => (show cs = [] from List.eq_nil_of_length_eq_zero (by simpa using h.symm))
  | c :: w, cs, hc, h, hm => by
    rw [List.map_cons, List.sum_cons] at h
    obtain ⟨h1, h2⟩ := Bool.or_eq_false_iff.mp (show (fU c (met c cs) || fI w (cs.drop (tkn c))) = false from hm)
    exact ⟨hc c List.mem_cons_self, A7 (hc c List.mem_cons_self) (by omega) h1, qK (fun d hd => hc d (List.mem_cons_of_mem _ hd)) (by rw [List.length_drop]; omega) h2⟩
theorem yS (c : Nat) (m : Int) : eU [.str (ch c), .int m] = .ok (.bl (fU c m)) := by
  have e1 : gEq (.str (ch c)) (.str (Str.ofString "t")) = some (.val (.bl (decide (c = 116)))) := by rw [jz]; exact dN c 116
  have e2 : gIn (.str (ch c)) (.tup [.str (Str.ofString "l"), .str (Str.ofString "r")]) = some (.val (.bl (decide (c = 108 ∨ c = 114)))) := by
    show some (DV.val (.bl (i5 (ch c) [Str.ofString "l", Str.ofString "r"]))) = _
    rw [o6, mY]
    congr 3
    show (decide (ch 108 = ch c) || (decide (ch 114 = ch c) || false)) = _
    have q : ∀ a b : Nat, decide (ch a = ch b) = decide (b = a) := fun a b => by
      by_cases h : b = a
      · subst h; simp
      · rw [decide_eq_false h, decide_eq_false]
        intro e
        exact h (by injection e with e; injection e with e; injection e with e; exact e.symm)
    rw [q, q]
    by_cases h : c = 108 <;> by_cases h' : c = 114 <;> simp [h, h']
  unfold fU
  by_cases ht : c = 116
  · have e3 : decide (c = 116) = true := decide_eq_true ht
    rw [if_pos ht]
    unfold eU kE
    walk_at "ev"
  · have e3 : decide (c = 116) = false := decide_eq_false ht
    rw [if_neg ht]
    unfold eU kE
    by_cases hl : c = 108 ∨ c = 114
    · have e4 : decide (c = 108 ∨ c = 114) = true := decide_eq_true hl
      rw [if_pos hl]
      walk_at "ev"
    · have e4 : decide (c = 108 ∨ c = 114) = false := decide_eq_false hl
      rw [if_neg hl]
      walk_at "ev"
theorem uo (p : Sl) (cs : List Int) : ∀ (w : List Nat) (a : Int) (b2 b3 b4 : Sl), 0 ≤ a → a.toNat + (w.map tkn).sum ≤ cs.length →
    (fI w (cs.drop a.toNat) = false → ∃ x2 x3 x4, bD (b9 [2, 3, 4]) eT (ez w a) [p, .sh (.lst (iD cs)), b2, b3, b4] = .ok .nx [p, .sh (.lst (iD cs)), x2, x3, x4]) ∧
    (fI w (cs.drop a.toNat) = true → ∃ δ, bD (b9 [2, 3, 4]) eT (ez w a) [p, .sh (.lst (iD cs)), b2, b3, b4] = .ok (.rt (.str "many")) δ)
  | [], a, b2, b3, b4, _, _ => ⟨fun _ => ⟨b2, b3, b4, rfl⟩, fun z => nomatch z⟩
  | c :: w, a, b2, b3, b4, ha, hl => by
    rw [List.map_cons, List.sum_cons] at hl
    have e0 : (a + (tkn c : Nat)).toNat = a.toNat + tkn c := by omega
    have ih := uo p cs w (a + (tkn c : Nat)) (.sh (.str (ch c))) (.sh (.int a)) (.sh (.int (a + (tkn c : Nat)))) (by omega) (by omega)
    have hdr : (cs.drop a.toNat).drop (tkn c) = cs.drop (a + (tkn c : Nat)).toNat := by rw [List.drop_drop, e0]
    have g1 := oF (cs := cs) (c := c) ha (by omega)
    have g2 := pJ (cs := cs) (a := a) (c := c)
    have g3 := yS c (met c (cs.drop a.toNat))
    have hm : fI (c :: w) (cs.drop a.toNat) = (fU c (met c (cs.drop a.toNat)) || fI w (cs.drop (a + (tkn c : Nat)).toNat)) := by
      show (fU c (met c (cs.drop a.toNat)) || fI w ((cs.drop a.toNat).drop (tkn c))) = _
      rw [hdr]
    rw [hm]
    cases hb : fU c (met c (cs.drop a.toNat)) with
    | true =>
      rw [hb] at g3
      refine ⟨fun z => by simp at z, fun _ => ?_⟩
      have step : eT [p, .sh (.lst (iD cs)), .sh (.str (ch c)), .sh (.int a), .sh (.int (a + (tkn c : Nat)))] = .ok (.rt (.str "many")) [p, .sh (.lst (iD cs)), .sh (.str (ch c)), .sh (.int a), .sh (.int (a + (tkn c : Nat)))] := by
        unfold eT
        walk_at "ev"
      exact ⟨_, rA (δ1 := [p, .sh (.lst (iD cs)), .sh (.str (ch c)), .sh (.int a), .sh (.int (a + (tkn c : Nat)))]) rfl step⟩
    | false =>
      rw [hb] at g3
      have step : eT [p, .sh (.lst (iD cs)), .sh (.str (ch c)), .sh (.int a), .sh (.int (a + (tkn c : Nat)))] = .ok .nx [p, .sh (.lst (iD cs)), .sh (.str (ch c)), .sh (.int a), .sh (.int (a + (tkn c : Nat)))] := by
        unfold eT
        walk_at "ev"
      refine ⟨fun z => ?_, fun z => ?_⟩
      · obtain ⟨x2, x3, x4, e⟩ := ih.1 (by simpa using z)
        exact ⟨x2, x3, x4, cB (δ1 := [p, .sh (.lst (iD cs)), .sh (.str (ch c)), .sh (.int a), .sh (.int (a + (tkn c : Nat)))]) rfl step e⟩
      · obtain ⟨δ, e⟩ := ih.2 (by simpa using z)
        exact ⟨δ, cB (δ1 := [p, .sh (.lst (iD cs)), .sh (.str (ch c)), .sh (.int a), .sh (.int (a + (tkn c : Nat)))]) rfl step e⟩
theorem AL {a b : Nat} (h : a ≠ b) : gNe (.int (a : Int)) (.int (b : Int)) = some (.val (.bl true)) := by
  have : gNe (.int (a : Int)) (.int (b : Int)) = some (.val (.bl (!decide ((a : Int) = (b : Int))))) := gr rfl
  rw [this, decide_eq_false (by omega)]; rfl
theorem sC {x : Str} {cs : List Int} (hc : ∀ c ∈ x.cps.toList, c ∈ codes) (hx : x.length ≤ 100) (hl : cs.length ≤ 100) : d7 [.str x, .lst (iD cs)] = .ok (bZ x.cps.toList cs) := by
  have hxl : x.cps.toList.length = x.length := by simp [Str.length]
  have g1 : bq [.str x] = some (.val (.int x.length)) := iE (by unfold sizeLine; omega)
  have g3 := rD hc hx
  have g4 := dz cs
  have g6 := jR hc hx
  unfold bZ
  rw [hxl]
  by_cases hw : x.length > 16
  · have g2 : aX gt (.int x.length) (.int 16) = some (.val (.bl true)) := by
      show some (DV.val (.bl (gt _ _))) = _
      rw [show gt (x.length : Int) 16 = true from decide_eq_true (by omega)]
    rw [if_pos hw]
    unfold d7 jT
    walk_at "ev"
  · have g2 : aX gt (.int x.length) (.int 16) = some (.val (.bl false)) := by
      show some (DV.val (.bl (gt _ _))) = _
      rw [show gt (x.length : Int) 16 = false from decide_eq_false (by omega)]
    rw [if_neg hw]
    by_cases hf : (x.cps.toList.map tkn).sum ≠ cs.length
    · have g5 := AL hf
      rw [if_pos hf]
      unfold d7 jT
      walk_at "ev"
    · have hf : (x.cps.toList.map tkn).sum = cs.length := by omega
      rw [if_neg (by omega)]
      rw [hf] at g3
      have g5 : gNe (.int (cs.length : Int)) (.int (cs.length : Int)) = some (.val (.bl false)) := gr (lV 8 _ rfl)
      have ih := uo (.sh (.str x)) cs x.cps.toList 0 .no .no .no (by omega) (by simp; omega)
      have ed : cs.drop (0 : Int).toNat = cs := rfl
      rw [ed] at ih
      cases hm : fI x.cps.toList cs with
      | true =>
        obtain ⟨δ, e⟩ := ih.2 hm
        rw [if_pos rfl]
        unfold eT at e
        unfold d7 jT
        walk_at "ev"
      | false =>
        obtain ⟨x2, x3, x4, e⟩ := ih.1 hm
        rw [if_neg (by simp)]
        unfold eT at e
        unfold d7 jT
        walk_at "ev"
theorem kQ {w : List Nat} {cs : List Int} (hc : ∀ c ∈ w, c ∈ codes) (h : bZ w cs = .non) : bw w cs [] ∧ w.length ≤ 16 := by
  unfold bZ at h
  split at h
  · cases h
  · split at h
    · cases h
    · split at h
      · cases h
      · rename_i h1 h2 h3
        exact ⟨qK hc (by omega) (by simpa using h3), by omega⟩
theorem nY (w : List Nat) (cs : List Int) : bZ w cs = .non ∨ ∃ z, bZ w cs = .str z ∧ z ≠ Str.ofString "good" := by
  unfold bZ
  split
  · exact .inr ⟨_, rfl, by decide +kernel⟩
  · split
    · exact .inr ⟨_, rfl, by decide +kernel⟩
    · split
      · exact .inr ⟨_, rfl, by decide +kernel⟩
      · exact .inl rfl
end Lw
namespace Lw
open PySem L2 DL
noncomputable def gG : Int → List Int → List Int → List (Str × Str) → D
  | _, _, ws, [] => .tup [.str "good", .lst (iD ws)]
  | n, cs, ws, r :: rs => match bZ r.2.cps.toList cs with
    | .non => gG (n + 1) (outs r.2.cps.toList cs) (ws ++ [(r.2.length : Int)]) rs
    | f => .tup [f, .int n]
noncomputable def eC (r : Str × Str) : Prop := (∀ c ∈ r.2.cps.toList, c ∈ codes) ∧ r.2.length ≤ 100
theorem uM (p : Sl) : ∀ (rs : List (Str × Str)) (lo : Int) (cs ws : List Int) (b3 b4 b5 b6 : Sl), (∀ r ∈ rs, eC r) → cs.length ≤ 100 → ws.length + rs.length ≤ 1000 →
    (∃ us x1 x3 x4 x5 x6, gG lo cs ws rs = .tup [.str "good", .lst (iD us)] ∧ bD (b9 [3, 4]) eN (cW lo (rs.map av)) [p, .sh (.lst (iD cs)), .ow (iD ws), b3, b4, b5, b6] = .ok .nx [p, x1, .ow (iD us), x3, x4, x5, x6]) ∨
    (∃ δ, bD (b9 [3, 4]) eN (cW lo (rs.map av)) [p, .sh (.lst (iD cs)), .ow (iD ws), b3, b4, b5, b6] = .ok (.rt (gG lo cs ws rs)) δ)
  | [], lo, cs, ws, b3, b4, b5, b6, _, _, _ => .inl ⟨ws, _, b3, b4, b5, b6, rfl, rfl⟩
  | r :: rs, lo, cs, ws, b3, b4, b5, b6, hr, hl, hz => by
    obtain ⟨hc, hx⟩ := hr r List.mem_cons_self
    rw [List.length_cons] at hz
    have g1 := sC hc hx hl
    rcases nY r.2.cps.toList cs with hf | ⟨z, hf, hz'⟩
    · obtain ⟨h1, h2⟩ := kQ hc hf
      have hrl : r.2.cps.toList.length = r.2.length := by simp [Str.length]
      have hol := jd r.2.cps.toList cs
      have e0 : gG lo cs ws (r :: rs) = gG (lo + 1) (outs r.2.cps.toList cs) (ws ++ [(r.2.length : Int)]) rs := by
        show (match bZ r.2.cps.toList cs with | .non => _ | f => _) = _
        rw [hf]
      rw [e0]
      rw [hf] at g1
      have step : eN [p, .sh (.lst (iD cs)), .ow (iD ws), .sh (.int lo), .sh (av r), b5, b6] = .ok .nx [p, .sh (.lst (iD (outs r.2.cps.toList cs))), .ow (iD (ws ++ [(r.2.length : Int)])), .sh (.int lo), .sh (av r), .sh (.str r.2), .sh .non] := by
        have g2 := qB (by omega) h1
        have g3 : bq [.lst (iD (outs r.2.cps.toList cs))] = some (.val (.int (r.2.length : Int))) := by rw [dz, hol, hrl]
        have g4 : (iD ws).length < sizeLine := by rw [eJ]; unfold sizeLine; omega
        have g5 : iD (ws ++ [(r.2.length : Int)]) = iD ws ++ [.int (r.2.length : Int)] := by unfold iD; rw [List.map_append]; rfl
        rw [g5]
        unfold eN
        apply Eq.trans
        walk_at "ev"
      rcases uM p rs (lo + 1) (outs r.2.cps.toList cs) (ws ++ [(r.2.length : Int)]) (.sh (.int lo)) (.sh (av r)) (.sh (.str r.2)) (.sh .non) (fun q hq => hr q (List.mem_cons_of_mem _ hq)) (by omega) (by rw [List.length_append, List.length_singleton]; omega) with ⟨us, x1, x3, x4, x5, x6, e1, e2⟩ | ⟨δ, e2⟩
      · exact .inl ⟨us, x1, x3, x4, x5, x6, e1, cB (δ1 := [p, .sh (.lst (iD cs)), .ow (iD ws), .sh (.int lo), .sh (av r), b5, b6]) rfl step e2⟩
      · exact .inr ⟨δ, cB (δ1 := [p, .sh (.lst (iD cs)), .ow (iD ws), .sh (.int lo), .sh (av r), b5, b6]) rfl step e2⟩
    · have e0 : gG lo cs ws (r :: rs) = .tup [.str z, .int lo] := by
        show (match bZ r.2.cps.toList cs with | .non => _ | f => _) = _
        rw [hf]
      rw [e0]
      rw [hf] at g1
      have step : eN [p, .sh (.lst (iD cs)), .ow (iD ws), .sh (.int lo), .sh (av r), b5, b6] = .ok (.rt (.tup [.str z, .int lo])) [p, .sh (.lst (iD cs)), .ow (iD ws), .sh (.int lo), .sh (av r), .sh (.str r.2), .sh (.str z)] := by
        have g5 : kU (.str z) .non = some (.val (.bl true)) := rfl
        unfold eN
        walk_at "ev"
      exact .inr ⟨_, rA (δ1 := [p, .sh (.lst (iD cs)), .ow (iD ws), .sh (.int lo), .sh (av r), b5, b6]) rfl step⟩
theorem ym {d : D} {ds : List D} : dP (.lst (d :: ds)) (some 1) none = some (.own ds) := by
  rw [hX]
  unfold cutD
  have a1 : HT.sIx (d :: ds).length 0 (some 1) = 1 := by
    have := HT.gb (d :: ds).length 0 1
    rw [List.length_cons] at this ⊢
    exact this.trans (by omega)
  rw [a1, HT.kR]
  show some (DV.own (List.take _ ds)) = _
  rw [List.take_of_length_le (by rw [List.length_cons]; omega)]
theorem ones_mul {many : Int} (h1 : 1 ≤ many) (h2 : many ≤ 16) : aQ (.lst [.int 1]) (.int many) = some (.own (iD (List.replicate many.toNat 1))) := by
  show (if dG 1 many then _ else _) = _
  rw [show dG 1 many = true by
    unfold dG
    rw [decide_eq_true (show -(2 ^ 62 : Int) ≤ many by omega), decide_eq_true (show many < 2 ^ 62 by omega), decide_eq_true (show 1 * many.toNat ≤ sizeLine by unfold sizeLine; omega)]; rfl]
  rw [if_pos rfl, uE]
noncomputable def lY (many : Int) (rs : List (Str × Str)) : D := gG 1 (List.replicate many.toNat 1) [many] rs
theorem yw {many : Int} {y : Str} {rs : List (Str × Str)} (h1 : 1 ≤ many) (h2 : many ≤ 16) (hr : ∀ r ∈ rs, eC r) (hn : rs.length ≤ 20) : fQ [.lst (aL many y :: rs.map av)] = .ok (lY many rs) := by
  have g0 : gIx (.lst (aL many y :: rs.map av)) (.int 0) = some (.val (aL many y)) := iz
  have g1 := ones_mul h1 h2
  have g2 : bq [.lst (iD (List.replicate many.toNat 1))] = some (.val (.int many)) := by
    rw [dz, List.length_replicate, Int.toNat_of_nonneg (by omega)]
  have g3 : dP (.lst (aL many y :: rs.map av)) (some 1) none = some (.own (rs.map av)) := ym
  have g4 : ot (.lst (rs.map av)) = some (cW 1 (rs.map av)) := rfl
  rcases uM (.sh (.lst (aL many y :: rs.map av))) rs 1 (List.replicate many.toNat 1) [many] .no .no .no .no hr (by rw [List.length_replicate]; omega) (by rw [List.length_singleton]; omega) with ⟨us, x1, x3, x4, x5, x6, e1, e⟩ | ⟨δ, e⟩
  · unfold lY
    rw [e1]
    unfold eN at e
    unfold fQ my
    walk_at "ev"
  · unfold eN at e
    unfold lY fQ my
    walk_at "ev"
end Lw
namespace Lw
open PySem L2 DL
noncomputable abbrev Lp := Str × Str × List Int
noncomputable def lpD (l : Lp) : D := .tup [.str l.1, .str l.2.1, .tup (iD l.2.2)]
noncomputable def clD (cl : List Lp) : List D := cl.map lpD
noncomputable def lvD (lv : List (List Int)) : List D := lv.map fun l => .lst (iD l)
theorem tD (cl : List Lp) : (clD cl).length = cl.length := List.length_map _
theorem og (lv : List (List Int)) : (lvD lv).length = lv.length := List.length_map _
noncomputable def da (c : Nat) (ps : List (List Int)) : List Int := if c = 114 then ps.reverse.flatten else ps.flatten
noncomputable def cP : List Nat → List (List Int) → List (Nat × List Int)
  | [], _ => []
  | c :: w, lv => (c, da c (lv.take (tkn c))) :: cP w (lv.drop (tkn c))
noncomputable def fM (c : Nat) (ls : List Int) (n : Int) : List Int := if c = 115 then ls else if c = 116 ∨ c = 111 then ls ++ [n] else [n]
noncomputable def gw (y : Str) (c : Nat) (ls : List Int) : List Lp := if c = 115 then [] else if c = 116 ∨ c = 111 then [(y, Str.ofString "t", [])] else [(y, if c = 112 then Str.ofString "p" else Str.ofString "k", ls)]
noncomputable def eD (y : Str) : List (Nat × List Int) → List Lp → List (List Int) × List Lp
  | [], cl => ([], cl)
  | u :: r, cl => (fM u.1 u.2 (cl.length : Int) :: (eD y r (cl ++ gw y u.1 u.2)).1, (eD y r (cl ++ gw y u.1 u.2)).2)
noncomputable def dC (y : Str) (right : Bool) (us : List (Nat × List Int)) (cl : List Lp) : List (List Int) × List Lp := if right then ((eD y us.reverse cl).1.reverse, (eD y us.reverse cl).2) else eD y us cl
theorem sL (y : Str) (c : Nat) (ls : List Int) : (gw y c ls).length ≤ 1 := by
  unfold gw; split
  · simp
  · split <;> simp
theorem nL (y : Str) : ∀ (us : List (Nat × List Int)) (cl : List Lp), (eD y us cl).2.length ≤ cl.length + us.length
  | [], cl => by show cl.length ≤ _; simp
  | u :: r, cl => by
    show (eD y r _).2.length ≤ _
    have := nL y r (cl ++ gw y u.1 u.2)
    have := sL y u.1 u.2
    rw [List.length_append] at *
    rw [List.length_cons]
    omega
theorem xC (y : Str) (b : Bool) (us : List (Nat × List Int)) (cl : List Lp) : (dC y b us cl).2.length ≤ cl.length + us.length := by
  unfold dC
  split
  · have := nL y us.reverse cl
    rw [List.length_reverse] at this
    exact this
  · exact nL y us cl
theorem uw : ∀ (w : List Nat) (lv : List (List Int)), (cP w lv).length = w.length
  | [], _ => rfl
  | c :: w, lv => by show (cP w _).length + 1 = w.length + 1; rw [uw w]
noncomputable def bG (lv : List (List Int)) : List Int := lv.map fun l => (l.length : Int)
theorem v3 (lv : List (List Int)) : (bG lv).length = lv.length := List.length_map _
theorem qT (lv : List (List Int)) (n : Nat) : bG (lv.take n) = (bG lv).take n := by unfold bG; rw [List.map_take]
theorem pe (lv : List (List Int)) (n : Nat) : bG (lv.drop n) = (bG lv).drop n := by unfold bG; rw [List.map_drop]
theorem g9 : ∀ ps : List (List Int), ((ps.flatten.length : Nat) : Int) = (bG ps).sum
  | [] => rfl
  | p :: ps => by
    show (((p ++ ps.flatten).length : Nat) : Int) = (p.length : Int) + (bG ps).sum
    rw [List.length_append, ← g9 ps]; omega
theorem zH (c : Nat) (lv : List (List Int)) : (((da c (lv.take (tkn c))).length : Nat) : Int) = met c (bG lv) := by
  unfold da met
  rw [← qT]
  split
  · rw [g9]
    unfold bG
    rw [List.map_reverse]
    exact List.sum_reverse _
  · exact g9 _
noncomputable def gj (u : Nat × List Int) : Int := if u.1 = 115 then u.2.length else if u.1 = 116 ∨ u.1 = 111 then u.2.length + 1 else 1
theorem oJ (y : Str) : ∀ (us : List (Nat × List Int)) (cl : List Lp), bG (eD y us cl).1 = us.map gj
  | [], _ => rfl
  | u :: r, cl => by
    show ((fM u.1 u.2 _).length : Int) :: bG (eD y r _).1 = gj u :: r.map gj
    rw [oJ y r]
    congr 1
    unfold fM gj
    split
    · rfl
    · split
      · rw [List.length_append, List.length_singleton]; rfl
      · rfl
theorem zF (y : Str) (b : Bool) (us : List (Nat × List Int)) (cl : List Lp) : bG (dC y b us cl).1 = us.map gj := by
  unfold dC
  split
  · show bG (eD y us.reverse cl).1.reverse = _
    have := oJ y us.reverse cl
    unfold bG at this ⊢
    rw [List.map_reverse, this, List.map_reverse, List.reverse_reverse]
  · exact oJ y us cl
theorem vI : ∀ (w : List Nat) (lv : List (List Int)), (cP w lv).map gj = outs w (bG lv)
  | [], _ => rfl
  | c :: w, lv => by
    show gj (c, da c (lv.take (tkn c))) :: (cP w (lv.drop (tkn c))).map gj = cj c (bG lv) :: outs w ((bG lv).drop (tkn c))
    rw [vI w, pe]
    congr 1
    have h := zH c lv
    unfold gj cj
    dsimp only
    by_cases h1 : c = 115
    · rw [if_pos h1, if_pos h1]; exact h
    · rw [if_neg h1, if_neg h1]
      by_cases h2 : c = 116
      · rw [if_pos (.inl h2), if_pos h2, h]
      · rw [if_neg h2]
        by_cases h3 : c = 111
        · have h4 : tkn c = 0 := by rw [h3]; rfl
          have h5 : met c (bG lv) = 0 := by unfold met; rw [h4]; rfl
          rw [if_pos (.inr h3), h, h5]; rfl
        · rw [if_neg (fun z => z.elim h2 h3)]
theorem yl (y : Str) (b : Bool) (w : List Nat) (lv : List (List Int)) (cl : List Lp) : bG (dC y b (cP w lv) cl).1 = outs w (bG lv) := by rw [zF, vI]
noncomputable def iR : Bool → List (List Int) → List Lp → List (Str × Str) → List Lp × List (List Int)
  | _, lv, cl, [] => (cl, lv)
  | b, lv, cl, r :: rs => iR (!b) (dC r.1 b (cP r.2.cps.toList lv) cl).1 (dC r.1 b (cP r.2.cps.toList lv) cl).2 rs
theorem Dt {c : Nat} {cs : List Int} (hk : okC cs) (hf : fits c cs) : 0 ≤ met c cs ∧ met c cs ≤ 4 := by
  by_cases h2 : c = 108 ∨ c = 114
  · refine ⟨?_, hf.2.2 h2⟩
    have hs : ∀ l : List Int, okC l → 0 ≤ l.sum := by
      intro l
      induction l with
      | nil => intro _; decide
      | cons a l ih =>
        intro h
        have h1 := h a List.mem_cons_self
        have h2 := ih fun x hx => h x (List.mem_cons_of_mem _ hx)
        rw [List.sum_cons]; omega
    exact hs _ fun x hx => hk x (List.mem_of_mem_take hx)
  · by_cases h3 : c = 111
    · have h4 : tkn c = 0 := by rw [h3]; rfl
      have h5 : met c cs = 0 := by unfold met; rw [h4]; rfl
      omega
    · have ht : tkn c = 1 := by unfold tkn; rw [if_neg h3, if_neg h2]
      have h1 := hf.1
      rw [ht] at h1
      cases cs with
      | nil => simp at h1
      | cons a r =>
        unfold met
        rw [ht]
        have := hk a List.mem_cons_self
        show 0 ≤ [a].sum ∧ [a].sum ≤ 4
        simp; omega
end Lw
namespace Lw
open PySem L2 DL
theorem tT (a b : List Int) : iD (a ++ b) = iD a ++ iD b := List.map_append
theorem pS (a b : List Lp) : clD (a ++ b) = clD a ++ clD b := List.map_append
theorem yn (a b : List (List Int)) : lvD (a ++ b) = lvD a ++ lvD b := List.map_append
theorem sD (a : List (List Int)) : (lvD a).reverse = lvD a.reverse := by unfold lvD; rw [List.map_reverse]
theorem join_loop (p0 p1 p2 : Sl) : ∀ (ps : List (List Int)) (acc : List Int) (b4 : Sl), acc.length + ps.flatten.length ≤ 1000 → ∃ x4, bD (bg 4) (bS 3 (ae 4)) (lvD ps) [p0, p1, p2, .ow (iD acc), b4] = .ok .nx [p0, p1, p2, .ow (iD (acc ++ ps.flatten)), x4]
  | [], acc, b4, _ => ⟨b4, by show Rs.ok Fl.nx _ = Rs.ok Fl.nx [p0, p1, p2, .ow (iD (acc ++ [])), b4]; rw [List.append_nil]⟩
  | p :: ps, acc, b4, h => by
    rw [List.flatten_cons, List.length_append] at h
    obtain ⟨x4, e⟩ := join_loop p0 p1 p2 ps (acc ++ p) (.sh (.lst (iD p))) (by rw [List.length_append]; omega)
    refine ⟨x4, cB (δ1 := [p0, p1, p2, .ow (iD acc), .sh (.lst (iD p))]) rfl (δ2 := [p0, p1, p2, .ow (iD (acc ++ p)), .sh (.lst (iD p))]) ?_ ?_⟩
    · have g : (iD acc).length + (iD p).length ≤ sizeLine := by rw [eJ, eJ]; unfold sizeLine; omega
      rw [tT]
      exact fh rfl (aq rfl) rfl rfl g
    · show bD (bg 4) (bS 3 (ae 4)) (lvD ps) _ = _
      rw [e, List.flatten_cons, List.append_assoc]
theorem xr (ps : List (List Int)) (b : Bool) (h : ps.flatten.length ≤ 100) : iM [.lst (lvD ps), .bl b] = .own (iD (if b then ps.reverse.flatten else ps.flatten)) := by
  have g0 : d4 [.lst (lvD ps)] = some (.own (lvD ps)) := rfl
  unfold iM vx
  cases b with
  | false =>
    obtain ⟨x4, e⟩ := join_loop (.sh (.lst (lvD ps))) (.sh (.bl false)) (.sh (.lst (lvD ps))) ps [] .no (by rw [List.length_nil]; omega)
    rw [List.nil_append] at e
    have g1 : cD (.lst (lvD ps)) = some (lvD ps) := rfl
    apply cQ
    walk_at "ev"
  | true =>
    have hl : ps.reverse.flatten.length = ps.flatten.length := by
      have : ((ps.reverse.flatten.length : Nat) : Int) = ((ps.flatten.length : Nat) : Int) := by
        rw [g9, g9]
        unfold bG
        rw [List.map_reverse]
        exact List.sum_reverse _
      omega
    obtain ⟨x4, e⟩ := join_loop (.sh (.lst (lvD ps))) (.sh (.bl true)) (.sh (.lst (lvD ps.reverse))) ps.reverse [] .no (by rw [hl, List.length_nil]; omega)
    rw [List.nil_append] at e
    have g1 : cD (.lst (lvD ps.reverse)) = some (lvD ps.reverse) := rfl
    have s1 : (fIf (au (ae 1)) (eQ 2) aO) [.sh (.lst (lvD ps)), .sh (.bl true), .ow (lvD ps), .no, .no] = .ok .nx [.sh (.lst (lvD ps)), .sh (.bl true), .ow (lvD ps.reverse), .no, .no] := by
      rw [← sD]
      apply Eq.trans
      walk_at "ev"
    apply cQ
    apply aG
    · walk_at "ev"
    apply aJ
    apply aG
    · exact s1
    apply aJ
    walk_at "ev"
noncomputable def Gives (r : Rn) (l : List Int) (ms : List D) : Prop := r = .ok (.lst (iD l)) [ms] ∨ r = .own (iD l) [ms]
theorem p9 (c : Nat) : gIn (.str (ch c)) (.tup [.str (Str.ofString "t"), .str (Str.ofString "o")]) = some (.val (.bl (decide (c = 116 ∨ c = 111)))) := by
  show some (DV.val (.bl (i5 (ch c) [Str.ofString "t", Str.ofString "o"]))) = _
  rw [jz, gK]
  congr 3
  show (decide (ch 116 = ch c) || (decide (ch 111 = ch c) || false)) = _
  have q : ∀ a b : Nat, decide (ch a = ch b) = decide (b = a) := fun a b => by
    by_cases h : b = a
    · subst h; simp
    · rw [decide_eq_false h, decide_eq_false]
      intro e
      exact h (by injection e with e; injection e with e; injection e with e; exact e.symm)
  rw [q, q]
  by_cases h : c = 116 <;> by_cases h' : c = 111 <;> simp [h, h']
theorem BM (c : Nat) (y : Str) (ps : List (List Int)) (cl : List Lp) (h : ps.flatten.length ≤ 100) (hc : cl.length ≤ 1000) : Gives (i6 [.str (ch c), .str y, .lst (lvD ps), .non] [clD cl]) (fM c (da c ps) (cl.length : Int)) (clD (cl ++ gw y c (da c ps))) := by
  have hl : (da c ps).length ≤ 100 := by
    unfold da
    split
    · have : ((ps.reverse.flatten.length : Nat) : Int) = ((ps.flatten.length : Nat) : Int) := by
        rw [g9, g9]
        unfold bG
        rw [List.map_reverse]
        exact List.sum_reverse _
      omega
    · exact h
  have e1 : gEq (.str (ch c)) (.str (Str.ofString "r")) = some (.val (.bl (decide (c = 114)))) := by rw [mY]; exact dN c 114
  have e2 : gEq (.str (ch c)) (.str (Str.ofString "s")) = some (.val (.bl (decide (c = 115)))) := by rw [i9]; exact dN c 115
  have e3 : gEq (.str (ch c)) (.str (Str.ofString "p")) = some (.val (.bl (decide (c = 112)))) := by rw [lD]; exact dN c 112
  have e4 := p9 c
  have g1 := xr ps (decide (c = 114)) h
  have eu : (if decide (c = 114) = true then ps.reverse.flatten else ps.flatten) = da c ps := by
    unfold da
    by_cases h : c = 114 <;> simp [h]
  rw [eu] at g1
  have g2 : bq [.lst (clD cl)] = some (.val (.int (cl.length : Int))) := by
    show some (DV.val (.int _)) = _
    rw [tD]
  have g3 : (clD cl).length < sizeLine := by rw [tD]; unfold sizeLine; omega
  have g4 : (iD (da c ps)).length + ([D.int (cl.length : Int)] : List D).length ≤ sizeLine := by rw [eJ]; show _ + 1 ≤ _; unfold sizeLine; omega
  have g5 : mD [.lst (iD (da c ps))] = some (.val (.tup (iD (da c ps)))) := rfl
  have s1 : (aF 4 (aD 2 (af (ae 2) (af (ag (ae 0) (fC (.str "r")) gEq) ai)) iM)) [.sh (.str (ch c)), .sh (.str y), .sh (.lst (lvD ps)), .ow (clD cl), .no, .no, .no] = .ok .nx [.sh (.str (ch c)), .sh (.str y), .sh (.lst (lvD ps)), .ow (clD cl), .sh (.lst (iD (da c ps))), .no, .no] := by
    apply Eq.trans
    walk_at "ev"
  unfold fM gw Gives i6 rh
  by_cases h1 : c = 115
  · have d1 : decide (c = 115) = true := decide_eq_true h1
    rw [if_pos h1, if_pos h1, List.append_nil]
    left
    apply BC
    · apply aG
      · exact s1
      apply aJ
      walk_at "ev"
    · rfl
  · have d1 : decide (c = 115) = false := decide_eq_false h1
    rw [if_neg h1, if_neg h1]
    right
    by_cases h2 : c = 116 ∨ c = 111
    · have d2 : decide (c = 116 ∨ c = 111) = true := decide_eq_true h2
      rw [if_pos h2, if_pos h2, tT, pS]
      apply kM
      · apply aG
        · exact s1
        apply aJ
        walk_at "ev"
      · rfl
    · have d2 : decide (c = 116 ∨ c = 111) = false := decide_eq_false h2
      rw [if_neg h2, if_neg h2, pS]
      by_cases h3 : c = 112
      · have d3 : decide (c = 112) = true := decide_eq_true h3
        rw [if_pos h3]
        apply kM
        · apply aG
          · exact s1
          apply aJ
          walk_at "ev"
        · rfl
      · have d3 : decide (c = 112) = false := decide_eq_false h3
        rw [if_neg h3]
        apply kM
        · apply aG
          · exact s1
          apply aJ
          walk_at "ev"
        · rfl
end Lw
namespace Lw
open PySem L2 DL
noncomputable def stT : List Nat → Nat → List (Nat × Nat)
  | [], _ => []
  | c :: w, a => (c, a) :: stT w (a + tkn c)
noncomputable def stD (u : Nat × Nat) : D := .tup [.str (ch u.1), .int (u.2 : Int), .int ((u.2 : Int) + (tkn u.1 : Nat))]
theorem tQ : ∀ (w : List Nat) (a : Nat), ez w (a : Int) = (stT w a).map stD
  | [], _ => rfl
  | c :: w, a => by
    show stD (c, a) :: ez w ((a : Int) + (tkn c : Nat)) = stD (c, a) :: (stT w (a + tkn c)).map stD
    have : (a : Int) + (tkn c : Nat) = ((a + tkn c : Nat) : Int) := by omega
    rw [this, tQ w]
noncomputable def dH (lv : List (List Int)) (u : Nat × Nat) : Nat × List Int := (u.1, da u.1 ((lv.drop u.2).take (tkn u.1)))
theorem ri (lv : List (List Int)) : ∀ (w : List Nat) (a : Nat), (stT w a).map (dH lv) = cP w (lv.drop a)
  | [], _ => rfl
  | c :: w, a => by
    show dH lv (c, a) :: (stT w (a + tkn c)).map (dH lv) = (c, da c ((lv.drop a).take (tkn c))) :: cP w ((lv.drop a).drop (tkn c))
    rw [ri lv w, List.drop_drop]
    rfl
theorem yR {lv : List (List Int)} {a n : Nat} (h : a + n ≤ lv.length) : dP (.lst (lvD lv)) (some (a : Int)) (some ((a : Int) + (n : Nat))) = some (.own (lvD ((lv.drop a).take n))) := by
  rw [hX]
  have e1 : HT.sIx (lvD lv).length 0 (some (a : Int)) = a := by
    rw [HT.gb, og]; omega
  have e2 : HT.sIx (lvD lv).length (lvD lv).length (some ((a : Int) + (n : Nat))) = a + n := by
    have q : (a : Int) + (n : Nat) = ((a + n : Nat) : Int) := by omega
    rw [q, HT.gb, og]; omega
  unfold cutD
  rw [e1, e2, Nat.add_sub_cancel_left]
  unfold lvD
  rw [← List.map_drop, ← List.map_take]
noncomputable def nE : DM Fl := (bE 5 (gD 4 [3] (af (ae 6) (af (ag (ae 0) (fC (.int 1)) gIx) (af (cO (ae 2) (bT (ae 7)) (bT (ae 8))) (af (ae 3) ai)))) i6))
theorem ov (r : Str × Str) (p1 p4 : Sl) (lv : List (List Int)) : ∀ (us : List (Nat × Nat)) (cl : List Lp) (bh : List (List Int)) (b6 b7 b8 : Sl), (∀ u ∈ us, u.2 + tkn u.1 ≤ lv.length ∧ ((lv.drop u.2).take (tkn u.1)).flatten.length ≤ 100) → cl.length + us.length ≤ 1000 → bh.length + us.length ≤ 1000 → ∃ x6 x7 x8,
    bD (b9 [6, 7, 8]) nE (us.map stD) [.sh (av r), p1, .sh (.lst (lvD lv)), .ow (clD cl), p4, .ow (lvD bh), b6, b7, b8] = .ok .nx [.sh (av r), p1, .sh (.lst (lvD lv)), .ow (clD (eD r.1 (us.map (dH lv)) cl).2), p4, .ow (lvD (bh ++ (eD r.1 (us.map (dH lv)) cl).1)), x6, x7, x8]
  | [], cl, bh, b6, b7, b8, _, _, _ => ⟨b6, b7, b8, by show Rs.ok Fl.nx _ = Rs.ok Fl.nx [_, p1, _, _, p4, .ow (lvD (bh ++ [])), b6, b7, b8]; rw [List.append_nil]; rfl⟩
  | u :: us, cl, bh, b6, b7, b8, h, h1, h2 => by
    rw [List.length_cons] at h1 h2
    obtain ⟨hu1, hu2⟩ := h u List.mem_cons_self
    have ha := sL r.1 u.1 (dH lv u).2
    obtain ⟨x6, x7, x8, e⟩ := ov r p1 p4 lv us (cl ++ gw r.1 u.1 (dH lv u).2) (bh ++ [fM u.1 (dH lv u).2 (cl.length : Int)]) (.sh (.str (ch u.1))) (.sh (.int (u.2 : Int))) (.sh (.int ((u.2 : Int) + (tkn u.1 : Nat)))) (fun v hv => h v (List.mem_cons_of_mem _ hv)) (by rw [List.length_append]; omega) (by rw [List.length_append, List.length_singleton]; omega)
    refine ⟨x6, x7, x8, ?_⟩
    rw [List.map_cons]
    refine cB (δ1 := [.sh (av r), p1, .sh (.lst (lvD lv)), .ow (clD cl), p4, .ow (lvD bh), .sh (.str (ch u.1)), .sh (.int (u.2 : Int)), .sh (.int ((u.2 : Int) + (tkn u.1 : Nat)))]) rfl
      (δ2 := [.sh (av r), p1, .sh (.lst (lvD lv)), .ow (clD (cl ++ gw r.1 u.1 (dH lv u).2)), p4, .ow (lvD (bh ++ [fM u.1 (dH lv u).2 (cl.length : Int)])), .sh (.str (ch u.1)), .sh (.int (u.2 : Int)), .sh (.int ((u.2 : Int) + (tkn u.1 : Nat)))]) ?_ ?_
    · have g1 := yR hu1
      have g2 := BM u.1 r.1 ((lv.drop u.2).take (tkn u.1)) cl hu2 (by omega)
      have g3 : (lvD bh).length < sizeLine := by rw [og]; unfold sizeLine; omega
      have g4 : lvD (bh ++ [fM u.1 (dH lv u).2 (cl.length : Int)]) = lvD bh ++ [.lst (iD (fM u.1 (dH lv u).2 (cl.length : Int)))] := yn _ _
      rw [g4]
      have g5 : gIx (av r) (.int 1) = some (.val (.str r.1)) := rfl
      have ha : (af (ae 6) (af (ag (ae 0) (fC (.int 1)) gIx) (af (cO (ae 2) (bT (ae 7)) (bT (ae 8))) (af (ae 3) ai)))) [.sh (av r), p1, .sh (.lst (lvD lv)), .ow (clD cl), p4, .ow (lvD bh), .sh (.str (ch u.1)), .sh (.int (u.2 : Int)), .sh (.int ((u.2 : Int) + (tkn u.1 : Nat)))] =
          .ok [.val (.str (ch u.1)), .val (.str r.1), .val (.lst (lvD ((lv.drop u.2).take (tkn u.1)))), .slot 3] [.sh (av r), p1, .sh (.lst (lvD lv)), .ow (clD cl), p4, .ow (lvD bh), .sh (.str (ch u.1)), .sh (.int (u.2 : Int)), .sh (.int ((u.2 : Int) + (tkn u.1 : Nat)))] := by
        apply Eq.trans
        walk_at "ev"
      unfold nE
      rcases g2 with g2 | g2
      · exact gI (i := 5) (es := lvD bh) (ds := lvD bh) rfl (mZ (is := [3]) (js := [3]) (mss := [clD cl]) (ds := [.str (ch u.1), .str r.1, .lst (lvD ((lv.drop u.2).take (tkn u.1))), .non]) ha rfl (by decide) rfl rfl rfl g2 rR) rfl rfl g3
      · exact gI (i := 5) (es := lvD bh) (ds := lvD bh) rfl (mZ (is := [3]) (js := [3]) (mss := [clD cl]) (ds := [.str (ch u.1), .str r.1, .lst (lvD ((lv.drop u.2).take (tkn u.1))), .non]) ha rfl (by decide) rfl rfl rfl g2 nW) rfl rfl g3
    · rw [e, List.append_assoc]; rfl
end Lw
namespace Lw
open PySem L2 DL
theorem qU {lv : List (List Int)} (hk : okC (bG lv)) : ∀ {w : List Nat} {a : Nat}, a ≤ lv.length → bw w (bG (lv.drop a)) [] → ∀ u ∈ stT w a, u.2 + tkn u.1 ≤ lv.length ∧ ((lv.drop u.2).take (tkn u.1)).flatten.length ≤ 100
  | [], _, _, _, u, hu => by cases hu
  | c :: w, a, ha, h, u, hu => by
    obtain ⟨h1, h2, h3⟩ := h
    have hle := h2.1
    rw [v3, List.length_drop] at hle
    rcases List.mem_cons.mp hu with rfl | hu
    · refine ⟨by dsimp only; omega, ?_⟩
      have h4 := Dt (by rw [pe]; exact hk.drop _) h2
      have h5 := g9 ((lv.drop a).take (tkn c))
      rw [qT] at h5
      have h6 : ((((lv.drop a).take (tkn c)).flatten.length : Nat) : Int) = met c (bG (lv.drop a)) := h5
      dsimp only
      omega
    · rw [← pe, List.drop_drop] at h3
      exact qU hk (by omega) h3 u hu
theorem qf : ∀ (w : List Nat) (a : Nat), (stT w a).length = w.length
  | [], _ => rfl
  | c :: w, a => by show (stT w _).length + 1 = w.length + 1; rw [qf w]
theorem BL (r : Str × Str) (b : Bool) (lv : List (List Int)) (cl : List Lp) (hx : r.2.length ≤ 16) (he : bw r.2.cps.toList (bG lv) []) (hk : okC (bG lv)) (hc : cl.length ≤ 500) :
    i8 [av r, .bl b, .lst (lvD lv), .non] [clD cl] = .own (lvD (dC r.1 b (cP r.2.cps.toList lv) cl).1) [clD (dC r.1 b (cP r.2.cps.toList lv) cl).2] := by
  have hxl : r.2.cps.toList.length = r.2.length := by simp [Str.length]
  have g1 := jR (gM he) (by omega)
  have e0 : ez r.2.cps.toList 0 = (stT r.2.cps.toList 0).map stD := tQ r.2.cps.toList 0
  rw [e0] at g1
  have hst := qU hk (Nat.zero_le _) (by simpa using he)
  have hsl := qf r.2.cps.toList 0
  have hun : (stT r.2.cps.toList 0).map (dH lv) = cP r.2.cps.toList lv := by have := ri lv r.2.cps.toList 0; simpa using this
  have g2 : gIx (av r) (.int 2) = some (.val (.str r.2)) := rfl
  unfold i8 u9 dC
  cases b with
  | false =>
    obtain ⟨x6, x7, x8, e⟩ := ov r (.sh (.bl false)) (.sh (.lst ((stT r.2.cps.toList 0).map stD))) lv (stT r.2.cps.toList 0) cl [] .no .no .no hst (by omega) (by rw [List.length_nil]; omega)
    rw [hun, List.nil_append] at e
    have g3 : cD (.lst ((stT r.2.cps.toList 0).map stD)) = some ((stT r.2.cps.toList 0).map stD) := rfl
    unfold nE at e
    rw [if_neg (by simp)]
    apply kM
    · walk_at "ev"
    · rfl
  | true =>
    obtain ⟨x6, x7, x8, e⟩ := ov r (.sh (.bl true)) (.sh (.lst ((stT r.2.cps.toList 0).reverse.map stD))) lv (stT r.2.cps.toList 0).reverse cl [] .no .no .no (fun u hu => hst u (List.mem_reverse.mp hu)) (by rw [List.length_reverse]; omega) (by rw [List.length_reverse, List.length_nil]; omega)
    rw [List.map_reverse (f := dH lv), hun, List.nil_append] at e
    have g3 : cD (.lst ((stT r.2.cps.toList 0).reverse.map stD)) = some ((stT r.2.cps.toList 0).reverse.map stD) := rfl
    have er : ((stT r.2.cps.toList 0).map stD).reverse = (stT r.2.cps.toList 0).reverse.map stD := by rw [List.map_reverse]
    unfold nE at e
    rw [if_pos rfl]
    have s2 : (fIf (au (ae 1)) (eQ 4) aO) [.sh (av r), .sh (.bl true), .sh (.lst (lvD lv)), .ow (clD cl), .ow ((stT r.2.cps.toList 0).map stD), .no, .no, .no, .no] = .ok .nx [.sh (av r), .sh (.bl true), .sh (.lst (lvD lv)), .ow (clD cl), .ow ((stT r.2.cps.toList 0).reverse.map stD), .no, .no, .no, .no] := by
      rw [← er]
      apply Eq.trans
      walk_at "ev"
    rw [← sD]
    apply kM
    · apply aG
      · walk_at "ev"
      apply aJ
      apply aG
      · exact s2
      apply aJ
      apply aG
      · walk_at "ev"
      apply aJ
      apply aG
      · exact fz (ik (aq rfl) rfl g3) e
      apply aJ
      walk_at "ev"
    · rfl
noncomputable def kr (many : Int) (y : Str) : List Lp := List.replicate many.toNat (y, Str.ofString "t", [])
noncomputable def iN (many : Int) : List (List Int) := (List.range many.toNat).map fun (k : Nat) => [(k : Int)]
theorem qi (many : Int) : bG (iN many) = List.replicate many.toNat 1 := by
  unfold bG iN
  rw [List.map_map]
  apply List.ext_getElem?
  intro i
  rw [List.getElem?_map, List.getElem?_replicate]
  by_cases h : i < many.toNat
  · rw [List.getElem?_range h, if_pos h]; rfl
  · rw [List.getElem?_eq_none (by simpa using h), if_neg h]; rfl
theorem zp (n : Nat) (hn : n ≤ 100) : cf (bg 0) (.ret true) (bF (af (ae 0) ai)) (bK 0 n) [.no] [] = some (lvD ((List.range n).map fun (k : Nat) => [(k : Int)])) := by
  rw [comp_map (g := fun d => .lst [d]) _ .no (by rw [iC]; unfold sizeLine; omega) ?_]
  · unfold bK lvD
    rw [List.map_map, List.map_map]
    congr 1
    apply List.map_congr_left
    intro k _
    show D.lst [.int (0 + (k : Int))] = D.lst [.int (k : Int)]
    rw [Int.zero_add]
  · intro d hd; rfl
theorem DB {α β : Type} (f : α → β) (n : Nat) (g : Nat → β) (a : α) (h : ∀ k, g k = f a) : (List.range n).map g = (List.replicate n a).map f := by
  apply List.ext_getElem?
  intro i
  rw [List.getElem?_map, List.getElem?_map, List.getElem?_replicate]
  by_cases hi : i < n
  · rw [List.getElem?_range hi, if_pos hi]; show some (g i) = some (f a); rw [h]
  · rw [List.getElem?_eq_none (by simpa using hi), if_neg hi]; rfl
theorem Af (many : Int) (y : Str) (n : Nat) (hn : n ≤ 100) : cf (bg 0) (.ret true) (aY (af (ag (ae 1) (fC (.int 2)) gIx) (af (fC (.str "t")) (af (aY ai) ai)))) (bK 0 n) [.no, .sh (aL many y)] [] = some (clD (List.replicate n (y, Str.ofString "t", []))) := by
  rw [comp_map (g := fun _ => lpD (y, Str.ofString "t", [])) _ .no (by rw [iC]; unfold sizeLine; omega) ?_]
  · unfold bK clD
    rw [List.map_map]
    congr 1
    exact DB lpD n _ _ fun _ => rfl
  · intro d hd; rfl
noncomputable def nG : DM Fl := (ak (aF 3 (gD 4 [3] (af (ae 5) (af (ae 4) (af (ae 3) (af (ae 2) ai)))) i8))
    (aF 4 (gk (ae 4))))
theorem sT (p0 p1 : Sl) : ∀ (rs : List (Str × Str)) (b : Bool) (lv : List (List Int)) (cl : List Lp) (b5 : Sl), cZ (bG lv) rs → okC (bG lv) → cl.length + 16 * rs.length ≤ 500 → ∃ x4 x5,
    bD (bg 5) nG (rs.map av) [p0, p1, .ow (clD cl), .sh (.lst (lvD lv)), .sh (.bl b), b5] = .ok .nx [p0, p1, .ow (clD (iR b lv cl rs).1), .sh (.lst (lvD (iR b lv cl rs).2)), x4, x5]
  | [], b, lv, cl, b5, _, _, _ => ⟨_, b5, rfl⟩
  | r :: rs, b, lv, cl, b5, h, hk, hc => by
    obtain ⟨h1, h2, h3, h4⟩ := h
    rw [List.length_cons] at hc
    have g1 := BL r b lv cl h1 h3 hk (by omega)
    have hl := yl r.1 b r.2.cps.toList lv cl
    have hcl := xC r.1 b (cP r.2.cps.toList lv) cl
    have hxl : r.2.cps.toList.length = r.2.length := by simp [Str.length]
    rw [uw] at hcl
    obtain ⟨x4, x5, e⟩ := sT p0 p1 rs (!b) (dC r.1 b (cP r.2.cps.toList lv) cl).1 (dC r.1 b (cP r.2.cps.toList lv) cl).2 (.sh (av r)) (by rw [hl]; exact h4) (by rw [hl]; exact vc h3 hk) (by omega)
    refine ⟨x4, x5, ?_⟩
    rw [List.map_cons]
    refine cB rfl (δ2 := [p0, p1, .ow (clD (dC r.1 b (cP r.2.cps.toList lv) cl).2), .sh (.lst (lvD (dC r.1 b (cP r.2.cps.toList lv) cl).1)), .sh (.bl (!b)), .sh (av r)]) ?_ e
    unfold nG
    have ha : (af (ae 5) (af (ae 4) (af (ae 3) (af (ae 2) ai)))) [p0, p1, .ow (clD cl), .sh (.lst (lvD lv)), .sh (.bl b), .sh (av r)] = .ok [.val (av r), .val (.bl b), .val (.lst (lvD lv)), .slot 2] [p0, p1, .ow (clD cl), .sh (.lst (lvD lv)), .sh (.bl b), .sh (av r)] := by
      apply Eq.trans
      walk_at "ev"
    apply aG
    · exact bM (mZ (is := [3]) (js := [2]) (mss := [clD cl]) (ds := [av r, .bl b, .lst (lvD lv), .non]) ha rfl (by decide) rfl rfl rfl g1 nW) rfl
    apply aJ
    apply Eq.trans
    walk_at "ev"
theorem xq {body : DM Fl} {n : Nat} {ds : List D} {δ1 : DSt} (h : body (ds.map .sh ++ List.replicate (n - ds.length) .no) = .ok .nx δ1) : dU body n ds = .ok .non := by unfold dU; rw [h]
theorem qq {f : DM DV} {δ δ1 : DSt} {a : DV} (h : f δ = .ok a δ1) : gQ f δ = .ok .nx δ1 := by unfold gQ DM.bd DM.ret; simp only [h]
theorem sO {many : Int} {y : Str} {rs : List (Str × Str)} (h1 : 1 ≤ many) (h2 : many ≤ 16) (hr : cZ (List.replicate many.toNat 1) rs) (hn : rs.length ≤ 20) : dS [.lst (aL many y :: rs.map av)] = .ok .non := by
  have g1 := yE (y := y) h1 h2 hr hn
  have g2 : gNe (.str (Str.ofString "good")) (.str (Str.ofString "good")) = some (.val (.bl false)) := gr (lV 8 _ rfl)
  unfold dS oq
  apply xq
  walk_at "ev"
theorem y0 {many : Int} {y : Str} {rs : List (Str × Str)} (h1 : 1 ≤ many) (h2 : many ≤ 16) (hr : cZ (List.replicate many.toNat 1) rs) (hn : rs.length ≤ 20) :
    ey [.lst (aL many y :: rs.map av)] = .ok (.tup [.lst (clD (iR true (iN many) (kr many y) rs).1), .lst (lvD (iR true (iN many) (kr many y) rs).2)]) := by
  have g0 : gIx (.lst (aL many y :: rs.map av)) (.int 0) = some (.val (aL many y)) := iz
  have gN := sO (y := y) h1 h2 hr hn
  have g3 : dP (.lst (aL many y :: rs.map av)) (some 1) none = some (.own (rs.map av)) := by
    rw [hX]
    unfold cutD
    have a1 : HT.sIx (aL many y :: rs.map av).length 0 (some 1) = 1 := by
      have := HT.gb (aL many y :: rs.map av).length 0 1
      rw [List.length_cons] at this ⊢
      exact this.trans (by omega)
    rw [a1, HT.kR]
    show some (DV.own (List.take _ (rs.map av))) = _
    rw [List.take_of_length_le (by rw [List.length_cons]; omega)]
  have g4 := Af many y many.toNat (by omega)
  have g5 := zp many.toNat (by omega)
  have g6 : gB many = true := jq (by omega) (by omega)
  have g7 : cD (.lst (rs.map av)) = some (rs.map av) := rfl
  have hone : okC (List.replicate many.toNat 1) := fun x hx => by rw [List.eq_of_mem_replicate hx]; omega
  obtain ⟨x4, x5, e⟩ := sT (.sh (.lst (aL many y :: rs.map av))) (.sh (aL many y)) rs true (iN many) (kr many y) .no (by rw [qi]; exact hr) (by rw [qi]; exact hone) (by unfold kr; rw [List.length_replicate]; omega)
  have g8 : gIx (aL many y) (.int 1) = some (.val (.int many)) := rfl
  unfold nG at e
  unfold ey pL
  apply sP
  apply aG
  · exact qq (d6 (ay (aq rfl) aN) rfl rfl gN)
  apply aJ
  apply aG
  · walk_at "ev"
  apply aJ
  apply aG
  · exact eo (kj (jW (ay (aC (aq rfl) ax rfl rfl g8) aN) rfl g6) g4)
  apply aJ
  apply aG
  · exact bM (kj (jW (ay (aC (aq rfl) ax rfl rfl g8) aN) rfl g6) g5) rfl
  apply aJ
  walk_at "ev"
end Lw
namespace Lw
open PySem L2 DL
inductive Dd where
  | ky (k r : Str) (a : Int) (y : Str)
  | mv (r : Str) (a t : Int)
noncomputable def Dd.D : Dd → D
  | .ky k r a y => .tup [.str k, .str r, .int a, .str y]
  | .mv r a t => .tup [.str "move", .str r, .int a, .int t]
noncomputable def Dd.at : Dd → Int
  | .ky _ _ a _ => a
  | .mv _ a _ => a
noncomputable def qY (r : Str) : Prop := r = Str.ofString "f" ∨ r = Str.ofString "b"
noncomputable def Dd.ok : Dd → Prop
  | .ky k r a y => (k = Str.ofString "knit" ∨ k = Str.ofString "tuck") ∧ qY r ∧ 0 ≤ a ∧ a ≤ 15 ∧ y ∈ gW
  | .mv r a t => qY r ∧ 0 ≤ a ∧ a ≤ 15 ∧ 0 ≤ t ∧ t ≤ 15
end Lw
namespace Lw
open PySem L2 DL
noncomputable def dlD (ds : List Dd) : List D := ds.map Dd.D
theorem cS (ds : List Dd) : (dlD ds).length = ds.length := List.length_map _
theorem ij (a b : List Dd) : dlD (a ++ b) = dlD a ++ dlD b := List.map_append
end Lw
namespace Lw
open PySem L2 DL
noncomputable def mvF (i t : Nat) : Dd := .mv (Str.ofString "f") (i : Int) (t : Int)
noncomputable def mvB (i t : Nat) : Dd := .mv (Str.ofString "b") (i : Int) (t : Int)
noncomputable def near (a g : Nat) : Nat := max (a - 2) (min (a + 2) g)
noncomputable def along : Nat → Nat → Nat → List Dd
  | 0, _, _ => []
  | n + 1, s, g => if s = g then [] else mvF s (near s g) :: mvB (near s g) (near (near s g) g) :: along n (near (near s g) g) g
noncomputable def gT : List Nat → Nat → List Dd
  | [], _ => []
  | c :: w, a => (if c = 108 then along 16 (a + 1) a else if c = 114 then along 16 a (a + 1) else []) ++ gT w (a + tkn c)
noncomputable def stQ (c j : Nat) (y : Str) : List Dd := if c = 115 then [] else if c = 116 ∨ c = 111 then [.ky (Str.ofString "tuck") (Str.ofString "f") (j : Int) y] else if c = 112 then [mvF j j, .ky (Str.ofString "knit") (Str.ofString "b") (j : Int) y, mvB j j] else [.ky (Str.ofString "knit") (Str.ofString "f") (j : Int) y]
noncomputable def jI (y : Str) : Nat → List Nat → List Dd
  | _, [] => []
  | j, c :: w => stQ c j y ++ jI y (j + 1) w
noncomputable def jJ (y : Str) : List Nat → List Dd
  | [] => []
  | c :: w => stQ c w.length y ++ jJ y w
noncomputable def cF : List Nat → Nat → Nat → List (Nat × Nat)
  | [], _, _ => []
  | c :: w, a, j => if c = 111 then cF w a (j + 1) else (if c = 114 then a + 1 else a, j) :: cF w (a + tkn c) (j + 1)
noncomputable def eh (p : Nat × Nat) : List Dd := if p.1 < p.2 then along 16 p.1 p.2 else []
noncomputable def fj (p : Nat × Nat) : List Dd := if p.1 > p.2 then along 16 p.1 p.2 else []
noncomputable def placeQ (w : List Nat) : List Dd := ((cF w 0 0).reverse.map eh).flatten ++ ((cF w 0 0).map fj).flatten
noncomputable def jM (w : List Nat) (y : Str) (b : Bool) : List Dd := if b then jJ y w.reverse else jI y 0 w
noncomputable def iS (w : List Nat) (y : Str) (b : Bool) : List Dd := gT w 0 ++ (placeQ w ++ jM w y b)
noncomputable def dX (y : Str) (n : Nat) : List Dd := (List.range n).map fun (i : Nat) => .ky (Str.ofString "tuck") (Str.ofString "f") (i : Int) y
end Lw
namespace Lw
open PySem L2 DL
theorem xX {i j : Int} : cu (.int i) (.int j) = some (.val (.int (i - j))) := rfl
theorem yv (a g : Nat) : imax ((a : Int) - 2) (bQ ((a : Int) + 2) (g : Int)) = ((near a g : Nat) : Int) := by
  unfold imax bQ near
  split <;> split <;> omega
theorem uQ (a g : Nat) : eK [.int (a : Int), .int (g : Int)] = .ok (.int ((near a g : Nat) : Int)) := by
  have g1 : fk [.int ((a : Int) + 2), .int (g : Int)] = some (.val (.int (bQ ((a : Int) + 2) (g : Int)))) := rfl
  have g2 : jX [.int ((a : Int) - 2), .int (bQ ((a : Int) + 2) (g : Int))] = some (.val (.int (imax ((a : Int) - 2) (bQ ((a : Int) + 2) (g : Int))))) := rfl
  unfold eK sH
  rw [← yv]
  apply dM
  apply eX
  · exact dE (ay (aC (aq rfl) ax rfl rfl xX) (ay (dE (ay (aC (aq rfl) ax rfl rfl kJ) (ay (aq rfl) aN)) rfl g1) aN)) rfl g2
  exact gz
theorem nX (a b : Nat) : gNe (.int (a : Int)) (.int (b : Int)) = some (.val (.bl (!decide (a = b)))) := by
  have : ((a : Int) == (b : Int)) = decide (a = b) := by
    by_cases e : a = b
    · rw [decide_eq_true e, e]; exact beq_self_eq_true _
    · rw [decide_eq_false e]
      exact beq_eq_false_iff_ne.mpr (by omega)
  rw [← this]
  exact gr rfl
theorem mn (s g : Nat) : (near s g - g) + (g - near s g) = ((s - g) + (g - s)) - 2 := by
  unfold near
  omega
theorem nZ : ∀ (n s g : Nat), (along n s g).length ≤ 2 * (((s - g) + (g - s) + 3) / 4)
  | 0, s, g => Nat.zero_le _
  | n + 1, s, g => by
    unfold along
    split
    · exact Nat.zero_le _
    · rename_i e
      rw [List.length_cons, List.length_cons]
      have ih := nZ n (near (near s g) g) g
      rw [mn, mn] at ih
      have hx : (s - g) + (g - s) ≠ 0 := by omega
      generalize (s - g) + (g - s) = x at *
      clear e
      omega
theorem qC (n s g : Nat) (h1 : s ≤ g + 1) (h2 : g ≤ s + 1) : (along n s g).length ≤ 2 := by
  have := nZ n s g
  omega
theorem rg (n s g : Nat) (h1 : s ≤ g + 15) (h2 : g ≤ s + 15) : (along n s g).length ≤ 8 := by
  have := nZ n s g
  omega
theorem vt {n s g : Nat} (h1 : s ≤ g + (n + 1)) (h2 : g ≤ s + (n + 1)) (e : s ≠ g) : near (near s g) g ≤ g + n ∧ g ≤ near (near s g) g + n := by
  have a1 := mn s g
  have a2 := mn (near s g) g
  generalize near (near s g) g = a at *
  generalize near s g = o at *
  omega
noncomputable def cAl : DM Bool := (au (ag (ae 3) (ae 1) gNe))
noncomputable def bAl : DM Fl := (ak (aF 4 (aD 2 (af (ae 3) (af (ae 1) ai)) eK))
    (ak (bE 2 (aY (af (fC (.str "move")) (af (fC (.str "f")) (af (ae 3) (af (ae 4) ai))))))
    (ak (aF 3 (aD 2 (af (ae 4) (af (ae 1) ai)) eK))
    (bE 2 (aY (af (fC (.str "move")) (af (fC (.str "b")) (af (ae 4) (af (ae 3) ai)))))))))
theorem Dq (p0 b4 : Sl) (g s : Nat) (acc : List Dd) (hl : acc.length + 2 ≤ 1000) : ∃ x4, bAl [p0, .sh (.int (g : Int)), .ow (dlD acc), .sh (.int (s : Int)), b4] = .ok .nx [p0, .sh (.int (g : Int)), .ow (dlD (acc ++ [mvF s (near s g), mvB (near s g) (near (near s g) g)])), .sh (.int ((near (near s g) g : Nat) : Int)), x4] := by
  have n1 := uQ s g
  have n2 := uQ (near s g) g
  generalize near s g = o at *
  generalize near o g = a at *
  have z1 : (dlD acc).length < sizeLine := by rw [cS]; unfold sizeLine; omega
  have z2 : (dlD acc ++ [(mvF s o).D]).length < sizeLine := by rw [List.length_append, cS]; change _ + 1 < _; unfold sizeLine; omega
  have z4 : ([.str "move", .str "f", .int (s : Int), .int (o : Int)] : List D).length ≤ sizeLine := Nat.le_of_ble_eq_true rfl
  have z5 : ([.str "move", .str "b", .int (o : Int), .int (a : Int)] : List D).length ≤ sizeLine := Nat.le_of_ble_eq_true rfl
  have hd : dlD (acc ++ [mvF s o, mvB o a]) = dlD acc ++ [(mvF s o).D] ++ [(mvB o a).D] := by rw [ij, List.append_assoc]; rfl
  rw [hd]
  have s1 : (aF 4 (aD 2 (af (ae 3) (af (ae 1) ai)) eK)) [p0, .sh (.int (g : Int)), .ow (dlD acc), .sh (.int (s : Int)), b4] = .ok .nx [p0, .sh (.int (g : Int)), .ow (dlD acc), .sh (.int (s : Int)), .sh (.int (o : Int))] := bM (d6 (ay (aq rfl) (ay (aq rfl) aN)) rfl rfl n1) rfl
  have s2 : (bE 2 (aY (af (fC (.str "move")) (af (fC (.str "f")) (af (ae 3) (af (ae 4) ai)))))) [p0, .sh (.int (g : Int)), .ow (dlD acc), .sh (.int (s : Int)), .sh (.int (o : Int))] = .ok .nx [p0, .sh (.int (g : Int)), .ow (dlD acc ++ [(mvF s o).D]), .sh (.int (s : Int)), .sh (.int (o : Int))] :=
    gI (i := 2) (es := dlD acc) (ds := dlD acc) rfl (dy (ay ax (ay ax (ay (aq rfl) (ay (aq rfl) aN)))) rfl z4) rfl rfl z1
  have s3 : (aF 3 (aD 2 (af (ae 4) (af (ae 1) ai)) eK)) [p0, .sh (.int (g : Int)), .ow (dlD acc ++ [(mvF s o).D]), .sh (.int (s : Int)), .sh (.int (o : Int))] = .ok .nx [p0, .sh (.int (g : Int)), .ow (dlD acc ++ [(mvF s o).D]), .sh (.int (a : Int)), .sh (.int (o : Int))] := bM (d6 (ay (aq rfl) (ay (aq rfl) aN)) rfl rfl n2) rfl
  have s4 : (bE 2 (aY (af (fC (.str "move")) (af (fC (.str "b")) (af (ae 4) (af (ae 3) ai)))))) [p0, .sh (.int (g : Int)), .ow (dlD acc ++ [(mvF s o).D]), .sh (.int (a : Int)), .sh (.int (o : Int))] = .ok .nx [p0, .sh (.int (g : Int)), .ow (dlD acc ++ [(mvF s o).D] ++ [(mvB o a).D]), .sh (.int (a : Int)), .sh (.int (o : Int))] :=
    gI (i := 2) (es := dlD acc ++ [(mvF s o).D]) (ds := dlD acc ++ [(mvF s o).D]) rfl (dy (ay ax (ay ax (ay (aq rfl) (ay (aq rfl) aN)))) rfl z5) rfl rfl z2
  refine ⟨.sh (.int (o : Int)), ?_⟩
  unfold bAl
  exact aG s1 (aJ (aG s2 (aJ (aG s3 (aJ s4)))))
theorem tP (p0 : Sl) (g : Nat) : ∀ (n s fuel : Nat) (acc : List Dd) (b4 : Sl), s ≤ g + n → g ≤ s + n → n < fuel → acc.length + 2 * n ≤ 1000 →
    ∃ x4, cT cAl bAl fuel [p0, .sh (.int (g : Int)), .ow (dlD acc), .sh (.int (s : Int)), b4] = .ok .nx [p0, .sh (.int (g : Int)), .ow (dlD (acc ++ along n s g)), .sh (.int (g : Int)), x4]
  | _, _, 0, _, _, _, _, h, _ => absurd h (Nat.not_lt_zero _)
  | 0, s, fuel + 1, acc, b4, h1, h2, _, _ => by
    have e : s = g := by omega
    subst e
    have q := nX s s
    rw [decide_eq_true rfl] at q
    refine ⟨b4, ?_⟩
    change _ = Rs.ok Fl.nx [p0, .sh (.int (s : Int)), .ow (dlD (acc ++ [])), .sh (.int (s : Int)), b4]
    rw [List.append_nil]
    exact oW (bz (aC (aq rfl) (aq rfl) rfl rfl q) rfl)
  | n + 1, s, fuel + 1, acc, b4, h1, h2, hf, hl => by
    by_cases e : s = g
    · subst e
      have q := nX s s
      rw [decide_eq_true rfl] at q
      have ha : along (n + 1) s s = [] := if_pos rfl
      refine ⟨b4, ?_⟩
      rw [ha, List.append_nil]
      exact oW (bz (aC (aq rfl) (aq rfl) rfl rfl q) rfl)
    · have q := nX s g
      rw [decide_eq_false e] at q
      have ha : along (n + 1) s g = mvF s (near s g) :: mvB (near s g) (near (near s g) g) :: along n (near (near s g) g) g := if_neg e
      obtain ⟨x4, et⟩ := Dq p0 b4 g s acc (by omega)
      obtain ⟨y4, er⟩ := tP p0 g n (near (near s g) g) fuel (acc ++ [mvF s (near s g), mvB (near s g) (near (near s g) g)]) x4 (vt h1 h2 e).1 (vt h1 h2 e).2 (by omega) (by rw [List.length_append]; change acc.length + 2 + _ ≤ _; omega)
      refine ⟨y4, ?_⟩
      rw [ha, show acc ++ mvF s (near s g) :: mvB (near s g) (near (near s g) g) :: along n (near (near s g) g) g = acc ++ [mvF s (near s g), mvB (near s g) (near (near s g) g)] ++ along n (near (near s g) g) g by simp]
      exact vh (bz (aC (aq rfl) (aq rfl) rfl rfl q) rfl) et er
theorem nu (s g : Nat) (h1 : s ≤ g + 16) (h2 : g ≤ s + 16) : dJ [.int (s : Int), .int (g : Int)] = .own (dlD (along 16 s g)) := by
  obtain ⟨x4, e⟩ := tP (.sh (.int (s : Int))) g 16 s 64 [] .no h1 h2 (by omega) (by change 0 + _ ≤ _; omega)
  rw [List.nil_append] at e
  unfold cAl bAl at e
  unfold dJ tY
  apply cQ
  apply aG
  · exact eo (cX aN rfl (Nat.le_of_ble_eq_true rfl))
  apply aJ
  apply aG
  · exact bM (aq rfl) rfl
  apply aJ
  apply aG
  · exact e
  apply aJ
  exact iP (hZ rfl) rfl
end Lw
namespace Lw
open PySem L2 DL
theorem CQ (c : Nat) : gEq (.str (ch c)) (.str (Str.ofString "l")) = some (.val (.bl (decide (c = 108)))) := by rw [o6]; exact dN c 108
theorem uY (c : Nat) : gEq (.str (ch c)) (.str (Str.ofString "r")) = some (.val (.bl (decide (c = 114)))) := by rw [mY]; exact dN c 114
theorem AW (c : Nat) : gNe (.str (ch c)) (.str (Str.ofString "o")) = some (.val (.bl (!decide (c = 111)))) := by
  have := dN c 111
  rw [← gK] at this
  unfold gEq at this
  unfold gNe
  cases h : cV 8 (.str (ch c)) (.str (Str.ofString "o")) with
  | none => rw [h] at this; cases this
  | some b =>
    rw [h] at this
    have e : b = decide (c = 111) := by injection this with this; injection this with this; injection this
    rw [e]; rfl
noncomputable def bJm : DM Fl := (fIf (au (ag (ae 2) (fC (.str "l")) gEq)) (bS 1 (aD 2 (af (ag (ae 3) (fC (.int 1)) aK) (af (ae 3) ai)) dJ)) (fIf (au (ag (ae 2) (fC (.str "r")) gEq)) (bS 1 (aD 2 (af (ae 3) (af (ag (ae 3) (fC (.int 1)) aK) ai)) dJ)) aO))
noncomputable def jm1 (c a : Nat) : List Dd := if c = 108 then along 16 (a + 1) a else if c = 114 then along 16 a (a + 1) else []
theorem nJ (c a : Nat) : (jm1 c a).length ≤ 2 := by
  unfold jm1
  split
  · exact qC _ _ _ (by omega) (by omega)
  · split
    · exact qC _ _ _ (by omega) (by omega)
    · exact Nat.zero_le _
theorem AO (p0 p4 : Sl) (c a : Nat) (acc : List Dd) (hl : acc.length ≤ 4000) : bJm [p0, .ow (dlD acc), .sh (.str (ch c)), .sh (.int (a : Int)), p4] = .ok .nx [p0, .ow (dlD (acc ++ jm1 c a)), .sh (.str (ch c)), .sh (.int (a : Int)), p4] := by
  have e1 := CQ c
  have e2 := uY c
  have ha : (a : Int) + 1 = ((a + 1 : Nat) : Int) := by omega
  have g0 : aK (.int (a : Int)) (.int 1) = some (.val (.int ((a + 1 : Nat) : Int))) := by rw [← ha]; exact kJ
  have hz := nJ c a
  have z : (dlD acc).length + (dlD (jm1 c a)).length ≤ sizeLine := by rw [cS, cS]; unfold sizeLine; omega
  unfold bJm
  rw [ij]
  unfold jm1 at z ⊢
  by_cases h1 : c = 108
  · rw [decide_eq_true h1] at e1
    rw [if_pos h1] at z ⊢
    have g := nu (a + 1) a (by omega) (by omega)
    refine bj (bz (aC (aq rfl) ax rfl rfl e1) rfl) (cy rfl ?_)
    exact fh (i := 1) (ds0 := dlD acc) (ds := dlD acc) rfl (dA (ds := [.int ((a + 1 : Nat) : Int), .int (a : Int)]) (ay (aC (aq rfl) ax rfl rfl g0) (ay (aq rfl) aN)) rfl rfl g) rfl rfl z
  · rw [decide_eq_false h1] at e1
    rw [if_neg h1] at z ⊢
    refine bj (bz (aC (aq rfl) ax rfl rfl e1) rfl) (cg rfl ?_)
    by_cases h2 : c = 114
    · rw [decide_eq_true h2] at e2
      rw [if_pos h2] at z ⊢
      have g := nu a (a + 1) (by omega) (by omega)
      refine bj (bz (aC (aq rfl) ax rfl rfl e2) rfl) (cy rfl ?_)
      exact fh (i := 1) (ds0 := dlD acc) (ds := dlD acc) rfl (dA (ds := [.int (a : Int), .int ((a + 1 : Nat) : Int)]) (ay (aq rfl) (ay (aC (aq rfl) ax rfl rfl g0) aN)) rfl rfl g) rfl rfl z
    · rw [decide_eq_false h2] at e2
      rw [if_neg h2]
      rw [show dlD ([] : List Dd) = [] from rfl, List.append_nil]
      exact bj (bz (aC (aq rfl) ax rfl rfl e2) rfl) (cg rfl cx)
theorem pE : ∀ (w : List Nat) (a : Nat), (gT w a).length ≤ 2 * w.length
  | [], _ => Nat.le_refl _
  | c :: w, a => by
    change (jm1 c a ++ gT w (a + tkn c)).length ≤ _
    rw [List.length_append, List.length_cons]
    have := nJ c a
    have := pE w (a + tkn c)
    omega
theorem q8 (p0 : Sl) : ∀ (w : List Nat) (a : Nat) (acc : List Dd) (b2 b3 b4 : Sl), acc.length + 2 * w.length ≤ 4000 →
    ∃ x2 x3 x4, bD (b9 [2, 3, 4]) bJm (ez w (a : Int)) [p0, .ow (dlD acc), b2, b3, b4] = .ok .nx [p0, .ow (dlD (acc ++ gT w a)), x2, x3, x4]
  | [], a, acc, b2, b3, b4, _ => ⟨b2, b3, b4, by change _ = Rs.ok Fl.nx [p0, .ow (dlD (acc ++ [])), b2, b3, b4]; rw [List.append_nil]; rfl⟩
  | c :: w, a, acc, b2, b3, b4, hl => by
    rw [List.length_cons] at hl
    have hz := nJ c a
    obtain ⟨x2, x3, x4, e⟩ := q8 p0 w (a + tkn c) (acc ++ jm1 c a) (.sh (.str (ch c))) (.sh (.int (a : Int))) (.sh (.int ((a : Int) + (tkn c : Nat)))) (by rw [List.length_append]; omega)
    refine ⟨x2, x3, x4, ?_⟩
    change _ = Rs.ok Fl.nx [p0, .ow (dlD (acc ++ (jm1 c a ++ gT w (a + tkn c)))), x2, x3, x4]
    rw [← List.append_assoc]
    have hc : ((a + tkn c : Nat) : Int) = (a : Int) + (tkn c : Nat) := by omega
    rw [hc] at e
    exact cB (δ1 := [p0, .ow (dlD acc), .sh (.str (ch c)), .sh (.int (a : Int)), .sh (.int ((a : Int) + (tkn c : Nat)))]) rfl (AO p0 _ c a acc (by omega)) e
theorem yO {x : Str} (hc : ∀ c ∈ x.cps.toList, c ∈ codes) (hl : x.length ≤ 16) : h9 [.str x] = .own (dlD (gT x.cps.toList 0)) := by
  have hn : x.cps.toList.length = x.length := Array.length_toList
  obtain ⟨x2, x3, x4, e⟩ := q8 (.sh (.str x)) x.cps.toList 0 [] .no .no .no (by rw [hn]; change 0 + _ ≤ _; omega)
  rw [List.nil_append] at e
  have g := jR hc (by omega)
  unfold bJm at e
  unfold h9 uV
  apply cQ
  apply aG
  · exact eo (cX aN rfl (Nat.le_of_ble_eq_true rfl))
  apply aJ
  apply aG
  · exact fz (ik (dA (ay (aq rfl) aN) rfl rfl g) rfl rfl) e
  apply aJ
  exact iP (hZ rfl) rfl
noncomputable def wyD (ps : List (Nat × Nat)) : List D := ps.map fun p => .tup [.int (p.1 : Int), .int (p.2 : Int)]
theorem we (ps : List (Nat × Nat)) : (wyD ps).length = ps.length := List.length_map _
theorem zB (a b : List (Nat × Nat)) : wyD (a ++ b) = wyD a ++ wyD b := List.map_append
theorem yP (a : List (Nat × Nat)) : (wyD a).reverse = wyD a.reverse := by unfold wyD; rw [List.map_reverse]
noncomputable def bWo : DM Fl := (fIf (au (ag (ag (ae 3) (fC (.int 0)) gIx) (fC (.str "r")) gEq)) (bE 1 (aY (af (ag (ag (ae 3) (fC (.int 1)) gIx) (fC (.int 1)) aK) (af (ae 2) ai)))) (fIf (au (ag (ag (ae 3) (fC (.int 0)) gIx) (fC (.str "o")) gNe)) (bE 1 (aY (af (ag (ae 3) (fC (.int 1)) gIx) (af (ae 2) ai)))) aO))
noncomputable def ig (c a j : Nat) : List (Nat × Nat) := if c = 111 then [] else [(if c = 114 then a + 1 else a, j)]
theorem Dr (p0 : Sl) (c a j : Nat) (v : Int) (acc : List (Nat × Nat)) (hl : acc.length ≤ 4000) : bWo [p0, .ow (wyD acc), .sh (.int (j : Int)), .sh (.tup [.str (ch c), .int (a : Int), .int v])] = .ok .nx [p0, .ow (wyD (acc ++ ig c a j)), .sh (.int (j : Int)), .sh (.tup [.str (ch c), .int (a : Int), .int v])] := by
  have e1 := uY c
  have e2 := AW c
  have i0 : gIx (.tup [.str (ch c), .int (a : Int), .int v]) (.int 0) = some (.val (.str (ch c))) := rfl
  have i1 : gIx (.tup [.str (ch c), .int (a : Int), .int v]) (.int 1) = some (.val (.int (a : Int))) := rfl
  have z : (wyD acc).length < sizeLine := by rw [we]; unfold sizeLine; omega
  have ha : (a : Int) + 1 = ((a + 1 : Nat) : Int) := by omega
  have g0 : aK (.int (a : Int)) (.int 1) = some (.val (.int ((a + 1 : Nat) : Int))) := by rw [← ha]; exact kJ
  unfold bWo
  rw [zB]
  unfold ig
  by_cases h1 : c = 114
  · rw [decide_eq_true h1] at e1
    rw [if_neg (by omega), if_pos h1]
    refine bj (bz (aC (aC (aq rfl) ax rfl rfl i0) ax rfl rfl e1) rfl) (cy rfl ?_)
    exact gI (i := 1) (es := wyD acc) (ds := wyD acc) rfl (dy (ds := [.int ((a + 1 : Nat) : Int), .int (j : Int)]) (ay (aC (aC (aq rfl) ax rfl rfl i1) ax rfl rfl g0) (ay (aq rfl) aN)) rfl (Nat.le_of_ble_eq_true rfl)) rfl rfl z
  · rw [decide_eq_false h1] at e1
    rw [if_neg h1]
    refine bj (bz (aC (aC (aq rfl) ax rfl rfl i0) ax rfl rfl e1) rfl) (cg rfl ?_)
    by_cases h2 : c = 111
    · rw [decide_eq_true h2] at e2
      rw [if_pos h2, show wyD [] = [] from rfl, List.append_nil]
      exact bj (bz (aC (aC (aq rfl) ax rfl rfl i0) ax rfl rfl e2) rfl) (cg rfl cx)
    · rw [decide_eq_false h2] at e2
      rw [if_neg h2]
      refine bj (bz (aC (aC (aq rfl) ax rfl rfl i0) ax rfl rfl e2) rfl) (cy rfl ?_)
      exact gI (i := 1) (es := wyD acc) (ds := wyD acc) rfl (dy (ds := [.int (a : Int), .int (j : Int)]) (ay (aC (aq rfl) ax rfl rfl i1) (ay (aq rfl) aN)) rfl (Nat.le_of_ble_eq_true rfl)) rfl rfl z
theorem oj (c : Nat) (w : List Nat) (a j : Nat) : cF (c :: w) a j = ig c a j ++ cF w (a + tkn c) (j + 1) := by
  change (if c = 111 then cF w a (j + 1) else _) = _
  unfold ig
  by_cases h : c = 111
  · have : tkn c = 0 := by rw [h]; rfl
    rw [if_pos h, if_pos h, this, Nat.add_zero]; rfl
  · rw [if_neg h, if_neg h]; rfl
theorem qm (c a j : Nat) : (ig c a j).length ≤ 1 := by
  unfold ig
  split
  · exact Nat.zero_le _
  · exact Nat.le_refl _
theorem oD : ∀ (w : List Nat) (a j : Nat), (cF w a j).length ≤ w.length
  | [], _, _ => Nat.le_refl _
  | c :: w, a, j => by
    rw [oj, List.length_append, List.length_cons]
    have := qm c a j
    have := oD w (a + tkn c) (j + 1)
    omega
theorem uA (p0 : Sl) : ∀ (w : List Nat) (a j : Nat) (acc : List (Nat × Nat)) (b2 b3 : Sl), acc.length + w.length ≤ 4000 →
    ∃ x2 x3, bD (b9 [2, 3]) bWo (cW (j : Int) (ez w (a : Int))) [p0, .ow (wyD acc), b2, b3] = .ok .nx [p0, .ow (wyD (acc ++ cF w a j)), x2, x3]
  | [], a, j, acc, b2, b3, _ => ⟨b2, b3, by change _ = Rs.ok Fl.nx [p0, .ow (wyD (acc ++ [])), b2, b3]; rw [List.append_nil]; rfl⟩
  | c :: w, a, j, acc, b2, b3, hl => by
    rw [List.length_cons] at hl
    have hz := qm c a j
    obtain ⟨x2, x3, e⟩ := uA p0 w (a + tkn c) (j + 1) (acc ++ ig c a j) (.sh (.int (j : Int))) (.sh (.tup [.str (ch c), .int (a : Int), .int ((a : Int) + (tkn c : Nat))])) (by rw [List.length_append]; omega)
    refine ⟨x2, x3, ?_⟩
    rw [oj, ← List.append_assoc]
    have hc : ((a + tkn c : Nat) : Int) = (a : Int) + (tkn c : Nat) := by omega
    have hj : ((j + 1 : Nat) : Int) = (j : Int) + 1 := by omega
    rw [hc, hj] at e
    exact cB (δ1 := [p0, .ow (wyD acc), .sh (.int (j : Int)), .sh (.tup [.str (ch c), .int (a : Int), .int ((a : Int) + (tkn c : Nat))])]) rfl (Dr p0 c a j _ acc (by omega)) e
theorem B6 {x : Str} (hc : ∀ c ∈ x.cps.toList, c ∈ codes) (hl : x.length ≤ 16) : jN [.str x] = .own (wyD (cF x.cps.toList 0 0)) := by
  have hn : x.cps.toList.length = x.length := Array.length_toList
  obtain ⟨x2, x3, e⟩ := uA (.sh (.str x)) x.cps.toList 0 0 [] .no .no (by rw [hn]; change 0 + _ ≤ _; omega)
  rw [List.nil_append] at e
  have g := jR hc (by omega)
  unfold bWo at e
  unfold jN rp
  apply cQ
  apply aG
  · exact eo (cX aN rfl (Nat.le_of_ble_eq_true rfl))
  apply aJ
  apply aG
  · exact fz (Ae (dA (ay (aq rfl) aN) rfl rfl g) rfl) e
  apply aJ
  exact iP (hZ rfl) rfl
end Lw
namespace Lw
open PySem L2 DL
theorem uG : ∀ (w : List Nat) (a j : Nat), ∀ p ∈ cF w a j, p.1 + 1 ≤ a + (w.map tkn).sum ∧ p.2 + 1 ≤ j + w.length
  | [], _, _, p, h => by cases h
  | c :: w, a, j, p, h => by
    rw [oj] at h
    rw [List.map_cons, List.sum_cons, List.length_cons]
    rcases List.mem_append.mp h with z | z
    · unfold ig at z
      split at z
      · cases z
      · rename_i h1
        rw [List.mem_singleton.mp z]
        dsimp only
        have ht : 1 ≤ tkn c := by
          unfold tkn
          rw [if_neg h1]
          split <;> omega
        by_cases h2 : c = 114
        · have h3 : tkn c = 2 := by rw [h2]; rfl
          rw [if_pos h2]; omega
        · rw [if_neg h2]; omega
    · have := uG w (a + tkn c) (j + 1) p z
      omega
noncomputable def bPr : DM Fl := (fIf (au (ag (ae 3) (ae 4) (aX lt))) (bS 2 (aD 2 (af (ae 3) (af (ae 4) ai)) dJ)) aO)
noncomputable def bPl : DM Fl := (fIf (au (ag (ae 3) (ae 4) (aX gt))) (bS 2 (aD 2 (af (ae 3) (af (ae 4) ai)) dJ)) aO)
theorem mq (p : Nat × Nat) (h1 : p.1 < 16) (h2 : p.2 < 16) : (eh p).length ≤ 8 := by
  unfold eh
  split
  · exact rg _ _ _ (by omega) (by omega)
  · exact Nat.zero_le _
theorem oh (p : Nat × Nat) (h1 : p.1 < 16) (h2 : p.2 < 16) : (fj p).length ≤ 8 := by
  unfold fj
  split
  · exact rg _ _ _ (by omega) (by omega)
  · exact Nat.zero_le _
theorem Dk (p0 p1 : Sl) (p : Nat × Nat) (h1 : p.1 < 16) (h2 : p.2 < 16) (acc : List Dd) (hl : acc.length ≤ 4000) : bPr [p0, p1, .ow (dlD acc), .sh (.int (p.1 : Int)), .sh (.int (p.2 : Int))] = .ok .nx [p0, p1, .ow (dlD (acc ++ eh p)), .sh (.int (p.1 : Int)), .sh (.int (p.2 : Int))] := by
  have q : aX lt (.int (p.1 : Int)) (.int (p.2 : Int)) = some (.val (.bl (decide ((p.1 : Int) < (p.2 : Int))))) := rfl
  have hz := mq p h1 h2
  have z : (dlD acc).length + (dlD (eh p)).length ≤ sizeLine := by rw [cS, cS]; unfold sizeLine; omega
  unfold bPr
  rw [ij]
  unfold eh at z ⊢
  by_cases h : p.1 < p.2
  · rw [decide_eq_true (show (p.1 : Int) < (p.2 : Int) by omega)] at q
    rw [if_pos h] at z ⊢
    have g := nu p.1 p.2 (by omega) (by omega)
    exact bj (bz (aC (aq rfl) (aq rfl) rfl rfl q) rfl) (cy rfl (fh (i := 2) (ds0 := dlD acc) (ds := dlD acc) rfl (dA (ay (aq rfl) (ay (aq rfl) aN)) rfl rfl g) rfl rfl z))
  · rw [decide_eq_false (show ¬ (p.1 : Int) < (p.2 : Int) by omega)] at q
    rw [if_neg h, show dlD ([] : List Dd) = [] from rfl, List.append_nil]
    exact bj (bz (aC (aq rfl) (aq rfl) rfl rfl q) rfl) (cg rfl cx)
theorem zq (p0 p1 : Sl) (p : Nat × Nat) (h1 : p.1 < 16) (h2 : p.2 < 16) (acc : List Dd) (hl : acc.length ≤ 4000) : bPl [p0, p1, .ow (dlD acc), .sh (.int (p.1 : Int)), .sh (.int (p.2 : Int))] = .ok .nx [p0, p1, .ow (dlD (acc ++ fj p)), .sh (.int (p.1 : Int)), .sh (.int (p.2 : Int))] := by
  have q : aX gt (.int (p.1 : Int)) (.int (p.2 : Int)) = some (.val (.bl (decide ((p.2 : Int) < (p.1 : Int))))) := rfl
  have hz := oh p h1 h2
  have z : (dlD acc).length + (dlD (fj p)).length ≤ sizeLine := by rw [cS, cS]; unfold sizeLine; omega
  unfold bPl
  rw [ij]
  unfold fj at z ⊢
  by_cases h : p.1 > p.2
  · rw [decide_eq_true (show (p.2 : Int) < (p.1 : Int) by omega)] at q
    rw [if_pos h] at z ⊢
    have g := nu p.1 p.2 (by omega) (by omega)
    exact bj (bz (aC (aq rfl) (aq rfl) rfl rfl q) rfl) (cy rfl (fh (i := 2) (ds0 := dlD acc) (ds := dlD acc) rfl (dA (ay (aq rfl) (ay (aq rfl) aN)) rfl rfl g) rfl rfl z))
  · rw [decide_eq_false (show ¬ (p.2 : Int) < (p.1 : Int) by omega)] at q
    rw [if_neg h, show dlD ([] : List Dd) = [] from rfl, List.append_nil]
    exact bj (bz (aC (aq rfl) (aq rfl) rfl rfl q) rfl) (cg rfl cx)
theorem oU (S : DM Fl) (fq : Nat × Nat → List Dd) (p0 p1 : Sl) (hS : ∀ (p : Nat × Nat) (acc : List Dd), p.1 < 16 → p.2 < 16 → acc.length ≤ 4000 → S [p0, p1, .ow (dlD acc), .sh (.int (p.1 : Int)), .sh (.int (p.2 : Int))] = .ok .nx [p0, p1, .ow (dlD (acc ++ fq p)), .sh (.int (p.1 : Int)), .sh (.int (p.2 : Int))]) (hq : ∀ p : Nat × Nat, p.1 < 16 → p.2 < 16 → (fq p).length ≤ 8) :
    ∀ (ps : List (Nat × Nat)) (acc : List Dd) (b3 b4 : Sl), (∀ p ∈ ps, p.1 < 16 ∧ p.2 < 16) → acc.length + 8 * ps.length ≤ 4000 →
    ∃ x3 x4, bD (b9 [3, 4]) S (wyD ps) [p0, p1, .ow (dlD acc), b3, b4] = .ok .nx [p0, p1, .ow (dlD (acc ++ (ps.map fq).flatten)), x3, x4]
  | [], acc, b3, b4, _, _ => ⟨b3, b4, by change _ = Rs.ok Fl.nx [p0, p1, .ow (dlD (acc ++ [])), b3, b4]; rw [List.append_nil]; rfl⟩
  | p :: ps, acc, b3, b4, h, hl => by
    rw [List.length_cons] at hl
    obtain ⟨h1, h2⟩ := h p List.mem_cons_self
    have hz := hq p h1 h2
    obtain ⟨x3, x4, e⟩ := oU S fq p0 p1 hS hq ps (acc ++ fq p) (.sh (.int (p.1 : Int))) (.sh (.int (p.2 : Int))) (fun c hc => h c (List.mem_cons_of_mem _ hc)) (by rw [List.length_append]; omega)
    refine ⟨x3, x4, ?_⟩
    rw [List.map_cons, List.flatten_cons, ← List.append_assoc]
    exact cB (δ1 := [p0, p1, .ow (dlD acc), .sh (.int (p.1 : Int)), .sh (.int (p.2 : Int))]) rfl (hS p acc h1 h2 (by omega)) e
theorem qs (fq : Nat × Nat → List Dd) (hq : ∀ p : Nat × Nat, p.1 < 16 → p.2 < 16 → (fq p).length ≤ 8) : ∀ ps : List (Nat × Nat), (∀ p ∈ ps, p.1 < 16 ∧ p.2 < 16) → ((ps.map fq).flatten).length ≤ 8 * ps.length
  | [], _ => Nat.le_refl _
  | p :: ps, h => by
    rw [List.map_cons, List.flatten_cons, List.length_append, List.length_cons]
    have := hq p (h p List.mem_cons_self).1 (h p List.mem_cons_self).2
    have := qs fq hq ps fun c hc => h c (List.mem_cons_of_mem _ hc)
    omega
theorem qt {x : Str} (hl : x.length ≤ 16) (ht : (x.cps.toList.map tkn).sum ≤ 16) : ∀ p ∈ cF x.cps.toList 0 0, p.1 < 16 ∧ p.2 < 16 := fun p hp => by
  have hn : x.cps.toList.length = x.length := Array.length_toList
  have := uG x.cps.toList 0 0 p hp
  omega
theorem BP {x : Str} (hc : ∀ c ∈ x.cps.toList, c ∈ codes) (hl : x.length ≤ 16) (ht : (x.cps.toList.map tkn).sum ≤ 16) : hW [.str x] = .own (dlD (placeQ x.cps.toList)) := by
  have hn : x.cps.toList.length = x.length := Array.length_toList
  have hw := qt hl ht
  have hwl := oD x.cps.toList 0 0
  have hwr : ∀ p ∈ (cF x.cps.toList 0 0).reverse, p.1 < 16 ∧ p.2 < 16 := fun p hp => hw p (List.mem_reverse.mp hp)
  have g := B6 hc hl
  have hr8 := qs eh mq (cF x.cps.toList 0 0).reverse hwr
  rw [List.length_reverse] at hr8
  obtain ⟨x3, x4, e1⟩ := oU bPr eh (.sh (.str x)) (.sh (.lst (wyD (cF x.cps.toList 0 0)))) (fun p acc h1 h2 h3 => Dk _ _ p h1 h2 acc h3) mq (cF x.cps.toList 0 0).reverse [] .no .no hwr (by rw [List.length_reverse]; change 0 + _ ≤ _; omega)
  rw [List.nil_append] at e1
  obtain ⟨y3, y4, e2⟩ := oU bPl fj (.sh (.str x)) (.sh (.lst (wyD (cF x.cps.toList 0 0)))) (fun p acc h1 h2 h3 => zq _ _ p h1 h2 acc h3) oh (cF x.cps.toList 0 0) ((cF x.cps.toList 0 0).reverse.map eh).flatten x3 x4 hw (by omega)
  rw [← yP] at e1
  unfold bPr at e1
  unfold bPl at e2
  unfold hW tU placeQ
  apply cQ
  apply aG
  · exact bM (dA (ay (aq rfl) aN) rfl rfl g) rfl
  apply aJ
  apply aG
  · exact eo (cX aN rfl (Nat.le_of_ble_eq_true rfl))
  apply aJ
  apply aG
  · exact fz (C6 (aq rfl) rfl) e1
  apply aJ
  apply aG
  · exact fz (ik (aq rfl) rfl rfl) e2
  apply aJ
  exact iP (hZ rfl) rfl
theorem Cs (c j : Nat) (y : Str) : i7 [.str (ch c), .int (j : Int), .str y] = .own (dlD (stQ c j y)) := by
  have e1 : gEq (.str (ch c)) (.str (Str.ofString "s")) = some (.val (.bl (decide (c = 115)))) := by rw [i9]; exact dN c 115
  have e2 := p9 c
  have e3 : gEq (.str (ch c)) (.str (Str.ofString "p")) = some (.val (.bl (decide (c = 112)))) := by rw [lD]; exact dN c 112
  have z0 : ([] : List D).length ≤ sizeLine := Nat.le_of_ble_eq_true rfl
  have t2 : ([.str "t", .str "o"] : List D).length ≤ sizeLine := Nat.le_of_ble_eq_true rfl
  unfold i7 so stQ
  by_cases h1 : c = 115
  · rw [decide_eq_true h1] at e1
    rw [if_pos h1]
    apply cQ
    apply aG
    · exact bj (bz (aC (aq rfl) ax rfl rfl e1) rfl) (cy rfl (nk (cX aN rfl z0)))
    exact lP
  · rw [decide_eq_false h1] at e1
    rw [if_neg h1]
    apply cQ
    apply aG
    · exact bj (bz (aC (aq rfl) ax rfl rfl e1) rfl) (cg rfl cx)
    apply aJ
    by_cases h2 : c = 116 ∨ c = 111
    · rw [decide_eq_true h2] at e2
      rw [if_pos h2]
      apply aG
      · exact bj (bz (aC (aq rfl) (dy (ay ax (ay ax aN)) rfl t2) rfl rfl e2) rfl) (cy rfl (nk (cX (ay (dy (ay ax (ay ax (ay (aq rfl) (ay (aq rfl) aN)))) rfl (Nat.le_of_ble_eq_true rfl)) aN) rfl (Nat.le_of_ble_eq_true rfl))))
      exact lP
    · rw [decide_eq_false h2] at e2
      rw [if_neg h2]
      apply aG
      · exact bj (bz (aC (aq rfl) (dy (ay ax (ay ax aN)) rfl t2) rfl rfl e2) rfl) (cg rfl cx)
      apply aJ
      by_cases h3 : c = 112
      · rw [decide_eq_true h3] at e3
        rw [if_pos h3]
        apply aG
        · exact bj (bz (aC (aq rfl) ax rfl rfl e3) rfl) (cy rfl (nk (cX (ay (dy (ay ax (ay ax (ay (aq rfl) (ay (aq rfl) aN)))) rfl (Nat.le_of_ble_eq_true rfl)) (ay (dy (ay ax (ay ax (ay (aq rfl) (ay (aq rfl) aN)))) rfl (Nat.le_of_ble_eq_true rfl)) (ay (dy (ay ax (ay ax (ay (aq rfl) (ay (aq rfl) aN)))) rfl (Nat.le_of_ble_eq_true rfl)) aN))) rfl (Nat.le_of_ble_eq_true rfl))))
        exact lP
      · rw [decide_eq_false h3] at e3
        rw [if_neg h3]
        apply aG
        · exact bj (bz (aC (aq rfl) ax rfl rfl e3) rfl) (cg rfl cx)
        apply aJ
        exact nk (cX (ay (dy (ay ax (ay ax (ay (aq rfl) (ay (aq rfl) aN)))) rfl (Nat.le_of_ble_eq_true rfl)) aN) rfl (Nat.le_of_ble_eq_true rfl))
theorem pG (c j : Nat) (y : Str) : (stQ c j y).length ≤ 3 := by
  unfold stQ
  split
  · exact Nat.zero_le _
  · split
    · exact Nat.le_of_ble_eq_true rfl
    · split
      · exact Nat.le_of_ble_eq_true rfl
      · exact Nat.le_of_ble_eq_true rfl
noncomputable def bWd : DM Fl := (bS 3 (aD 3 (af (ae 5) (af (ae 4) (af (ag (ae 0) (fC (.int 1)) gIx) ai))) i7))
noncomputable def prD (p : Nat × Nat) : D := .tup [.int (p.1 : Int), .str (ch p.2)]
theorem oz (r : Str × Str) (p1 p2 : Sl) : ∀ (ps : List (Nat × Nat)) (acc : List Dd) (b4 b5 : Sl), acc.length + 3 * ps.length ≤ 4000 →
    ∃ x4 x5, bD (b9 [4, 5]) bWd (ps.map prD) [.sh (av r), p1, p2, .ow (dlD acc), b4, b5] = .ok .nx [.sh (av r), p1, p2, .ow (dlD (acc ++ (ps.map fun p => stQ p.2 p.1 r.1).flatten)), x4, x5]
  | [], acc, b4, b5, _ => ⟨b4, b5, by change _ = Rs.ok Fl.nx [.sh (av r), p1, p2, .ow (dlD (acc ++ [])), b4, b5]; rw [List.append_nil]; rfl⟩
  | p :: ps, acc, b4, b5, hl => by
    rw [List.length_cons] at hl
    have hz := pG p.2 p.1 r.1
    have z : (dlD acc).length + (dlD (stQ p.2 p.1 r.1)).length ≤ sizeLine := by rw [cS, cS]; unfold sizeLine; omega
    have g := Cs p.2 p.1 r.1
    have i1 : gIx (av r) (.int 1) = some (.val (.str r.1)) := rfl
    obtain ⟨x4, x5, e⟩ := oz r p1 p2 ps (acc ++ stQ p.2 p.1 r.1) (.sh (.int (p.1 : Int))) (.sh (.str (ch p.2))) (by rw [List.length_append]; omega)
    refine ⟨x4, x5, ?_⟩
    rw [List.map_cons, List.map_cons, List.flatten_cons, ← List.append_assoc]
    refine cB (δ1 := [.sh (av r), p1, p2, .ow (dlD acc), .sh (.int (p.1 : Int)), .sh (.str (ch p.2))]) rfl ?_ e
    rw [ij]
    exact fh (i := 3) (ds0 := dlD acc) (ds := dlD acc) rfl (dA (ay (aq rfl) (ay (aq rfl) (ay (aC (aq rfl) ax rfl rfl i1) aN))) rfl rfl g) rfl rfl z
noncomputable def cR : Nat → List Nat → List (Nat × Nat)
  | _, [] => []
  | j, c :: w => (j, c) :: cR (j + 1) w
noncomputable def gv : List Nat → List (Nat × Nat)
  | [] => []
  | c :: w => (w.length, c) :: gv w
theorem pO : ∀ (w : List Nat) (j : Nat), jU j w = (cR j w).map prD
  | [], _ => rfl
  | c :: w, j => by
    change _ :: jU (j + 1) w = _ :: (cR (j + 1) w).map prD
    rw [pO w]; rfl
theorem qD : ∀ (w : List Nat) (j : Nat), (cR j w).length = w.length
  | [], _ => rfl
  | c :: w, j => by change (cR (j + 1) w).length + 1 = w.length + 1; rw [qD w]
theorem sr : ∀ (w : List Nat) (j c : Nat), cR j (w ++ [c]) = cR j w ++ [(j + w.length, c)]
  | [], j, c => rfl
  | d :: w, j, c => by
    change (j, d) :: cR (j + 1) (w ++ [c]) = (j, d) :: (cR (j + 1) w ++ [(j + (w.length + 1), c)])
    rw [sr w, show j + 1 + w.length = j + (w.length + 1) by omega]
theorem oK : ∀ V : List Nat, (cR 0 V.reverse).reverse = gv V
  | [] => rfl
  | c :: V => by
    rw [List.reverse_cons, sr, List.reverse_append, oK V, List.length_reverse, Nat.zero_add]
    rfl
theorem qV (y : Str) : ∀ (w : List Nat) (j : Nat), ((cR j w).map fun p => stQ p.2 p.1 y).flatten = jI y j w
  | [], _ => rfl
  | c :: w, j => by
    change stQ c j y ++ ((cR (j + 1) w).map fun p => stQ p.2 p.1 y).flatten = stQ c j y ++ jI y (j + 1) w
    rw [qV y w]
theorem sd (y : Str) : ∀ w : List Nat, ((gv w).map fun p => stQ p.2 p.1 y).flatten = jJ y w
  | [] => rfl
  | c :: w => by
    change stQ c w.length y ++ ((gv w).map fun p => stQ p.2 p.1 y).flatten = stQ c w.length y ++ jJ y w
    rw [sd y w]
theorem xU (r : Str × Str) (b : Bool) (hl : r.2.length ≤ 16) : gP [av r, .bl b] = .own (dlD (jM r.2.cps.toList r.1 b)) := by
  have hn : r.2.cps.toList.length = r.2.length := Array.length_toList
  have hq : lE (.str r.2) = some (.own ((cR 0 r.2.cps.toList).map prD)) := by
    rw [xa (by change r.2.length ≤ _; unfold sizeLine; omega), pO]
  have i2 : gIx (av r) (.int 2) = some (.val (.str r.2)) := rfl
  have hnl := qD r.2.cps.toList 0
  unfold gP vk jM
  cases b with
  | false =>
    obtain ⟨x4, x5, e⟩ := oz r (.sh (.bl false)) (.sh (.lst ((cR 0 r.2.cps.toList).map prD))) (cR 0 r.2.cps.toList) [] .no .no (by rw [hnl, hn]; change 0 + _ ≤ _; omega)
    rw [List.nil_append, qV] at e
    unfold bWd at e
    apply cQ
    apply aG
    · exact eo (fw (aC (aq rfl) ax rfl rfl i2) rfl hq)
    apply aJ
    apply aG
    · exact bj (bz (aq rfl) rfl) (cg rfl cx)
    apply aJ
    apply aG
    · exact eo (cX aN rfl (Nat.le_of_ble_eq_true rfl))
    apply aJ
    apply aG
    · exact fz (ik (aq rfl) rfl rfl) e
    apply aJ
    exact iP (hZ rfl) rfl
  | true =>
    have hr : ((cR 0 r.2.cps.toList).map prD).reverse = (gv r.2.cps.toList.reverse).map prD := by
      rw [← List.map_reverse]
      have := oK r.2.cps.toList.reverse
      rw [List.reverse_reverse] at this
      rw [this]
    have hrl : (gv r.2.cps.toList.reverse).length = r.2.length := by
      have := oK r.2.cps.toList.reverse
      rw [List.reverse_reverse] at this
      rw [← this, List.length_reverse, hnl, hn]
    obtain ⟨x4, x5, e⟩ := oz r (.sh (.bl true)) (.sh (.lst ((gv r.2.cps.toList.reverse).map prD))) (gv r.2.cps.toList.reverse) [] .no .no (by rw [hrl]; change 0 + _ ≤ _; omega)
    rw [List.nil_append, sd] at e
    unfold bWd at e
    have srev : (fIf (au (ae 1)) (eQ 2) aO) [.sh (av r), .sh (.bl true), .ow ((cR 0 r.2.cps.toList).map prD), .no, .no, .no] = .ok .nx [.sh (av r), .sh (.bl true), .ow ((gv r.2.cps.toList.reverse).map prD), .no, .no, .no] := by
      rw [← hr]
      exact bj (bz (aq rfl) rfl) (cy rfl (vv rfl))
    apply cQ
    apply aG
    · exact eo (fw (aC (aq rfl) ax rfl rfl i2) rfl hq)
    apply aJ
    apply aG
    · exact srev
    apply aJ
    apply aG
    · exact eo (cX aN rfl (Nat.le_of_ble_eq_true rfl))
    apply aJ
    apply aG
    · exact fz (ik (aq rfl) rfl rfl) e
    apply aJ
    exact iP (hZ rfl) rfl
end Lw
namespace Lw
open PySem L2 DL
noncomputable def gE : Bool → List (Str × Str) → List Dd
  | _, [] => []
  | b, r :: rs => iS r.2.cps.toList r.1 b ++ gE (!b) rs
theorem uk (y : Str) : ∀ (w : List Nat) (j : Nat), (jI y j w).length ≤ 3 * w.length
  | [], _ => Nat.le_refl _
  | c :: w, j => by
    change (stQ c j y ++ jI y (j + 1) w).length ≤ _
    rw [List.length_append, List.length_cons]
    have := pG c j y
    have := uk y w (j + 1)
    omega
theorem pP (y : Str) : ∀ w : List Nat, (jJ y w).length ≤ 3 * w.length
  | [] => Nat.le_refl _
  | c :: w => by
    change (stQ c w.length y ++ jJ y w).length ≤ _
    rw [List.length_append, List.length_cons]
    have := pG c w.length y
    have := pP y w
    omega
theorem yp (fq : Nat × Nat → List Dd) (ps : List (Nat × Nat)) : ((ps.reverse.map fq).flatten).length = ((ps.map fq).flatten).length := by
  rw [List.length_flatten, List.length_flatten, List.map_reverse, List.map_reverse, List.sum_reverse]
theorem qM : ∀ ps : List (Nat × Nat), (∀ p ∈ ps, p.1 < 16 ∧ p.2 < 16) → ((ps.map eh).flatten).length + ((ps.map fj).flatten).length ≤ 8 * ps.length
  | [], _ => Nat.le_refl _
  | p :: ps, h => by
    have ih := qM ps fun c hc => h c (List.mem_cons_of_mem _ hc)
    obtain ⟨h1, h2⟩ := h p List.mem_cons_self
    rw [List.map_cons, List.map_cons, List.flatten_cons, List.flatten_cons, List.length_append, List.length_append, List.length_cons]
    have : (eh p).length + (fj p).length ≤ 8 := by
      have a1 := mq p h1 h2
      have a2 := oh p h1 h2
      unfold eh fj at *
      by_cases q : p.1 < p.2
      · rw [if_neg (show ¬ p.1 > p.2 by omega)] at *
        change _ + 0 ≤ 8
        omega
      · rw [if_neg q] at *
        change 0 + _ ≤ 8
        omega
    omega
theorem tS {x : Str} (hl : x.length ≤ 16) (ht : (x.cps.toList.map tkn).sum ≤ 16) : (placeQ x.cps.toList).length ≤ 128 := by
  have hn : x.cps.toList.length = x.length := Array.length_toList
  have hw := qt hl ht
  have hwl := oD x.cps.toList 0 0
  have h1 := qM (cF x.cps.toList 0 0) hw
  unfold placeQ
  rw [List.length_append, yp]
  omega
theorem uZ (w : List Nat) (y : Str) (b : Bool) : (jM w y b).length ≤ 3 * w.length := by
  unfold jM
  split
  · have := pP y w.reverse
    rwa [List.length_reverse] at this
  · exact uk y w 0
theorem wJ {x : Str} (y : Str) (b : Bool) (hl : x.length ≤ 16) (ht : (x.cps.toList.map tkn).sum ≤ 16) : (iS x.cps.toList y b).length ≤ 208 := by
  have hn : x.cps.toList.length = x.length := Array.length_toList
  have h1 := pE x.cps.toList 0
  have h2 := tS hl ht
  have h3 := uZ x.cps.toList y b
  unfold iS
  rw [List.length_append, List.length_append]
  omega
theorem xM (many : Int) (y : Str) (n : Nat) (hn : n ≤ 100) : cf (bg 0) (.ret true) (aY (af (fC (.str "tuck")) (af (fC (.str "f")) (af (ae 0) (af (ag (ae 1) (fC (.int 2)) gIx) ai))))) (bK 0 n) [.no, .sh (aL many y)] [] = some (dlD (dX y n)) := by
  have i2 : gIx (aL many y) (.int 2) = some (.val (.str y)) := rfl
  rw [comp_map (g := fun d => .tup [.str "tuck", .str "f", d, .str y]) _ .no (by rw [iC]; unfold sizeLine; omega) ?_]
  · unfold bK dlD dX
    rw [List.map_map, List.map_map]
    congr 1
    apply List.map_congr_left
    intro k _
    change D.tup [.str "tuck", .str "f", .int (0 + (k : Int)), .str y] = D.tup [.str "tuck", .str "f", .int (k : Int), .str y]
    rw [Int.zero_add]
  · intro d _
    have e := dy (ay (ax (d := .str "tuck")) (ay (ax (d := .str "f")) (ay (aq (i := 0) (δ := [.sh d, .sh (aL many y)]) rfl) (ay (aC (aq (i := 1) rfl) ax rfl rfl i2) aN)))) rfl (Nat.le_of_ble_eq_true rfl)
    unfold fN DM.bd
    rw [e]
    rfl
noncomputable def nh : DM Fl := (ak (bS 2 (aD 1 (af (ag (ae 4) (fC (.int 2)) gIx) ai) h9))
    (ak (bS 2 (aD 1 (af (ag (ae 4) (fC (.int 2)) gIx) ai) hW))
    (ak (bS 2 (aD 2 (af (ae 4) (af (ae 3) ai)) gP))
    (aF 3 (gk (ae 3))))))
theorem Dc (p0 p1 : Sl) (r : Str × Str) (b : Bool) (acc : List Dd) (hc : ∀ c ∈ r.2.cps.toList, c ∈ codes) (hl : r.2.length ≤ 16) (ht : (r.2.cps.toList.map tkn).sum ≤ 16) (ha : acc.length ≤ 20000) :
    nh [p0, p1, .ow (dlD acc), .sh (.bl b), .sh (av r)] = .ok .nx [p0, p1, .ow (dlD (acc ++ iS r.2.cps.toList r.1 b)), .sh (.bl (!b)), .sh (av r)] := by
  have hn : r.2.cps.toList.length = r.2.length := Array.length_toList
  have i2 : gIx (av r) (.int 2) = some (.val (.str r.2)) := rfl
  have g1 := yO hc hl
  have g2 := BP hc hl ht
  have g3 := xU r b hl
  have l1 := pE r.2.cps.toList 0
  have l2 := tS hl ht
  have l3 := uZ r.2.cps.toList r.1 b
  unfold iS
  rw [← List.append_assoc, ← List.append_assoc]
  generalize gT r.2.cps.toList 0 = q1 at *
  generalize placeQ r.2.cps.toList = q2 at *
  generalize jM r.2.cps.toList r.1 b = q3 at *
  have z1 : (dlD acc).length + (dlD q1).length ≤ sizeLine := by rw [cS, cS]; unfold sizeLine; omega
  have z2 : (dlD (acc ++ q1)).length + (dlD q2).length ≤ sizeLine := by rw [cS, cS, List.length_append]; unfold sizeLine; omega
  have z3 : (dlD (acc ++ q1 ++ q2)).length + (dlD q3).length ≤ sizeLine := by rw [cS, cS, List.length_append, List.length_append]; unfold sizeLine; omega
  have s1 : (bS 2 (aD 1 (af (ag (ae 4) (fC (.int 2)) gIx) ai) h9)) [p0, p1, .ow (dlD acc), .sh (.bl b), .sh (av r)] = .ok .nx [p0, p1, .ow (dlD (acc ++ q1)), .sh (.bl b), .sh (av r)] := by
    rw [ij]
    exact fh (i := 2) (ds0 := dlD acc) (ds := dlD acc) rfl (dA (ay (aC (aq rfl) ax rfl rfl i2) aN) rfl rfl g1) rfl rfl z1
  have s2 : (bS 2 (aD 1 (af (ag (ae 4) (fC (.int 2)) gIx) ai) hW)) [p0, p1, .ow (dlD (acc ++ q1)), .sh (.bl b), .sh (av r)] = .ok .nx [p0, p1, .ow (dlD (acc ++ q1 ++ q2)), .sh (.bl b), .sh (av r)] := by
    rw [ij (acc ++ q1) q2]
    exact fh (i := 2) (ds0 := dlD (acc ++ q1)) (ds := dlD (acc ++ q1)) rfl (dA (ay (aC (aq rfl) ax rfl rfl i2) aN) rfl rfl g2) rfl rfl z2
  have s3 : (bS 2 (aD 2 (af (ae 4) (af (ae 3) ai)) gP)) [p0, p1, .ow (dlD (acc ++ q1 ++ q2)), .sh (.bl b), .sh (av r)] = .ok .nx [p0, p1, .ow (dlD (acc ++ q1 ++ q2 ++ q3)), .sh (.bl b), .sh (av r)] := by
    rw [ij (acc ++ q1 ++ q2) q3]
    exact fh (i := 2) (ds0 := dlD (acc ++ q1 ++ q2)) (ds := dlD (acc ++ q1 ++ q2)) rfl (dA (ay (aq rfl) (ay (aq rfl) aN)) rfl rfl g3) rfl rfl z3
  have s4 : (aF 3 (gk (ae 3))) [p0, p1, .ow (dlD (acc ++ q1 ++ q2 ++ q3)), .sh (.bl b), .sh (av r)] = .ok .nx [p0, p1, .ow (dlD (acc ++ q1 ++ q2 ++ q3)), .sh (.bl (!b)), .sh (av r)] := bM (vf (aq rfl) rfl) rfl
  unfold nh
  exact aG s1 (aJ (aG s2 (aJ (aG s3 (aJ s4)))))
theorem tO (p0 p1 : Sl) : ∀ (rs : List (Str × Str)) (b : Bool) (cs : List Int) (acc : List Dd) (b4 : Sl), cZ cs rs → cs.length ≤ 16 → acc.length + 208 * rs.length ≤ 20000 →
    ∃ x3 x4, bD (bg 4) nh (rs.map av) [p0, p1, .ow (dlD acc), .sh (.bl b), b4] = .ok .nx [p0, p1, .ow (dlD (acc ++ gE b rs)), x3, x4]
  | [], b, cs, acc, b4, _, _, _ => ⟨_, b4, by change _ = Rs.ok Fl.nx [p0, p1, .ow (dlD (acc ++ [])), _, b4]; rw [List.append_nil]; rfl⟩
  | r :: rs, b, cs, acc, b4, h, hk, hl => by
    obtain ⟨h1, h2, h3, h4⟩ := h
    rw [List.length_cons] at hl
    have hn : r.2.cps.toList.length = r.2.length := Array.length_toList
    have hc := gM h3
    have ht : (r.2.cps.toList.map tkn).sum ≤ 16 := by have := nA h3; rw [List.length_nil] at this; omega
    have hq := wJ r.1 b h1 ht
    obtain ⟨x3, x4, e⟩ := tO p0 p1 rs (!b) (outs r.2.cps.toList cs) (acc ++ iS r.2.cps.toList r.1 b) (.sh (av r)) h4 (by rw [jd, hn]; exact h1) (by rw [List.length_append]; omega)
    refine ⟨x3, x4, ?_⟩
    change _ = Rs.ok Fl.nx [p0, p1, .ow (dlD (acc ++ (iS r.2.cps.toList r.1 b ++ gE (!b) rs))), x3, x4]
    rw [← List.append_assoc, List.map_cons]
    exact cB rfl (Dc p0 p1 r b acc hc h1 ht (by omega)) e
theorem xS (c : D) (q : List D) : dP (.lst (c :: q)) (some 1) none = some (.own q) := by
  rw [hX]
  unfold cutD
  have a1 : HT.sIx (c :: q).length 0 (some 1) = 1 := by
    have := HT.gb (c :: q).length 0 1
    rw [List.length_cons] at this ⊢
    exact this.trans (by omega)
  rw [a1, HT.kR]
  change some (DV.own (List.take _ q)) = _
  rw [List.take_of_length_le (by rw [List.length_cons]; omega)]
theorem wQ {many : Int} {y : Str} {rs : List (Str × Str)} (h1 : 1 ≤ many) (h2 : many ≤ 16) (hr : cZ (List.replicate many.toNat 1) rs) (hn : rs.length ≤ 20) :
    eH [.lst (aL many y :: rs.map av)] = .own (dlD (dX y many.toNat ++ gE true rs)) := by
  have g0 : gIx (.lst (aL many y :: rs.map av)) (.int 0) = some (.val (aL many y)) := iz
  have gN := sO (y := y) h1 h2 hr hn
  have g3 := xS (aL many y) (rs.map av)
  have g4 := xM many y many.toNat (by omega)
  have g6 : gB many = true := jq (by omega) (by omega)
  have g8 : gIx (aL many y) (.int 1) = some (.val (.int many)) := rfl
  have hcl : (dX y many.toNat).length = many.toNat := by unfold dX; rw [List.length_map, List.length_range]
  obtain ⟨x3, x4, e⟩ := tO (.sh (.lst (aL many y :: rs.map av))) (.sh (aL many y)) rs true (List.replicate many.toNat 1) (dX y many.toNat) .no hr (by rw [List.length_replicate]; omega) (by rw [hcl]; omega)
  unfold nh at e
  unfold eH n0
  apply qE
  apply aG
  · exact qq (d6 (ay (aq rfl) aN) rfl rfl gN)
  apply aJ
  apply aG
  · exact bM (aC (aq rfl) ax rfl rfl g0) rfl
  apply aJ
  apply aG
  · exact eo (kj (jW (ay (aC (aq rfl) ax rfl rfl g8) aN) rfl g6) g4)
  apply aJ
  apply aG
  · exact bM ax rfl
  apply aJ
  apply aG
  · exact fz (ik (lu (aq rfl) (lN ax rfl) lA rfl g3) rfl rfl) e
  apply aJ
  exact iP (hZ rfl) rfl
end Lw
namespace DL
open PySem L2
theorem vK {f : DM DV} {δ : DSt} {c : Str} (h : f δ = .er c) : gQ f δ = .er c := by unfold gQ DM.bd; simp only [h]
end DL
namespace Lw
open PySem L2 DL
noncomputable def aft : List Int → List (Str × Str) → List Int
  | cs, [] => cs
  | cs, r :: rs => aft (outs r.2.cps.toList cs) rs
theorem yj {x : Str} {cs : List Int} (hx : x.length ≤ 16) (hl : cs.length ≤ 100) (h : bw x.cps.toList cs []) : bZ x.cps.toList cs = .non := by
  have a := tZ hx hl h
  have b := sC (gM h) (show x.length ≤ 100 by omega) hl
  rw [a] at b
  injection b with b
  exact b.symm
theorem pN {bad : Str × Str} {tl : List (Str × Str)} {z : Str} : ∀ (rs : List (Str × Str)) (n : Int) (cs ws : List Int), cs.length ≤ 100 → cZ cs rs → bZ bad.2.cps.toList (aft cs rs) = .str z → ∃ m, gG n cs ws (rs ++ bad :: tl) = .tup [.str z, .int m]
  | [], n, cs, ws, _, _, h => ⟨n, by
      show (match bZ bad.2.cps.toList cs with | .non => _ | f => _) = _
      rw [show bZ bad.2.cps.toList cs = .str z from h]⟩
  | r :: rs, n, cs, ws, hl, ⟨h1, h2, h3, h4⟩, h => by
    have hf := yj h1 hl h3
    have hol := jd r.2.cps.toList cs
    have hrl : r.2.cps.toList.length = r.2.length := by simp [Str.length]
    obtain ⟨m, e⟩ := pN (bad := bad) (tl := tl) rs (n + 1) (outs r.2.cps.toList cs) (ws ++ [(r.2.length : Int)]) (by omega) h4 h
    refine ⟨m, ?_⟩
    rw [← e]
    show (match bZ r.2.cps.toList cs with | .non => _ | f => _) = _
    rw [hf]
    rfl
theorem pQ : ∀ {rs : List (Str × Str)} {cs : List Int}, cZ cs rs → ∀ r ∈ rs, eC r
  | [], _, _, _, h => by cases h
  | r :: rs, cs, ⟨h1, h2, h3, h4⟩, q, h => by
    rcases List.mem_cons.mp h with z | z
    · rw [z]; exact ⟨gM h3, by omega⟩
    · exact pQ h4 q z
theorem wj {many : Int} {y z : Str} {rs tl : List (Str × Str)} {bad : Str × Str} (h1 : 1 ≤ many) (h2 : many ≤ 16) (hr : cZ (List.replicate many.toNat 1) rs) (hb : eC bad) (ht : ∀ r ∈ tl, eC r) (hn : rs.length + 1 + tl.length ≤ 20)
    (hz : bZ bad.2.cps.toList (aft (List.replicate many.toNat 1) rs) = .str z) (hg : z ≠ Str.ofString "good") : dS [.lst (aL many y :: (rs ++ bad :: tl).map av)] = .er "Unfit" := by
  have g1 := yw (y := y) (rs := rs ++ bad :: tl) h1 h2 (fun r h => by
    rcases List.mem_append.mp h with q | q
    · exact pQ hr r q
    · rcases List.mem_cons.mp q with q | q
      · rw [q]; exact hb
      · exact ht r q) (by rw [List.length_append, List.length_cons]; omega)
  obtain ⟨m, e⟩ := pN (bad := bad) (tl := tl) rs 1 (List.replicate many.toNat 1) [many] (by rw [List.length_replicate]; omega) hr hz
  rw [show lY many (rs ++ bad :: tl) = .tup [.str z, .int m] from e] at g1
  have g2 : gNe (.str z) (.str (Str.ofString "good")) = some (.val (.bl true)) := by
    have q : gNe (.str z) (.str (Str.ofString "good")) = some (.val (.bl (!decide (z = Str.ofString "good")))) := gr rfl
    rw [q, decide_eq_false hg]; rfl
  unfold dS oq
  exact nQ (bj (bz (aC (aC (d6 (ay (aq rfl) aN) rfl rfl g1) ax rfl rfl (sZ (nM _ _))) ax rfl rfl g2) rfl) (cy rfl (zY rfl)))
theorem vN {P : List D} (h : dS [.lst P] = .er "Unfit") : ey [.lst P] = .er "Unfit" := by
  unfold ey pL
  exact nQ (tX (vK (vA (ay (aq rfl) aN) rfl rfl h)))
theorem AH {P : List D} (h : dS [.lst P] = .er "Unfit") : eH [.lst P] = .er "Unfit" := by
  unfold eH n0
  exact nQ (tX (vK (vA (ay (aq rfl) aN) rfl rfl h)))
noncomputable def hU : Str → DM Fl := (fun c => match lQ c with | some true => fun δ => kG 2 ((ak (fIf (bO (cH (au (fUn (ae 2) (dw kY)))) (cH (au (fUn (ae 2) (dw mW))))) (aI (fC (.bl false))) aO) (fIf (bO (au (fUn (ae 2) (dw lp))) (au (fUn (ae 2) (dw lC)))) (aI (fC (.bl false))) aO)) (δ.set 2 (.sh (.exc c)))) | some false => (fun _ _ => .un) c | none => fun _ => .un)
theorem wx (s0 s1 : Sl) : hU "Unfit" [s0, s1, .no] = .ok .nx [s0, s1, .no] := by kernel_rfl
theorem twice {P : List D} {M : List D → Ro} (h : M [.lst P] = .er "Unfit") : (b0 (dv (af (fC (.int 2)) ai)) (bg 1) (iT (gO 1 (af (fCB (af (ae 0) ai) d4) ai) M) (aI (fC (.bl false))) hU)) [.sh (.lst P), .no, .no] = .ok .nx [.sh (.lst P), .sh (.int 1), .no] := by
  have turn : ∀ s1, (iT (gO 1 (af (fCB (af (ae 0) ai) d4) ai) M) (aI (fC (.bl false))) hU) [.sh (.lst P), s1, .no] = .ok .nx [.sh (.lst P), s1, .no] := fun s1 =>
    CG (zg (ay (dE (ay (aq rfl) aN) rfl rfl) aN) rfl rfl h) (wx _ _)
  refine fz (jW (ay ax aN) rfl rfl) ?_
  change bD _ _ [.int 0, .int 1] _ = _
  exact cB rfl (turn _) (cB rfl (turn _) rfl)
theorem zO {P : List D} (h : ey [.lst P] = .er "Unfit") : gS [.lst P] = .ok (.bl true) := by
  have e := twice h
  unfold hU at e
  unfold gS qv
  exact dM (aG e (aJ (eX ax gz)))
theorem yo {P : List D} (h : eH [.lst P] = .er "Unfit") : gU [.lst P] = .ok (.bl true) := by
  have e := twice h
  unfold hU at e
  unfold gU u0
  exact dM (aG e (aJ (eX ax gz)))
noncomputable def T4 (w : Int) : Nat → Str
  | 0 => Txt.mul (Str.ofString "s") 17
  | 1 => Txt.mul (Str.ofString "ko") 12
  | 2 => Txt.mul (Str.ofString "o") 24
  | _ => Txt.mul (Str.ofString "k") w ++ Txt.mul (Str.ofString "o") 20
noncomputable def mw (x : Str) : Bool := x.cps.toList.all (fun c => decide (c ∈ codes)) && decide (x.length ≤ 100)
noncomputable def la (x : Str) (w : Nat) : Bool := mw x && !(decide (x.length ≤ 16) && decide ((x.cps.toList.map tkn).sum = w))
theorem CL : ∀ n, n < 16 → ∀ j, j < 4 → (la (Txt.slice (T4 ((n + 1 : Nat) : Int) j) none (some 24)) (n + 1) && decide ((T4 ((n + 1 : Nat) : Int) j).length ≤ 1000)) = true := by decide +kernel
theorem yD : ∀ n, n < 16 → la (Txt.mul (Str.ofString "k") (((n + 1 : Nat) : Int) + 1)) (n + 1) = true := by decide +kernel
theorem An : ∀ n, n < 16 → (la (Str.ofString "o" ++ Txt.mul (Str.ofString "p") (imax 0 (((n + 1 : Nat) : Int) - 1))) (n + 1) && decide ((Txt.mul (Str.ofString "p") (imax 0 (((n + 1 : Nat) : Int) - 1))).length ≤ 100) && decide ((Txt.mul (Str.ofString "k") ((n + 1 : Nat) : Int)).length + (Txt.mul (Str.ofString "o") 20).length ≤ 1000)) = true := by decide +kernel
theorem nI {x : Str} (h : mw x = true) (y : Str) : eC (y, x) := by
  obtain ⟨a, b⟩ := Bool.and_eq_true_iff.mp h
  exact ⟨fun c hc => of_decide_eq_true (List.all_eq_true.mp a c hc), of_decide_eq_true b⟩
theorem Dp {x : Str} {w : Nat} {cs : List Int} (h : la x w = true) (hw : cs.length = w) (y : Str) : eC (y, x) ∧ ∃ z, bZ x.cps.toList cs = .str z ∧ z ≠ Str.ofString "good" := by
  obtain ⟨a, b⟩ := Bool.and_eq_true_iff.mp h
  have l := nI a y
  refine ⟨l, ?_⟩
  rcases nY x.cps.toList cs with hf | hf
  · have l1 : ∀ c ∈ x.cps.toList, c ∈ codes := l.1
    obtain ⟨e, hl⟩ := kQ l1 hf
    have hrl : x.cps.toList.length = x.length := by simp [Str.length]
    have es := nA e
    rw [List.length_nil, Nat.add_zero] at es
    rw [decide_eq_true (show x.length ≤ 16 by omega), decide_eq_true (show (x.cps.toList.map tkn).sum = w by omega)] at b
    cases b
  · exact hf
end Lw
namespace Lw
open PySem L2 DL
theorem Bo (c : Int) (n : Nat) (hn : n < 16) : (∃ x, gR [.int c, .int ((n + 1 : Nat) : Int)] = .ok (.str x) ∧ la x (n + 1) = true) ∨ gR [.int c, .int ((n + 1 : Nat) : Int)] = .ok .non := by
  obtain ⟨p1, p3⟩ := Bool.and_eq_true_iff.mp (An n hn)
  obtain ⟨p1, p2⟩ := Bool.and_eq_true_iff.mp p1
  have p2 := of_decide_eq_true p2
  have p3 := of_decide_eq_true p3
  have k1 := yD n hn
  have t4 := CL n hn
  have w1 : 1 ≤ ((n + 1 : Nat) : Int) := by omega
  have w2 : ((n + 1 : Nat) : Int) ≤ 16 := by omega
  generalize ((n + 1 : Nat) : Int) = w at *
  have q : ∀ j : Int, gEq (.int (c % 4)) (.int j) = some (.val (.bl (decide (c % 4 = j)))) := fun j => gH rfl
  have s2 : (aF 2 (ag (ae 0) (fC (.int 4)) bc)) [.sh (.int c), .sh (.int w), .no, .no] = .ok .nx [.sh (.int c), .sh (.int w), .sh (.int (c % 4)), .no] := bM (aC (aq rfl) ax rfl rfl (eO rfl)) rfl
  have t : ∀ j : Int, (au (ag (ae 2) (fC (.int j)) gEq)) [.sh (.int c), .sh (.int w), .sh (.int (c % 4)), .no] = .ok (decide (c % 4 = j)) [.sh (.int c), .sh (.int w), .sh (.int (c % 4)), .no] := fun j => bz (aC (aq rfl) ax rfl rfl (q j)) rfl
  unfold gR um
  by_cases h0 : c % 4 = 0
  · left
    have t0 := t 0
    rw [decide_eq_true h0] at t0
    obtain ⟨j, hj, ej⟩ : ∃ j : Nat, j < 4 ∧ c / 4 % 4 = (j : Int) := ⟨(c / 4 % 4).toNat, by omega, by omega⟩
    obtain ⟨ck, cl⟩ := Bool.and_eq_true_iff.mp (t4 j hj)
    have cl := of_decide_eq_true cl
    have m1 : aQ (.str (Str.ofString "s")) (.int 17) = some (.val (.str (T4 w 0))) := cC (by omega) (by omega) (by decide +kernel)
    have m2 : aQ (.str (Str.ofString "ko")) (.int 12) = some (.val (.str (T4 w 1))) := cC (by omega) (by omega) (by decide +kernel)
    have m3 : aQ (.str (Str.ofString "o")) (.int 24) = some (.val (.str (T4 w 2))) := cC (by omega) (by omega) (by decide +kernel)
    have m4 : aQ (.str (Str.ofString "k")) (.int w) = some (.val (.str (Txt.mul (Str.ofString "k") w))) := cC (by omega) (by omega) (by decide +kernel)
    have m5 : aQ (.str (Str.ofString "o")) (.int 20) = some (.val (.str (Txt.mul (Str.ofString "o") 20))) := cC (by omega) (by omega) (by decide +kernel)
    have m6 : aK (.str (Txt.mul (Str.ofString "k") w)) (.str (Txt.mul (Str.ofString "o") 20)) = some (.val (.str (T4 w 3))) := iH (by unfold sizeLine; omega)
    have gi : gIx (.lst [.str (T4 w 0), .str (T4 w 1), .str (T4 w 2), .str (T4 w 3)]) (.int (c / 4 % 4)) = some (.val (.str (T4 w j))) := by
      rw [ej]
      have : j = 0 ∨ j = 1 ∨ j = 2 ∨ j = 3 := by omega
      rcases this with rfl | rfl | rfl | rfl <;> rfl
    have gs : dP (.str (T4 w j)) none (some 24) = some (.val (.str (Txt.slice (T4 w j) none (some 24)))) := if_pos (by unfold sizeLine; omega)
    refine ⟨Txt.slice (T4 w j) none (some 24), ?_, ck⟩
    refine dM (aG s2 (aJ (aG (bj t0 (cy rfl (aG (R1 := .ok .nx [.sh (.int c), .sh (.int w), .sh (.int (c % 4)), .sh (.lst [.str (T4 w 0), .str (T4 w 1), .str (T4 w 2), .str (T4 w 3)])]) ?_ (aJ (eX (lu (aC (aq rfl) (aC (aC (aq rfl) ax rfl rfl (iL rfl)) ax rfl rfl (eO rfl)) rfl rfl gi) lA (lN ax rfl) rfl gs) gz))))) jK)))
    exact bM (cX (ay (aC ax ax rfl rfl m1) (ay (aC ax ax rfl rfl m2) (ay (aC ax ax rfl rfl m3) (ay (aC (aC ax (aq rfl) rfl rfl m4) (aC ax ax rfl rfl m5) rfl rfl m6) aN)))) rfl (by change 4 ≤ sizeLine; unfold sizeLine; omega)) rfl
  · have t0 := t 0
    rw [decide_eq_false h0] at t0
    by_cases h1 : c % 4 = 1
    · left
      have t1 := t 1
      rw [decide_eq_true h1] at t1
      have m1 : aQ (.str (Str.ofString "k")) (.int (w + 1)) = some (.val (.str (Txt.mul (Str.ofString "k") (w + 1)))) := cC (by omega) (by omega) (by decide +kernel)
      exact ⟨_, dM (aG s2 (aJ (aG (bj t0 (cg rfl cx)) (aJ (aG (bj t1 (cy rfl (eX (aC ax (aC (aq rfl) ax rfl rfl kJ) rfl rfl m1) gz))) jK))))), k1⟩
    · have t1 := t 1
      rw [decide_eq_false h1] at t1
      by_cases h2 : c % 4 = 2
      · left
        have t2 := t 2
        rw [decide_eq_true h2] at t2
        have m1 : aQ (.str (Str.ofString "p")) (.int (imax 0 (w - 1))) = some (.val (.str (Txt.mul (Str.ofString "p") (imax 0 (w - 1))))) := cC (by unfold imax; split <;> omega) (by unfold imax; split <;> omega) (by decide +kernel)
        have m2 : aK (.str (Str.ofString "o")) (.str (Txt.mul (Str.ofString "p") (imax 0 (w - 1)))) = some (.val (.str (Str.ofString "o" ++ Txt.mul (Str.ofString "p") (imax 0 (w - 1))))) := iH (by
          have : (Str.ofString "o").length ≤ 100 := by decide +kernel
          unfold sizeLine; omega)
        have m3 : jX [.int 0, .int (w - 1)] = some (.val (.int (imax 0 (w - 1)))) := rfl
        exact ⟨_, dM (aG s2 (aJ (aG (bj t0 (cg rfl cx)) (aJ (aG (bj t1 (cg rfl cx)) (aJ (aG (bj t2 (cy rfl (eX (aC ax (aC ax (dE (ay ax (ay (aC (aq rfl) ax rfl rfl rfl) aN)) rfl m3) rfl rfl m1) rfl rfl m2) gz))) jK))))))), p1⟩
      · right
        have t2 := t 2
        rw [decide_eq_false h2] at t2
        exact dM (aG s2 (aJ (aG (bj t0 (cg rfl cx)) (aJ (aG (bj t1 (cg rfl cx)) (aJ (aG (bj t2 (cg rfl cx)) (aJ (eX ax gz)))))))))
noncomputable def d5 (m a : Int) : Str := Txt.mul (Str.ofString "s") a ++ Str.ofString "t" ++ Txt.mul (Str.ofString "s") (m - 1 - a)
noncomputable def mU (m f : Int) (l : Str) : Str := Txt.mul (Str.ofString "s") f ++ l ++ Txt.mul (Str.ofString "k") (m - 2 - f)
noncomputable def isN : D → Bool
  | .non => true
  | _ => false
noncomputable def ju (m : Nat) (R last : Str) : Bool :=
  isN (bZ R.cps.toList (List.replicate m 1)) && (isN (bZ R.cps.toList (outs R.cps.toList (List.replicate m 1))) && (isN (bZ R.cps.toList (outs R.cps.toList (outs R.cps.toList (List.replicate m 1)))) &&
  (!isN (bZ last.cps.toList (outs R.cps.toList (outs R.cps.toList (outs R.cps.toList (List.replicate m 1))))) && (mw R && (mw last && decide (1 ≤ R.length))))))
noncomputable def wb (m a : Int) : Bool := decide ((Txt.mul (Str.ofString "s") a).length ≤ 100) && decide ((Txt.mul (Str.ofString "s") (m - 1 - a)).length ≤ 100)
noncomputable def Cj (m f : Int) : Bool := decide ((Txt.mul (Str.ofString "s") f).length ≤ 100) && decide ((Txt.mul (Str.ofString "k") (m - 2 - f)).length ≤ 100)
theorem Ai : ∀ m : Nat, m < 16 → ∀ a : Nat, a < m + 1 → (ju (m + 1) (d5 ((m + 1 : Nat) : Int) (a : Int)) (d5 ((m + 1 : Nat) : Int) (a : Int)) && wb ((m + 1 : Nat) : Int) (a : Int)) = true := by decide +kernel
theorem CS : ∀ m : Nat, m < 15 → ∀ a : Nat, a < m + 2 → (ju (m + 2) (d5 ((m + 2 : Nat) : Int) (a : Int)) (mU ((m + 2 : Nat) : Int) (bQ (a : Int) (((m + 2 : Nat) : Int) - 2)) (ch 108)) && (ju (m + 2) (d5 ((m + 2 : Nat) : Int) (a : Int)) (mU ((m + 2 : Nat) : Int) (bQ (a : Int) (((m + 2 : Nat) : Int) - 2)) (ch 114)) && Cj ((m + 2 : Nat) : Int) (bQ (a : Int) (((m + 2 : Nat) : Int) - 2)))) = true := by decide +kernel
theorem oA {d : D} (h : isN d = true) : d = .non := by
  cases d <;> first | rfl | cases h
theorem Dg {m : Nat} {R last : Str} (h : ju m R last = true) (y y' : Str) : cZ (List.replicate m 1) [(y, R), (y, R), (y, R)] ∧ eC (y', last) ∧ ∃ z, bZ last.cps.toList (aft (List.replicate m 1) [(y, R), (y, R), (y, R)]) = .str z ∧ z ≠ Str.ofString "good" := by
  obtain ⟨a1, h⟩ := Bool.and_eq_true_iff.mp h
  obtain ⟨a2, h⟩ := Bool.and_eq_true_iff.mp h
  obtain ⟨a3, h⟩ := Bool.and_eq_true_iff.mp h
  obtain ⟨a4, h⟩ := Bool.and_eq_true_iff.mp h
  obtain ⟨a5, h⟩ := Bool.and_eq_true_iff.mp h
  obtain ⟨a6, h⟩ := Bool.and_eq_true_iff.mp h
  have h := of_decide_eq_true h
  have lc : ∀ c ∈ R.cps.toList, c ∈ codes := (nI a5 y).1
  have hrl : R.cps.toList.length = R.length := by simp [Str.length]
  obtain ⟨e1, l1⟩ := kQ lc (oA a1)
  obtain ⟨e2, l2⟩ := kQ lc (oA a2)
  obtain ⟨e3, l3⟩ := kQ lc (oA a3)
  refine ⟨⟨by change R.length ≤ 16; omega, h, e1, by change R.length ≤ 16; omega, h, e2, by change R.length ≤ 16; omega, h, e3, trivial⟩, nI a6 y', ?_⟩
  rcases nY last.cps.toList (aft (List.replicate m 1) [(y, R), (y, R), (y, R)]) with hf | hf
  · have hf : bZ last.cps.toList (outs R.cps.toList (outs R.cps.toList (outs R.cps.toList (List.replicate m 1)))) = .non := hf
    rw [hf] at a4
    cases a4
  · exact hf
theorem xu (x : Int) : ∃ l : Str, gIx (.str (Str.ofString "lr")) (.int (x % 2)) = some (.val (.str l)) ∧ (l = ch 108 ∨ l = ch 114) := by
  have : x % 2 = 0 ∨ x % 2 = 1 := by omega
  rcases this with h | h <;> rw [h]
  · exact ⟨ch 108, by kernel_rfl, .inl rfl⟩
  · exact ⟨ch 114, by kernel_rfl, .inr rfl⟩
theorem C5 (m : Nat) (hm : m < 16) (cell : Int) : ∃ R last : Str, iy [.int ((m + 1 : Nat) : Int), .int cell] = .own [.str R, .str R, .str R, .str last] ∧ ju (m + 1) R last = true := by
  have m0 : (0 : Int) < ((m + 1 : Nat) : Int) := by omega
  have a0 := Int.emod_nonneg cell (show ((m + 1 : Nat) : Int) ≠ 0 by omega)
  have a1 := Int.emod_lt_of_pos cell m0
  obtain ⟨a, ha⟩ : ∃ a : Nat, cell % ((m + 1 : Nat) : Int) = (a : Int) := ⟨(cell % ((m + 1 : Nat) : Int)).toNat, by omega⟩
  obtain ⟨ck, sh⟩ := Bool.and_eq_true_iff.mp (Ai m hm a (by omega))
  obtain ⟨z1, z2⟩ := Bool.and_eq_true_iff.mp sh
  have z1 := of_decide_eq_true z1
  have z2 := of_decide_eq_true z2
  have tl : (Str.ofString "t").length = 1 := by decide +kernel
  have hmM : ((m + 1 : Nat) : Int) ≤ 16 := by omega
  have gm : bc (.int cell) (.int ((m + 1 : Nat) : Int)) = some (.val (.int (a : Int))) := by rw [← ha]; exact eO (decide_eq_true m0)
  have gd : bJ (.int cell) (.int ((m + 1 : Nat) : Int)) = some (.val (.int (cell / ((m + 1 : Nat) : Int)))) := iL (by
    unfold cdiv
    rw [decide_eq_true (show (0 : Int) < ((m + 1 : Nat) : Int) by omega), decide_eq_true (show ((m + 1 : Nat) : Int) < 1073741824 by omega)]; rfl)
  have s1 : aQ (.str (Str.ofString "s")) (.int (a : Int)) = some (.val (.str (Txt.mul (Str.ofString "s") (a : Int)))) := cC (by omega) (by omega) (by decide +kernel)
  have s2 : aK (.str (Txt.mul (Str.ofString "s") (a : Int))) (.str (Str.ofString "t")) = some (.val (.str (Txt.mul (Str.ofString "s") (a : Int) ++ Str.ofString "t"))) := iH (by unfold sizeLine; omega)
  have s3 : aQ (.str (Str.ofString "s")) (.int (((m + 1 : Nat) : Int) - 1 - (a : Int))) = some (.val (.str (Txt.mul (Str.ofString "s") (((m + 1 : Nat) : Int) - 1 - (a : Int))))) := cC (by omega) (by omega) (by decide +kernel)
  have s4 : aK (.str (Txt.mul (Str.ofString "s") (a : Int) ++ Str.ofString "t")) (.str (Txt.mul (Str.ofString "s") (((m + 1 : Nat) : Int) - 1 - (a : Int)))) = some (.val (.str (d5 ((m + 1 : Nat) : Int) (a : Int)))) := iH (by rw [str_len, tl]; unfold sizeLine; omega)
  have ga : ∀ L : Str, aK (.lst [.str (d5 ((m + 1 : Nat) : Int) (a : Int)), .str (d5 ((m + 1 : Nat) : Int) (a : Int)), .str (d5 ((m + 1 : Nat) : Int) (a : Int))]) (.lst [.str L]) = some (.own [.str (d5 ((m + 1 : Nat) : Int) (a : Int)), .str (d5 ((m + 1 : Nat) : Int) (a : Int)), .str (d5 ((m + 1 : Nat) : Int) (a : Int)), .str L]) := fun L => mF (by change 3 + 1 ≤ sizeLine; unfold sizeLine; omega)
  have q1 : gEq (.int (cell / ((m + 1 : Nat) : Int) % 2)) (.int 1) = some (.val (.bl (decide (cell / ((m + 1 : Nat) : Int) % 2 = 1)))) := gH rfl
  have q2 : aX gt (.int ((m + 1 : Nat) : Int)) (.int 1) = some (.val (.bl (decide (((m + 1 : Nat) : Int) > 1)))) := rfl
  have sl3 : 3 ≤ sizeLine := by unfold sizeLine; omega
  generalize hR : d5 ((m + 1 : Nat) : Int) (a : Int) = R at *
  have A1 : (aF 2 (ag (ae 1) (ae 0) bc)) [.sh (.int ((m + 1 : Nat) : Int)), .sh (.int cell), .no, .no, .no, .no, .no] = .ok .nx [.sh (.int ((m + 1 : Nat) : Int)), .sh (.int cell), .sh (.int (a : Int)), .no, .no, .no, .no] := bM (aC (aq rfl) (aq rfl) rfl rfl gm) rfl
  have A2 : (aF 3 (ag (ag (ag (fC (.str "s")) (ae 2) aQ) (fC (.str "t")) aK) (ag (fC (.str "s")) (ag (ag (ae 0) (fC (.int 1)) cu) (ae 2) cu) aQ) aK)) [.sh (.int ((m + 1 : Nat) : Int)), .sh (.int cell), .sh (.int (a : Int)), .no, .no, .no, .no] = .ok .nx [.sh (.int ((m + 1 : Nat) : Int)), .sh (.int cell), .sh (.int (a : Int)), .sh (.str R), .no, .no, .no] :=
    bM (aC (aC (aC ax (aq rfl) rfl rfl s1) ax rfl rfl s2) (aC ax (aC (aC (aq rfl) ax rfl rfl rfl) (aq rfl) rfl rfl rfl) rfl rfl s3) rfl rfl s4) rfl
  have A3 : (aF 4 (bF (af (ae 3) (af (ae 3) (af (ae 3) ai))))) [.sh (.int ((m + 1 : Nat) : Int)), .sh (.int cell), .sh (.int (a : Int)), .sh (.str R), .no, .no, .no] = .ok .nx [.sh (.int ((m + 1 : Nat) : Int)), .sh (.int cell), .sh (.int (a : Int)), .sh (.str R), .sh (.lst [.str R, .str R, .str R]), .no, .no] :=
    bM (cX (ay (aq rfl) (ay (aq rfl) (ay (aq rfl) aN))) rfl sl3) rfl
  have T1 : (au (ag (ag (ag (ae 1) (ae 0) bJ) (fC (.int 2)) bc) (fC (.int 1)) gEq)) [.sh (.int ((m + 1 : Nat) : Int)), .sh (.int cell), .sh (.int (a : Int)), .sh (.str R), .sh (.lst [.str R, .str R, .str R]), .no, .no] = .ok (decide (cell / ((m + 1 : Nat) : Int) % 2 = 1)) [.sh (.int ((m + 1 : Nat) : Int)), .sh (.int cell), .sh (.int (a : Int)), .sh (.str R), .sh (.lst [.str R, .str R, .str R]), .no, .no] :=
    bz (aC (aC (aC (aq rfl) (aq rfl) rfl rfl gd) ax rfl rfl (eO rfl)) ax rfl rfl q1) rfl
  have T2 : (au (ag (ae 0) (fC (.int 1)) (aX gt))) [.sh (.int ((m + 1 : Nat) : Int)), .sh (.int cell), .sh (.int (a : Int)), .sh (.str R), .sh (.lst [.str R, .str R, .str R]), .no, .no] = .ok (decide (((m + 1 : Nat) : Int) > 1)) [.sh (.int ((m + 1 : Nat) : Int)), .sh (.int cell), .sh (.int (a : Int)), .sh (.str R), .sh (.lst [.str R, .str R, .str R]), .no, .no] :=
    bz (aC (aq rfl) ax rfl rfl q2) rfl
  have one : 1 ≤ sizeLine := by unfold sizeLine; omega
  unfold iy ua
  by_cases hc : cell / ((m + 1 : Nat) : Int) % 2 = 1 ∧ ((m + 1 : Nat) : Int) > 1
  · rw [decide_eq_true hc.1] at T1
    rw [decide_eq_true hc.2] at T2
    obtain ⟨j, rfl⟩ : ∃ j, m = j + 1 := ⟨m - 1, by omega⟩
    have lk := CS j (by omega) a (by omega)
    obtain ⟨c1, lk⟩ := Bool.and_eq_true_iff.mp lk
    obtain ⟨c2, lk⟩ := Bool.and_eq_true_iff.mp lk
    obtain ⟨y1, y2⟩ := Bool.and_eq_true_iff.mp lk
    have y1 := of_decide_eq_true y1
    have y2 := of_decide_eq_true y2
    have hR : d5 ((j + 2 : Nat) : Int) (a : Int) = R := hR
    rw [hR] at c1 c2
    have fl : 0 ≤ bQ (a : Int) (((j + 2 : Nat) : Int) - 2) ∧ bQ (a : Int) (((j + 2 : Nat) : Int) - 2) ≤ ((j + 2 : Nat) : Int) - 2 := by unfold bQ; split <;> omega
    have gf : fk [.int (a : Int), .int (((j + 2 : Nat) : Int) - 2)] = some (.val (.int (bQ (a : Int) (((j + 2 : Nat) : Int) - 2)))) := rfl
    generalize bQ (a : Int) (((j + 2 : Nat) : Int) - 2) = f at *
    obtain ⟨l, gl, hl⟩ := xu (cell / ((j + 2 : Nat) : Int) / 2)
    have ll : l.length = 1 := by rcases hl with rfl | rfl <;> rfl
    have u1 : aQ (.str (Str.ofString "s")) (.int f) = some (.val (.str (Txt.mul (Str.ofString "s") f))) := cC (by omega) (by omega) (by decide +kernel)
    have u2 : aK (.str (Txt.mul (Str.ofString "s") f)) (.str l) = some (.val (.str (Txt.mul (Str.ofString "s") f ++ l))) := iH (by unfold sizeLine; omega)
    have u3 : aQ (.str (Str.ofString "k")) (.int (((j + 2 : Nat) : Int) - 2 - f)) = some (.val (.str (Txt.mul (Str.ofString "k") (((j + 2 : Nat) : Int) - 2 - f)))) := cC (by omega) (by omega) (by decide +kernel)
    have u4 : aK (.str (Txt.mul (Str.ofString "s") f ++ l)) (.str (Txt.mul (Str.ofString "k") (((j + 2 : Nat) : Int) - 2 - f))) = some (.val (.str (mU ((j + 2 : Nat) : Int) f l))) := iH (by rw [str_len, ll]; unfold sizeLine; omega)
    refine ⟨R, mU ((j + 2 : Nat) : Int) f l, ?_, by rcases hl with rfl | rfl; exact c1; exact c2⟩
    have A5 : (aF 5 (fCB (af (ae 2) (af (ag (ae 0) (fC (.int 2)) cu) ai)) fk)) [.sh (.int ((j + 2 : Nat) : Int)), .sh (.int cell), .sh (.int (a : Int)), .sh (.str R), .sh (.lst [.str R, .str R, .str R]), .no, .no] = .ok .nx [.sh (.int ((j + 2 : Nat) : Int)), .sh (.int cell), .sh (.int (a : Int)), .sh (.str R), .sh (.lst [.str R, .str R, .str R]), .sh (.int f), .no] :=
      bM (dE (ay (aq rfl) (ay (aC (aq rfl) ax rfl rfl rfl) aN)) rfl gf) rfl
    have A6 : (aF 6 (ag (fC (.str "lr")) (ag (ag (ag (ae 1) (ae 0) bJ) (fC (.int 2)) bJ) (fC (.int 2)) bc) gIx)) [.sh (.int ((j + 2 : Nat) : Int)), .sh (.int cell), .sh (.int (a : Int)), .sh (.str R), .sh (.lst [.str R, .str R, .str R]), .sh (.int f), .no] = .ok .nx [.sh (.int ((j + 2 : Nat) : Int)), .sh (.int cell), .sh (.int (a : Int)), .sh (.str R), .sh (.lst [.str R, .str R, .str R]), .sh (.int f), .sh (.str l)] :=
      bM (aC ax (aC (aC (aC (aq rfl) (aq rfl) rfl rfl gd) ax rfl rfl (iL rfl)) ax rfl rfl (eO rfl)) rfl rfl gl) rfl
    exact cQ (aG A1 (aJ (aG A2 (aJ (aG A3 (aJ (aG (bj (uH T1 rfl T2) (cy rfl (aG A5 (aJ (aG A6 (aJ (eX (aC (aq rfl) (cX (ay (aC (aC (aC ax (aq rfl) rfl rfl u1) (aq rfl) rfl rfl u2) (aC ax (aC (aC (aq rfl) ax rfl rfl rfl) (aq rfl) rfl rfl rfl) rfl rfl u3) rfl rfl u4) aN) rfl one) rfl rfl (ga _)) o8))))))) lP)))))))
  · have tt : (bX (au (ag (ag (ag (ae 1) (ae 0) bJ) (fC (.int 2)) bc) (fC (.int 1)) gEq)) (au (ag (ae 0) (fC (.int 1)) (aX gt)))) [.sh (.int ((m + 1 : Nat) : Int)), .sh (.int cell), .sh (.int (a : Int)), .sh (.str R), .sh (.lst [.str R, .str R, .str R]), .no, .no] = .ok false [.sh (.int ((m + 1 : Nat) : Int)), .sh (.int cell), .sh (.int (a : Int)), .sh (.str R), .sh (.lst [.str R, .str R, .str R]), .no, .no] := by
      by_cases h1 : cell / ((m + 1 : Nat) : Int) % 2 = 1
      · rw [decide_eq_true h1] at T1
        rw [decide_eq_false (fun z => hc ⟨h1, z⟩)] at T2
        exact uH T1 rfl T2
      · rw [decide_eq_false h1] at T1
        exact zK T1 rfl
    refine ⟨R, R, ?_, ck⟩
    exact cQ (aG A1 (aJ (aG A2 (aJ (aG A3 (aJ (aG (bj tt (cg rfl cx)) (aJ (eX (aC (aq rfl) (cX (ay (aq rfl) aN) rfl one) rfl rfl (ga _)) o8)))))))))
end Lw
namespace Lw
open PySem L2 DL
noncomputable def m9 : DM Fl := (ak (bV 5 (ag (ae 1) (bF (af (aY (af (fC (.str "row")) (af (fC (.str "c")) (af (ae 3) ai)))) ai)) aK))
    (ak (fIf (au (ag (ag (ag (aD 2 (af (ae 0) (af (fC (.int 0)) ai)) cI) (fC (.int 6)) bJ) (fC (.int 2)) bc) (fC (.int 1)) gEq)) (bE 5 (aY (af (fC (.str "row")) (af (fC (.str "a")) (af (fC (.str "k")) ai))))) aO)
    (ak (fun δ => (fIf (bO (cH (au (aD 1 (af (ae 5) ai) gS))) (cH (au (aD 1 (af (ae 5) ai) gU)))) (aI (fC (.bl false))) aO) (frz 5 δ))
    (ak (aF 6 (aD 1 (af (fCB (af (ae 1) ai) d4) ai) ey))
    (ak (aF 7 (aD 1 (af (fCB (af (ae 1) ai) d4) ai) eH))
    (ak (fIf (bO (cH (au (fUn (ae 6) (gIs "tuple")))) (cH (au (fUn (ag (ae 6) (fC (.int 0)) gIx) (gIs "list"))))) (aI (fC (.bl false))) aO)
    (aI (eE (fUn (ae 7) (gIs "list")) (ag (fCB (af (ae 7) ai) bq) (fC (.int 0)) (aX gt))))))))))
theorem sW (ns : List Int) (s2 s4 : Sl) {many : Int} {y x z : Str} {rs : List (Str × Str)} (h1 : 1 ≤ many) (h2 : many ≤ 16) (hr : cZ (List.replicate many.toNat 1) rs) (hn : rs.length ≤ 12) (hb : eC (Str.ofString "c", x))
    (hz : bZ x.cps.toList (aft (List.replicate many.toNat 1) rs) = .str z) (hg : z ≠ Str.ofString "good") : ∃ δ, m9 [.sh (.scr ns), .sh (.lst (aL many y :: rs.map av)), s2, .sh (.str x), s4, .no, .no, .no] = .ok (.rt (.bl true)) δ := by
  have c0 := iv ns 0 (by omega)
  have gt1 := y0 (y := y) h1 h2 hr (by omega)
  have gm1 := wQ (y := y) h1 h2 hr (by omega)
  have hcl : (dX y many.toNat).length = many.toNat := by unfold dX; rw [List.length_map, List.length_range]
  have hka : eC (Str.ofString "a", Str.ofString "k") := ⟨by decide +kernel, by decide +kernel⟩
  have nb : ∀ tl : List (Str × Str), (∀ r ∈ tl, eC r) → tl.length ≤ 1 → dS [.lst (aL many y :: (rs ++ (Str.ofString "c", x) :: tl).map av)] = .er "Unfit" := fun tl ht hl => wj (y := y) (bad := (Str.ofString "c", x)) h1 h2 hr hb ht (by omega) hz hg
  have ga : aK (.lst (aL many y :: rs.map av)) (.lst [av (Str.ofString "c", x)]) = some (.own (aL many y :: (rs ++ [(Str.ofString "c", x)]).map av)) := by
    rw [mF (by rw [List.length_cons, List.length_map]; change _ + 1 ≤ _; unfold sizeLine; omega), List.map_append]; rfl
  have z3 : 3 ≤ sizeLine := by unfold sizeLine; omega
  have z1 : 1 ≤ sizeLine := by unfold sizeLine; omega
  have gl : d4 [.lst (aL many y :: rs.map av)] = some (.own (aL many y :: rs.map av)) := rfl
  have B1 : (bV 5 (ag (ae 1) (bF (af (aY (af (fC (.str "row")) (af (fC (.str "c")) (af (ae 3) ai)))) ai)) aK)) [.sh (.scr ns), .sh (.lst (aL many y :: rs.map av)), s2, .sh (.str x), s4, .no, .no, .no] = .ok .nx [.sh (.scr ns), .sh (.lst (aL many y :: rs.map av)), s2, .sh (.str x), s4, .ow (aL many y :: (rs ++ [(Str.ofString "c", x)]).map av), .no, .no] :=
    eo (aC (aq rfl) (cX (ay (dy (ay ax (ay ax (ay (aq rfl) aN))) rfl z3) aN) rfl z1) rfl rfl ga)
  have q1 : gEq (.int (bW ns 0 / 6 % 2)) (.int 1) = some (.val (.bl (decide (bW ns 0 / 6 % 2 = 1)))) := gH rfl
  have T1 : (au (ag (ag (ag (aD 2 (af (ae 0) (af (fC (.int 0)) ai)) cI) (fC (.int 6)) bJ) (fC (.int 2)) bc) (fC (.int 1)) gEq)) [.sh (.scr ns), .sh (.lst (aL many y :: rs.map av)), s2, .sh (.str x), s4, .ow (aL many y :: (rs ++ [(Str.ofString "c", x)]).map av), .no, .no] = .ok (decide (bW ns 0 / 6 % 2 = 1)) [.sh (.scr ns), .sh (.lst (aL many y :: rs.map av)), s2, .sh (.str x), s4, .ow (aL many y :: (rs ++ [(Str.ofString "c", x)]).map av), .no, .no] :=
    bz (aC (aC (aC (d6 (ay (aq rfl) (ay ax aN)) rfl rfl c0) ax rfl rfl (iL rfl)) ax rfl rfl (eO rfl)) ax rfl rfl q1) rfl
  obtain ⟨tl, ht, hl, B2⟩ : ∃ tl : List (Str × Str), (∀ r ∈ tl, eC r) ∧ tl.length ≤ 1 ∧ (fIf (au (ag (ag (ag (aD 2 (af (ae 0) (af (fC (.int 0)) ai)) cI) (fC (.int 6)) bJ) (fC (.int 2)) bc) (fC (.int 1)) gEq)) (bE 5 (aY (af (fC (.str "row")) (af (fC (.str "a")) (af (fC (.str "k")) ai))))) aO) [.sh (.scr ns), .sh (.lst (aL many y :: rs.map av)), s2, .sh (.str x), s4, .ow (aL many y :: (rs ++ [(Str.ofString "c", x)]).map av), .no, .no] = .ok .nx [.sh (.scr ns), .sh (.lst (aL many y :: rs.map av)), s2, .sh (.str x), s4, .ow (aL many y :: (rs ++ (Str.ofString "c", x) :: tl).map av), .no, .no] := by
    by_cases hc : bW ns 0 / 6 % 2 = 1
    · rw [decide_eq_true hc] at T1
      refine ⟨[(Str.ofString "a", Str.ofString "k")], fun r h => by rw [List.mem_singleton.mp h]; exact hka, Nat.le_refl _, ?_⟩
      have e : aL many y :: (rs ++ (Str.ofString "c", x) :: [(Str.ofString "a", Str.ofString "k")]).map av = (aL many y :: (rs ++ [(Str.ofString "c", x)]).map av) ++ [av (Str.ofString "a", Str.ofString "k")] := by
        rw [List.map_append, List.map_append, List.cons_append, List.append_assoc]; rfl
      rw [e]
      exact bj T1 (cy rfl (gI (i := 5) (es := aL many y :: (rs ++ [(Str.ofString "c", x)]).map av) (ds := aL many y :: (rs ++ [(Str.ofString "c", x)]).map av) rfl (dy (ay ax (ay ax (ay ax aN))) rfl z3) rfl rfl (by rw [List.length_cons, List.length_map, List.length_append]; change rs.length + 1 + 1 < _; unfold sizeLine; omega)))
    · rw [decide_eq_false hc] at T1
      exact ⟨[], (fun r h => by cases h), Nat.zero_le _, bj T1 (cg rfl cx)⟩
  have nd := nb tl ht hl
  have r1 := zO (vN nd)
  have r2 := yo (AH nd)
  generalize aL many y :: (rs ++ (Str.ofString "c", x) :: tl).map av = P at *
  have B3 : (fIf (bO (cH (au (aD 1 (af (ae 5) ai) gS))) (cH (au (aD 1 (af (ae 5) ai) gU)))) (aI (fC (.bl false))) aO) [.sh (.scr ns), .sh (.lst (aL many y :: rs.map av)), s2, .sh (.str x), s4, .sh (.lst P), .no, .no] = .ok .nx [.sh (.scr ns), .sh (.lst (aL many y :: rs.map av)), s2, .sh (.str x), s4, .sh (.lst P), .no, .no] :=
    bj (rC (lJ (bz (d6 (ay (aq rfl) aN) rfl rfl r1) rfl)) rfl (lJ (bz (d6 (ay (aq rfl) aN) rfl rfl r2) rfl))) (cg rfl cx)
  generalize hA : D.lst (clD (iR true (iN many) (kr many y) rs).1) = A at gt1
  generalize hBb : D.lst (lvD (iR true (iN many) (kr many y) rs).2) = Bv at gt1
  have gA : gIs "list" A = some (.val (.bl true)) := by rw [← hA]; rfl
  have gl2 : bq [.lst (dlD (dX y many.toNat ++ gE true rs))] = some (.val (.int (((dX y many.toNat ++ gE true rs).length : Nat) : Int))) := by
    change some (DV.val (.int ((dlD (dX y many.toNat ++ gE true rs)).length : Int))) = _
    rw [cS]
  have gp : (0 : Int) < (((dX y many.toNat ++ gE true rs).length : Nat) : Int) := by rw [List.length_append, hcl]; omega
  have gq : ∀ N : Nat, (0 : Int) < (N : Int) → aX gt (.int (N : Int)) (.int 0) = some (.val (.bl true)) := fun N h => by
    change some (DV.val (.bl (decide ((N : Int) > 0)))) = _
    rw [decide_eq_true h]
  have gq := gq _ gp
  refine ⟨[.sh (.scr ns), .sh (.lst (aL many y :: rs.map av)), s2, .sh (.str x), s4, .sh (.lst P), .sh (.tup [A, Bv]), .sh (.lst (dlD (dX y many.toNat ++ gE true rs)))], ?_⟩
  unfold m9
  refine aG B1 (aJ (aG B2 (aJ (aG (R1 := .ok .nx [.sh (.scr ns), .sh (.lst (aL many y :: rs.map av)), s2, .sh (.str x), s4, .sh (.lst P), .no, .no]) B3 (aJ ?_)))))
  refine aG (bM (d6 (ay (dE (ay (aq rfl) aN) rfl gl) aN) rfl rfl gt1) rfl) (aJ ?_)
  refine aG (bM (dA (ay (dE (ay (aq rfl) aN) rfl gl) aN) rfl rfl gm1) rfl) (aJ ?_)
  refine aG (bj (rC (lJ (bz (fw (aq rfl) rfl rfl) rfl)) rfl (lJ (bz (fw (aC (aq rfl) ax rfl rfl (sZ (nM _ _))) rfl gA) rfl))) (cg rfl cx)) (aJ ?_)
  exact eX (qx (fw (aq rfl) rfl rfl) rfl rfl (aC (dE (ay (aq rfl) aN) rfl gl2) ax rfl rfl gq)) gz
theorem tE : ∀ {rs : List (Str × Str)} {cs : List Int} {r : Str × Str}, cZ cs rs → rs.getLast? = some r → (aft cs rs).length = r.2.length ∧ 1 ≤ r.2.length ∧ r.2.length ≤ 16
  | [], _, _, _, h => by cases h
  | [q], cs, r, ⟨h1, h2, h3, h4⟩, h => by
    have e : q = r := by simpa using h
    subst e
    have hol := jd q.2.cps.toList cs
    have hrl : q.2.cps.toList.length = q.2.length := by simp [Str.length]
    exact ⟨by change (outs q.2.cps.toList cs).length = _; omega, h2, h1⟩
  | q :: q2 :: rs, cs, r, ⟨h1, h2, h3, h4⟩, h => by
    rw [List.getLast?_cons_cons] at h
    exact tE (rs := q2 :: rs) h4 h
theorem zL (c : D) (q : List D) : dP (.lst (c :: q)) none (some 1) = some (.own [c]) := by
  rw [hX]
  unfold cutD
  have a1 : HT.sIx (c :: q).length (c :: q).length (some 1) = 1 := by
    have := HT.gb (c :: q).length (c :: q).length 1
    rw [List.length_cons] at this ⊢
    exact this.trans (by omega)
  rw [a1, HT.kR]
  rfl
theorem xG {y : Str} (hy : y ∈ gW) : y.length = 1 := by
  have : ∀ z ∈ gW, z.length = 1 := by decide +kernel
  exact this y hy
noncomputable def lO : DM Fl := (fIf (au (ag (ae 3) (fC .non) mj)) (ak (aF 4 (aD 2 (af (ag (ag (ae 1) (fC (.int 0)) gIx) (fC (.int 1)) gIx) (af (ag (ag (aD 2 (af (ae 0) (af (fC (.int 1)) ai)) cI) (fC (.int 9)) bJ) (fC (.int 1009)) bc) ai)) iy))
    (ak (aF 1 (ag (cO (ae 1) fE (bT (fC (.int 1)))) (fLC (fIt (cO (ae 4) fE (bT (fUn (fC (.int 1)) ft))) cD) (bg 0) (.ret true) (aY (af (fC (.str "row")) (af (fC (.str "b")) (af (ae 0) ai)))) [none]) aK))
    (aF 3 (ag (ae 4) (fUn (fC (.int 1)) ft) gIx)))) aO)
theorem Be (ns : List Int) (s2 : Sl) {y : Str} {rs : List (Str × Str)} (m : Nat) (hm : m < 16) : ∃ (R last : Str) (s4 : Sl), ju (m + 1) R last = true ∧ lO [.sh (.scr ns), .sh (.lst (aL ((m + 1 : Nat) : Int) y :: rs.map av)), s2, .sh .non, .no, .no, .no, .no] = .ok .nx [.sh (.scr ns), .sh (.lst (aL ((m + 1 : Nat) : Int) y :: [(Str.ofString "b", R), (Str.ofString "b", R), (Str.ofString "b", R)].map av)), s2, .sh (.str last), s4, .no, .no, .no] := by
  have c1 := iv ns 1 (by omega)
  obtain ⟨R, last, gc, ck⟩ := C5 m hm (bW ns 1 / 9 % 1009)
  have g0 : gIx (.lst (aL ((m + 1 : Nat) : Int) y :: rs.map av)) (.int 0) = some (.val (aL ((m + 1 : Nat) : Int) y)) := iz
  have g1 : gIx (aL ((m + 1 : Nat) : Int) y) (.int 1) = some (.val (.int ((m + 1 : Nat) : Int))) := rfl
  have g2 := zL (aL ((m + 1 : Nat) : Int) y) (rs.map av)
  have g3 : dP (.lst [.str R, .str R, .str R, .str last]) none (some (-1)) = some (.own [.str R, .str R, .str R]) := by kernel_rfl
  have g4 : gIx (.lst [.str R, .str R, .str R, .str last]) (.int (-1)) = some (.val (.str last)) := by kernel_rfl
  have g5 : cf (bg 0) (.ret true) (aY (af (fC (.str "row")) (af (fC (.str "b")) (af (ae 0) ai)))) [.str R, .str R, .str R] [.no] [] = some [av (Str.ofString "b", R), av (Str.ofString "b", R), av (Str.ofString "b", R)] := by kernel_rfl
  have g6 : aK (.lst [aL ((m + 1 : Nat) : Int) y]) (.lst [av (Str.ofString "b", R), av (Str.ofString "b", R), av (Str.ofString "b", R)]) = some (.own (aL ((m + 1 : Nat) : Int) y :: [(Str.ofString "b", R), (Str.ofString "b", R), (Str.ofString "b", R)].map av)) := mF (by change 1 + 3 ≤ sizeLine; unfold sizeLine; omega)
  have n1 : ft (.int 1) = some (.val (.int (-1))) := rfl
  refine ⟨R, last, .sh (.lst [.str R, .str R, .str R, .str last]), ck, ?_⟩
  unfold lO
  refine bj (bz (aC (aq rfl) ax rfl rfl rfl) rfl) (cy rfl ?_)
  refine aG (bM (dA (ay (aC (aC (aq rfl) ax rfl rfl g0) ax rfl rfl g1) (ay (aC (aC (d6 (ay (aq rfl) (ay ax aN)) rfl rfl c1) ax rfl rfl (iL rfl)) ax rfl rfl (eO rfl)) aN)) rfl rfl gc) rfl) (aJ ?_)
  refine aG (bM (aC (lu (aq rfl) lA (lN ax rfl) rfl g2) (kj (ik (lu (aq rfl) lA (lN (fw ax rfl n1) rfl) rfl g3) rfl rfl) g5) rfl rfl g6) rfl) (aJ ?_)
  exact bM (aC (aq rfl) (fw ax rfl n1) rfl rfl g4) rfl
theorem xK (ns : List Int) (hl : ns.length ≤ 63) : iK [.scr ns] = .ok (.bl true) := by
  have c0 := iv ns 0 (by omega)
  have c1 := iv ns 1 (by omega)
  obtain ⟨many, y, rs, hg, e1⟩ := wk ns (bW ns 0 % 6) 9 (by omega) (by omega) (by omega) (by omega)
  have hn := hg.n
  have h1 := hg.m1
  have h2 := hg.m2
  have hy := xG hg.y
  obtain ⟨m, hm, em⟩ : ∃ m : Nat, m < 16 ∧ many = ((m + 1 : Nat) : Int) := ⟨(many - 1).toNat, by omega, by omega⟩
  have n1 : ft (.int 1) = some (.val (.int (-1))) := rfl
  have gL : bq [.lst (aL many y :: rs.map av)] = some (.val (.int ((rs.length + 1 : Nat) : Int))) := by
    change some (DV.val (.int ((aL many y :: rs.map av).length : Int))) = _
    rw [List.length_cons, List.length_map]
  have A1 : (aF 1 (aD 3 (af (ae 0) (af (ag (aD 2 (af (ae 0) (af (fC (.int 0)) ai)) cI) (fC (.int 6)) bc) (af (fC (.int 9)) ai))) je)) [.sh (.scr ns), .no, .no, .no, .no, .no, .no, .no] = .ok .nx [.sh (.scr ns), .sh (.lst (aL many y :: rs.map av)), .no, .no, .no, .no, .no, .no] :=
    bM (dA (ay (aq rfl) (ay (aC (d6 (ay (aq rfl) (ay ax aN)) rfl rfl c0) ax rfl rfl (eO rfl)) (ay ax aN))) rfl rfl e1) rfl
  obtain ⟨n, hn16, hw, s2a, A2, A3⟩ : ∃ (n : Nat), n < 16 ∧ (aft (List.replicate many.toNat 1) rs).length = n + 1 ∧ ∃ s2a, (aF 2 (fCB (af (ag (ag (ae 1) (fUn (fC (.int 1)) ft) gIx) (fC (.int 2)) gIx) ai) bq)) [.sh (.scr ns), .sh (.lst (aL many y :: rs.map av)), .no, .no, .no, .no, .no, .no] = .ok .nx [.sh (.scr ns), .sh (.lst (aL many y :: rs.map av)), s2a, .no, .no, .no, .no, .no] ∧
      (fIf (au (ag (fCB (af (ae 1) ai) bq) (fC (.int 1)) gEq)) (aF 2 (ag (ag (ae 1) (fC (.int 0)) gIx) (fC (.int 1)) gIx)) aO) [.sh (.scr ns), .sh (.lst (aL many y :: rs.map av)), s2a, .no, .no, .no, .no, .no] = .ok .nx [.sh (.scr ns), .sh (.lst (aL many y :: rs.map av)), .sh (.int ((n + 1 : Nat) : Int)), .no, .no, .no, .no, .no] := by
    have q1 : gEq (.int ((rs.length + 1 : Nat) : Int)) (.int 1) = some (.val (.bl (decide (((rs.length + 1 : Nat) : Int) = 1)))) := gH rfl
    cases h : rs.getLast? with
    | none =>
      have hrs : rs = [] := List.getLast?_eq_none_iff.mp h
      subst hrs
      have g1 : gIx (.lst [aL many y]) (.int (-1)) = some (.val (aL many y)) := by kernel_rfl
      have g2 : gIx (aL many y) (.int 2) = some (.val (.str y)) := rfl
      have g3 : bq [.str y] = some (.val (.int y.length)) := iE (by unfold sizeLine; omega)
      have g4 : gIx (aL many y) (.int 1) = some (.val (.int ((m + 1 : Nat) : Int))) := by rw [← em]; rfl
      refine ⟨m, hm, by change (List.replicate many.toNat (1 : Int)).length = _; rw [List.length_replicate]; omega, .sh (.int y.length), bM (dE (ay (aC (aC (aq rfl) (fw ax rfl n1) rfl rfl g1) ax rfl rfl g2) aN) rfl g3) rfl, ?_⟩
      exact bj (b := true) (bz (aC (dE (ay (aq rfl) aN) rfl gL) ax rfl rfl q1) rfl) (cy rfl (bM (aC (aC (aq rfl) ax rfl rfl iz) ax rfl rfl g4) rfl))
    | some r =>
      obtain ⟨w1, w2, w3⟩ := tE hg.rows h
      have hne : 0 < rs.length := by
        cases rs with
        | nil => cases h
        | cons _ _ => simp
      have d1 : decide (((rs.length + 1 : Nat) : Int) = 1) = false := decide_eq_false (by omega)
      rw [d1] at q1
      have g1 : gIx (.lst (aL many y :: rs.map av)) (.int (-1)) = some (.val (av r)) := by
        refine oZ ?_
        unfold atI ixN
        rw [if_neg (by omega), if_pos (by rw [List.length_cons]; omega)]
        show (aL many y :: rs.map av)[_]? = _
        rw [List.length_cons, List.length_map, show (-1 + ((rs.length + 1 : Nat) : Int)).toNat = (rs.length - 1) + 1 by omega, List.getElem?_cons_succ, List.getElem?_map, ← List.getLast?_eq_getElem?, h]; rfl
      have g2 : gIx (av r) (.int 2) = some (.val (.str r.2)) := rfl
      have g4 : bq [.str r.2] = some (.val (.int (((r.2.length - 1) + 1 : Nat) : Int))) := by
        rw [show (r.2.length - 1) + 1 = r.2.length by omega]
        exact iE (by unfold sizeLine; omega)
      exact ⟨r.2.length - 1, by omega, by omega, _, bM (dE (ay (aC (aC (aq rfl) (fw ax rfl n1) rfl rfl g1) ax rfl rfl g2) aN) rfl g4) rfl, bj (bz (aC (dE (ay (aq rfl) aN) rfl gL) ax rfl rfl q1) rfl) (cg rfl cx)⟩
  have main : ∀ d : D, gR [.int (bW ns 1 / 9 % 1000), .int ((n + 1 : Nat) : Int)] = .ok d → (∃ δ, ak lO m9 [.sh (.scr ns), .sh (.lst (aL many y :: rs.map av)), .sh (.int ((n + 1 : Nat) : Int)), .sh d, .no, .no, .no, .no] = .ok (.rt (.bl true)) δ) → iK [.scr ns] = .ok (.bl true) := fun d gf ⟨δ, e⟩ => by
    unfold lO m9 at e
    unfold iK rl
    refine dM (δ1 := δ) (aG A1 (aJ (aG A2 (aJ (aG A3 (aJ (aG (bM (d6 (ay (aC (aC (d6 (ay (aq rfl) (ay ax aN)) rfl rfl c1) ax rfl rfl (iL rfl)) ax rfl rfl (eO rfl)) (ay (aq rfl) aN)) rfl rfl gf) rfl) (aJ ?_))))))))
    exact e
  rcases Bo (bW ns 1 / 9 % 1000) n hn16 with ⟨x, gf, ck⟩ | gf
  · obtain ⟨lx, z, hz, hzg⟩ := Dp ck hw (Str.ofString "c")
    obtain ⟨δ, e⟩ := sW ns (.sh (.int ((n + 1 : Nat) : Int))) .no (y := y) h1 h2 hg.rows hn lx hz hzg
    refine main _ gf ⟨δ, aG (R1 := .ok .nx [.sh (.scr ns), .sh (.lst (aL many y :: rs.map av)), .sh (.int ((n + 1 : Nat) : Int)), .sh (.str x), .no, .no, .no, .no]) ?_ (aJ e)⟩
    unfold lO
    exact bj (bz (aC (aq rfl) ax rfl rfl rfl) rfl) (cg rfl cx)
  · subst em
    obtain ⟨R, last, s4, ck, e4⟩ := Be ns (.sh (.int ((n + 1 : Nat) : Int))) (y := y) (rs := rs) m hm
    obtain ⟨ro, lx, z, hz, hzg⟩ := Dg ck (Str.ofString "b") (Str.ofString "c")
    have et : (((m + 1 : Nat) : Int)).toNat = m + 1 := by omega
    rw [← et] at ro hz
    obtain ⟨δ, e⟩ := sW ns (.sh (.int ((n + 1 : Nat) : Int))) s4 (y := y) h1 h2 ro (by change 3 ≤ 12; omega) lx hz hzg
    exact main _ gf ⟨δ, aG e4 (aJ e)⟩
end Lw
namespace Lw
open PySem L2 DL PyProof.Rows
theorem eG : ∀ (us : List Value), us.length = 1 → ∃ x0, us = [x0]
  | [x0], _ => ⟨x0, rfl⟩
theorem dn : ∀ (us : List Value), us.length = 2 → ∃ x0 x1, us = [x0, x1]
  | [x0, x1], _ => ⟨x0, x1, rfl⟩
theorem rW : ∀ (us : List Value), us.length = 3 → ∃ x0 x1 x2, us = [x0, x1, x2]
  | [x0, x1, x2], _ => ⟨x0, x1, x2, rfl⟩
theorem tx : ∀ (us : List Value), us.length = 4 → ∃ x0 x1 x2 x3, us = [x0, x1, x2, x3]
  | [x0, x1, x2, x3], _ => ⟨x0, x1, x2, x3, rfl⟩
theorem Bx : ∀ (us : List Value), us.length = 5 → ∃ x0 x1 x2 x3 x4, us = [x0, x1, x2, x3, x4]
  | [x0, x1, x2, x3, x4], _ => ⟨x0, x1, x2, x3, x4, rfl⟩
theorem all_mk {l : PySem.W.OpenLaw} {w : World} {K : PySem.W.Frag} {h : Heap} {mg : Str → Option Value} {fa : Addr} (X : K.In h) (G : h.Ns mainGlobals mg) (hfa : mg "law" = some (.ref fa))
    {f0 : Addr} {od0 an0 : Option Addr} {sl0 : Array (Option Value)} {oc0 kV0 dc0 pm0 cd0 ct0 : Value}
    {f1 : Addr} {od1 an1 : Option Addr} {sl1 : Array (Option Value)} {oc1 kV1 dc1 pm1 cd1 ct1 : Value}
    {f2 : Addr} {od2 an2 : Option Addr} {sl2 : Array (Option Value)} {oc2 kV2 dc2 pm2 cd2 ct2 : Value}
    {f3 : Addr} {od3 an3 : Option Addr} {sl3 : Array (Option Value)} {oc3 kV3 dc3 pm3 cd3 ct3 : Value}
    {f4 : Addr} {od4 an4 : Option Addr} {sl4 : Array (Option Value)} {oc4 kV4 dc4 pm4 cd4 ct4 : Value}
    {f5 : Addr} {od5 an5 : Option Addr} {sl5 : Array (Option Value)} {oc5 kV5 dc5 pm5 cd5 ct5 : Value}
    {f6 : Addr} {od6 an6 : Option Addr} {sl6 : Array (Option Value)} {oc6 kV6 dc6 pm6 cd6 ct6 : Value}
    {f7 : Addr} {od7 an7 : Option Addr} {sl7 : Array (Option Value)} {oc7 kV7 dc7 pm7 cd7 ct7 : Value}
    {f8 : Addr} {od8 an8 : Option Addr} {sl8 : Array (Option Value)} {oc8 kV8 dc8 pm8 cd8 ct8 : Value}
    {f9 : Addr} {od9 an9 : Option Addr} {sl9 : Array (Option Value)} {oc9 kV9 dc9 pm9 cd9 ct9 : Value}
    {f10 : Addr} {od10 an10 : Option Addr} {sl10 : Array (Option Value)} {oc10 kV10 dc10 pm10 cd10 ct10 : Value}
    {f11 : Addr} {od11 an11 : Option Addr} {sl11 : Array (Option Value)} {oc11 kV11 dc11 pm11 cd11 ct11 : Value}
    {f12 : Addr} {od12 an12 : Option Addr} {sl12 : Array (Option Value)} {oc12 kV12 dc12 pm12 cd12 ct12 : Value}
    {f13 : Addr} {od13 an13 : Option Addr} {sl13 : Array (Option Value)} {oc13 kV13 dc13 pm13 cd13 ct13 : Value}
    {f14 : Addr} {od14 an14 : Option Addr} {sl14 : Array (Option Value)} {oc14 kV14 dc14 pm14 cd14 ct14 : Value}
    {f15 : Addr} {od15 an15 : Option Addr} {sl15 : Array (Option Value)} {oc15 kV15 dc15 pm15 cd15 ct15 : Value}
    {f16 : Addr} {od16 an16 : Option Addr} {sl16 : Array (Option Value)} {oc16 kV16 dc16 pm16 cd16 ct16 : Value}
    {f17 : Addr} {od17 an17 : Option Addr} {sl17 : Array (Option Value)} {oc17 kV17 dc17 pm17 cd17 ct17 : Value}
    {f18 : Addr} {od18 an18 : Option Addr} {sl18 : Array (Option Value)} {oc18 kV18 dc18 pm18 cd18 ct18 : Value}
    {f19 : Addr} {od19 an19 : Option Addr} {sl19 : Array (Option Value)} {oc19 kV19 dc19 pm19 cd19 ct19 : Value}
    {f20 : Addr} {od20 an20 : Option Addr} {sl20 : Array (Option Value)} {oc20 kV20 dc20 pm20 cd20 ct20 : Value}
    {f21 : Addr} {od21 an21 : Option Addr} {sl21 : Array (Option Value)} {oc21 kV21 dc21 pm21 cd21 ct21 : Value}
    {f22 : Addr} {od22 an22 : Option Addr} {sl22 : Array (Option Value)} {oc22 kV22 dc22 pm22 cd22 ct22 : Value}
    {f23 : Addr} {od23 an23 : Option Addr} {sl23 : Array (Option Value)} {oc23 kV23 dc23 pm23 cd23 ct23 : Value}
    {f24 : Addr} {od24 an24 : Option Addr} {sl24 : Array (Option Value)} {oc24 kV24 dc24 pm24 cd24 ct24 : Value}
    {f25 : Addr} {od25 an25 : Option Addr} {sl25 : Array (Option Value)} {oc25 kV25 dc25 pm25 cd25 ct25 : Value}
    {f26 : Addr} {od26 an26 : Option Addr} {sl26 : Array (Option Value)} {oc26 kV26 dc26 pm26 cd26 ct26 : Value}
    {f27 : Addr} {od27 an27 : Option Addr} {sl27 : Array (Option Value)} {oc27 kV27 dc27 pm27 cd27 ct27 : Value}
    {f28 : Addr} {od28 an28 : Option Addr} {sl28 : Array (Option Value)} {oc28 kV28 dc28 pm28 cd28 ct28 : Value}
    {f29 : Addr} {od29 an29 : Option Addr} {sl29 : Array (Option Value)} {oc29 kV29 dc29 pm29 cd29 ct29 : Value}
    {f30 : Addr} {od30 an30 : Option Addr} {sl30 : Array (Option Value)} {oc30 kV30 dc30 pm30 cd30 ct30 : Value}
    {f31 : Addr} {od31 an31 : Option Addr} {sl31 : Array (Option Value)} {oc31 kV31 dc31 pm31 cd31 ct31 : Value}
    {f32 : Addr} {od32 an32 : Option Addr} {sl32 : Array (Option Value)} {oc32 kV32 dc32 pm32 cd32 ct32 : Value}
    {t_FARTHEST : Tok}
    {t_MOST_LOOPS : Tok}
    {t_MOST_WIDE : Tok}
    {a_TAKES : Addr}
    {C_BedFault : Addr}
    {C_LoopError : Addr}
    {C_NoPattern : Addr}
    {C_Unfit : Addr}
    (a0 : PySem.W.nsIn K mainGlobals "_law_menu" = some (some (.ref f0))) (l0 : K.lookup f0 = some ⟨oc0, od0, .func (PySem.W.fnOf "_law_menu" "_law_menu" (bx jQ) (bt jQ) (aM jQ) .none kV0 dc0 pm0 an0 cd0 ct0), sl0⟩) (c0 : PySem.W.codeIn K cd0 "_law_menu" = true) (k0 : PySem.W.keepIn K (.ref f0) = true)
    (a1 : PySem.W.nsIn K mainGlobals "_law_stitch" = some (some (.ref f1))) (l1 : K.lookup f1 = some ⟨oc1, od1, .func (PySem.W.fnOf "_law_stitch" "_law_stitch" (bx j9) (bt j9) (aM j9) .none kV1 dc1 pm1 an1 cd1 ct1), sl1⟩) (c1 : PySem.W.codeIn K cd1 "_law_stitch" = true) (k1 : PySem.W.keepIn K (.ref f1) = true)
    (a2 : PySem.W.nsIn K mainGlobals "_law_mix" = some (some (.ref f2))) (l2 : K.lookup f2 = some ⟨oc2, od2, .func (PySem.W.fnOf "_law_mix" "_law_mix" (bx jm) (bt jm) (aM jm) .none kV2 dc2 pm2 an2 cd2 ct2), sl2⟩) (c2 : PySem.W.codeIn K cd2 "_law_mix" = true) (k2 : PySem.W.keepIn K (.ref f2) = true)
    (a3 : PySem.W.nsIn K mainGlobals "_law_taken" = some (some (.ref f3))) (l3 : K.lookup f3 = some ⟨oc3, od3, .func (PySem.W.fnOf "_law_taken" "_law_taken" (bx ke) (bt ke) (aM ke) .none kV3 dc3 pm3 an3 cd3 ct3), sl3⟩) (c3 : PySem.W.codeIn K cd3 "_law_taken" = true) (k3 : PySem.W.keepIn K (.ref f3) = true)
    (a4 : PySem.W.nsIn K mainGlobals "_law_row" = some (some (.ref f4))) (l4 : K.lookup f4 = some ⟨oc4, od4, .func (PySem.W.fnOf "_law_row" "_law_row" (bx s_row) (bt s_row) (aM s_row) .none kV4 dc4 pm4 an4 cd4 ct4), sl4⟩) (c4 : PySem.W.codeIn K cd4 "_law_row" = true) (k4 : PySem.W.keepIn K (.ref f4) = true)
    (a5 : PySem.W.nsIn K mainGlobals "_law_behind" = some (some (.ref f5))) (l5 : K.lookup f5 = some ⟨oc5, od5, .func (PySem.W.fnOf "_law_behind" "_law_behind" (bx j6) (bt j6) (aM j6) .none kV5 dc5 pm5 an5 cd5 ct5), sl5⟩) (c5 : PySem.W.codeIn K cd5 "_law_behind" = true) (k5 : PySem.W.keepIn K (.ref f5) = true)
    (a6 : PySem.W.nsIn K mainGlobals "_law_cell_at" = some (some (.ref f6))) (l6 : K.lookup f6 = some ⟨oc6, od6, .func (PySem.W.fnOf "_law_cell_at" "_law_cell_at" (bx kn) (bt kn) (aM kn) .none kV6 dc6 pm6 an6 cd6 ct6), sl6⟩) (c6 : PySem.W.codeIn K cd6 "_law_cell_at" = true) (k6 : PySem.W.keepIn K (.ref f6) = true)
    (a7 : PySem.W.nsIn K mainGlobals "_law_pattern" = some (some (.ref f7))) (l7 : K.lookup f7 = some ⟨oc7, od7, .func (PySem.W.fnOf "_law_pattern" "_law_pattern" (bx jA) (bt jA) (aM jA) .none kV7 dc7 pm7 an7 cd7 ct7), sl7⟩) (c7 : PySem.W.codeIn K cd7 "_law_pattern" = true) (k7 : PySem.W.keepIn K (.ref f7) = true)
    (a8 : PySem.W.nsIn K mainGlobals "_law_faulty" = some (some (.ref f8))) (l8 : K.lookup f8 = some ⟨oc8, od8, .func (PySem.W.fnOf "_law_faulty" "_law_faulty" (bx jr) (bt jr) (aM jr) .none kV8 dc8 pm8 an8 cd8 ct8), sl8⟩) (c8 : PySem.W.codeIn K cd8 "_law_faulty" = true) (k8 : PySem.W.keepIn K (.ref f8) = true)
    (a9 : PySem.W.nsIn K mainGlobals "steps_of" = some (some (.ref f9))) (l9 : K.lookup f9 = some ⟨oc9, od9, .func (PySem.W.fnOf "steps_of" "steps_of" (bx kx) (bt kx) (aM kx) .none kV9 dc9 pm9 an9 cd9 ct9), sl9⟩) (c9 : PySem.W.codeIn K cd9 "steps_of" = true) (k9 : PySem.W.keepIn K (.ref f9) = true)
    (a10 : PySem.W.nsIn K mainGlobals "places_taken" = some (some (.ref f10))) (l10 : K.lookup f10 = some ⟨oc10, od10, .func (PySem.W.fnOf "places_taken" "places_taken" (bx kb) (bt kb) (aM kb) .none kV10 dc10 pm10 an10 cd10 ct10), sl10⟩) (c10 : PySem.W.codeIn K cd10 "places_taken" = true) (k10 : PySem.W.keepIn K (.ref f10) = true)
    (a11 : PySem.W.nsIn K mainGlobals "is_too_many" = some (some (.ref f11))) (l11 : K.lookup f11 = some ⟨oc11, od11, .func (PySem.W.fnOf "is_too_many" "is_too_many" (bx jG) (bt jG) (aM jG) .none kV11 dc11 pm11 an11 cd11 ct11), sl11⟩) (c11 : PySem.W.codeIn K cd11 "is_too_many" = true) (k11 : PySem.W.keepIn K (.ref f11) = true)
    (a12 : PySem.W.nsIn K mainGlobals "fault_of" = some (some (.ref f12))) (l12 : K.lookup f12 = some ⟨oc12, od12, .func (PySem.W.fnOf "fault_of" "fault_of" (bx kC) (bt kC) (aM kC) .none kV12 dc12 pm12 an12 cd12 ct12), sl12⟩) (c12 : PySem.W.codeIn K cd12 "fault_of" = true) (k12 : PySem.W.keepIn K (.ref f12) = true)
    (a13 : PySem.W.nsIn K mainGlobals "count_left" = some (some (.ref f13))) (l13 : K.lookup f13 = some ⟨oc13, od13, .func (PySem.W.fnOf "count_left" "count_left" (bx jB) (bt jB) (aM jB) .none kV13 dc13 pm13 an13 cd13 ct13), sl13⟩) (c13 : PySem.W.codeIn K cd13 "count_left" = true) (k13 : PySem.W.keepIn K (.ref f13) = true)
    (a14 : PySem.W.nsIn K mainGlobals "counts_behind" = some (some (.ref f14))) (l14 : K.lookup f14 = some ⟨oc14, od14, .func (PySem.W.fnOf "counts_behind" "counts_behind" (bx j8) (bt j8) (aM j8) .none kV14 dc14 pm14 an14 cd14 ct14), sl14⟩) (c14 : PySem.W.codeIn K cd14 "counts_behind" = true) (k14 : PySem.W.keepIn K (.ref f14) = true)
    (a15 : PySem.W.nsIn K mainGlobals "looked" = some (some (.ref f15))) (l15 : K.lookup f15 = some ⟨oc15, od15, .func (PySem.W.fnOf "looked" "looked" (bx jk) (bt jk) (aM jk) .none kV15 dc15 pm15 an15 cd15 ct15), sl15⟩) (c15 : PySem.W.codeIn K cd15 "looked" = true) (k15 : PySem.W.keepIn K (.ref f15) = true)
    (a16 : PySem.W.nsIn K mainGlobals "need_good" = some (some (.ref f16))) (l16 : K.lookup f16 = some ⟨oc16, od16, .func (PySem.W.fnOf "need_good" "need_good" (bx jt) (bt jt) (aM jt) .none kV16 dc16 pm16 an16 cd16 ct16), sl16⟩) (c16 : PySem.W.codeIn K cd16 "need_good" = true) (k16 : PySem.W.keepIn K (.ref f16) = true)
    (a17 : PySem.W.nsIn K mainGlobals "joined" = some (some (.ref f17))) (l17 : K.lookup f17 = some ⟨oc17, od17, .func (PySem.W.fnOf "joined" "joined" (bx j2) (bt j2) (aM j2) .none kV17 dc17 pm17 an17 cd17 ct17), sl17⟩) (c17 : PySem.W.codeIn K cd17 "joined" = true) (k17 : PySem.W.keepIn K (.ref f17) = true)
    (a18 : PySem.W.nsIn K mainGlobals "stitched" = some (some (.ref f18))) (l18 : K.lookup f18 = some ⟨oc18, od18, .func (PySem.W.fnOf "stitched" "stitched" (bx j7) (bt j7) (aM j7) .none kV18 dc18 pm18 an18 cd18 ct18), sl18⟩) (c18 : PySem.W.codeIn K cd18 "stitched" = true) (k18 : PySem.W.keepIn K (.ref f18) = true)
    (a19 : PySem.W.nsIn K mainGlobals "worked" = some (some (.ref f19))) (l19 : K.lookup f19 = some ⟨oc19, od19, .func (PySem.W.fnOf "worked" "worked" (bx kq) (bt kq) (aM kq) .none kV19 dc19 pm19 an19 cd19 ct19), sl19⟩) (c19 : PySem.W.codeIn K cd19 "worked" = true) (k19 : PySem.W.keepIn K (.ref f19) = true)
    (a20 : PySem.W.nsIn K mainGlobals "told" = some (some (.ref f20))) (l20 : K.lookup f20 = some ⟨oc20, od20, .func (PySem.W.fnOf "told" "told" (bx jw) (bt jw) (aM jw) .none kV20 dc20 pm20 an20 cd20 ct20), sl20⟩) (c20 : PySem.W.codeIn K cd20 "told" = true) (k20 : PySem.W.keepIn K (.ref f20) = true)
    (a21 : PySem.W.nsIn K mainGlobals "nearer" = some (some (.ref f21))) (l21 : K.lookup f21 = some ⟨oc21, od21, .func (PySem.W.fnOf "nearer" "nearer" (bx jS) (bt jS) (aM jS) .none kV21 dc21 pm21 an21 cd21 ct21), sl21⟩) (c21 : PySem.W.codeIn K cd21 "nearer" = true) (k21 : PySem.W.keepIn K (.ref f21) = true)
    (a22 : PySem.W.nsIn K mainGlobals "moves_along" = some (some (.ref f22))) (l22 : K.lookup f22 = some ⟨oc22, od22, .func (PySem.W.fnOf "moves_along" "moves_along" (bx jv) (bt jv) (aM jv) .none kV22 dc22 pm22 an22 cd22 ct22), sl22⟩) (c22 : PySem.W.codeIn K cd22 "moves_along" = true) (k22 : PySem.W.keepIn K (.ref f22) = true)
    (a23 : PySem.W.nsIn K mainGlobals "joining_moves" = some (some (.ref f23))) (l23 : K.lookup f23 = some ⟨oc23, od23, .func (PySem.W.fnOf "joining_moves" "joining_moves" (bx kl) (bt kl) (aM kl) .none kV23 dc23 pm23 an23 cd23 ct23), sl23⟩) (c23 : PySem.W.codeIn K cd23 "joining_moves" = true) (k23 : PySem.W.keepIn K (.ref f23) = true)
    (a24 : PySem.W.nsIn K mainGlobals "ways_of" = some (some (.ref f24))) (l24 : K.lookup f24 = some ⟨oc24, od24, .func (PySem.W.fnOf "ways_of" "ways_of" (bx ku) (bt ku) (aM ku) .none kV24 dc24 pm24 an24 cd24 ct24), sl24⟩) (c24 : PySem.W.codeIn K cd24 "ways_of" = true) (k24 : PySem.W.keepIn K (.ref f24) = true)
    (a25 : PySem.W.nsIn K mainGlobals "placing_moves" = some (some (.ref f25))) (l25 : K.lookup f25 = some ⟨oc25, od25, .func (PySem.W.fnOf "placing_moves" "placing_moves" (bx kz) (bt kz) (aM kz) .none kV25 dc25 pm25 an25 cd25 ct25), sl25⟩) (c25 : PySem.W.codeIn K cd25 "placing_moves" = true) (k25 : PySem.W.keepIn K (.ref f25) = true)
    (a26 : PySem.W.nsIn K mainGlobals "stitch_deeds" = some (some (.ref f26))) (l26 : K.lookup f26 = some ⟨oc26, od26, .func (PySem.W.fnOf "stitch_deeds" "stitch_deeds" (bx ka) (bt ka) (aM ka) .none kV26 dc26 pm26 an26 cd26 ct26), sl26⟩) (c26 : PySem.W.codeIn K cd26 "stitch_deeds" = true) (k26 : PySem.W.keepIn K (.ref f26) = true)
    (a27 : PySem.W.nsIn K mainGlobals "worked_deeds" = some (some (.ref f27))) (l27 : K.lookup f27 = some ⟨oc27, od27, .func (PySem.W.fnOf "worked_deeds" "worked_deeds" (bx kf) (bt kf) (aM kf) .none kV27 dc27 pm27 an27 cd27 ct27), sl27⟩) (c27 : PySem.W.codeIn K cd27 "worked_deeds" = true) (k27 : PySem.W.keepIn K (.ref f27) = true)
    (a28 : PySem.W.nsIn K mainGlobals "made" = some (some (.ref f28))) (l28 : K.lookup f28 = some ⟨oc28, od28, .func (PySem.W.fnOf "made" "made" (bx j3) (bt j3) (aM j3) .none kV28 dc28 pm28 an28 cd28 ct28), sl28⟩) (c28 : PySem.W.codeIn K cd28 "made" = true) (k28 : PySem.W.keepIn K (.ref f28) = true)
    (a29 : PySem.W.nsIn K mainGlobals "_law_crowded" = some (some (.ref f29))) (l29 : K.lookup f29 = some ⟨oc29, od29, .func (PySem.W.fnOf "_law_crowded" "_law_crowded" (bx j0) (bt j0) (aM j0) .none kV29 dc29 pm29 an29 cd29 ct29), sl29⟩) (c29 : PySem.W.codeIn K cd29 "_law_crowded" = true) (k29 : PySem.W.keepIn K (.ref f29) = true)
    (a30 : PySem.W.nsIn K mainGlobals "_law_refused" = some (some (.ref f30))) (l30 : K.lookup f30 = some ⟨oc30, od30, .func (PySem.W.fnOf "_law_refused" "_law_refused" (bx kg) (bt kg) (aM kg) .none kV30 dc30 pm30 an30 cd30 ct30), sl30⟩) (c30 : PySem.W.codeIn K cd30 "_law_refused" = true) (k30 : PySem.W.keepIn K (.ref f30) = true)
    (a31 : PySem.W.nsIn K mainGlobals "_law_unmade" = some (some (.ref f31))) (l31 : K.lookup f31 = some ⟨oc31, od31, .func (PySem.W.fnOf "_law_unmade" "_law_unmade" (bx jO) (bt jO) (aM jO) .none kV31 dc31 pm31 an31 cd31 ct31), sl31⟩) (c31 : PySem.W.codeIn K cd31 "_law_unmade" = true) (k31 : PySem.W.keepIn K (.ref f31) = true)
    (a32 : PySem.W.nsIn K mainGlobals "law" = some (some (.ref f32))) (l32 : K.lookup f32 = some ⟨oc32, od32, .func (PySem.W.fnOf "law" "law" (bx gh) (bt gh) (aM gh) .none kV32 dc32 pm32 an32 cd32 ct32), sl32⟩) (c32 : PySem.W.codeIn K cd32 "law" = true) (k32 : PySem.W.keepIn K (.ref f32) = true)
    (z_ValueError : PySem.W.nsIn K mainGlobals "ValueError" = some none)
    (z_any : PySem.W.nsIn K mainGlobals "any" = some none)
    (z_enumerate : PySem.W.nsIn K mainGlobals "enumerate" = some none)
    (z_isinstance : PySem.W.nsIn K mainGlobals "isinstance" = some none)
    (z_len : PySem.W.nsIn K mainGlobals "len" = some none)
    (z_list : PySem.W.nsIn K mainGlobals "list" = some none)
    (z_max : PySem.W.nsIn K mainGlobals "max" = some none)
    (z_min : PySem.W.nsIn K mainGlobals "min" = some none)
    (z_range : PySem.W.nsIn K mainGlobals "range" = some none)
    (z_reversed : PySem.W.nsIn K mainGlobals "reversed" = some none)
    (z_sum : PySem.W.nsIn K mainGlobals "sum" = some none)
    (z_tuple : PySem.W.nsIn K mainGlobals "tuple" = some none)
    (g_FARTHEST : PySem.W.nsIn K mainGlobals "FARTHEST" = some (some (.int 2 t_FARTHEST)))
    (g_MOST_LOOPS : PySem.W.nsIn K mainGlobals "MOST_LOOPS" = some (some (.int 4 t_MOST_LOOPS)))
    (g_MOST_WIDE : PySem.W.nsIn K mainGlobals "MOST_WIDE" = some (some (.int 16 t_MOST_WIDE)))
    (g_TAKES : PySem.W.nsIn K mainGlobals "TAKES" = some (some (.ref a_TAKES)))
    (h_TAKES : PyProof.Rows.KTD.tabLook (PyProof.Rows.KTD.datLooks fun b => K.lookup b) (fun b => K.lookup b) a_TAKES (iZ eZ) = true)
    (nc_BedFault : PySem.W.nsIn K mainGlobals "BedFault" = some (some (.ref C_BedFault)))
    (nc_LoopError : PySem.W.nsIn K mainGlobals "LoopError" = some (some (.ref C_LoopError)))
    (nc_NoPattern : PySem.W.nsIn K mainGlobals "NoPattern" = some (some (.ref C_NoPattern)))
    (nc_Unfit : PySem.W.nsIn K mainGlobals "Unfit" = some (some (.ref C_Unfit)))
    (xq_Unfit : PySem.W.excIn K C_Unfit bmV "ValueError.__new__" = true)
    (xk_Unfit : mQ K C_Unfit = true)
    (xm_Unfit_BedFault : PySem.W.exmOne K (.ref C_Unfit) (.ref C_BedFault) = some false)
    (xi_Unfit_BedFault : PySem.W.kitOne K (.ref C_Unfit) (.ref C_BedFault) = some false)
    (xm_Unfit_LoopError : PySem.W.exmOne K (.ref C_Unfit) (.ref C_LoopError) = some true)
    (xi_Unfit_LoopError : PySem.W.kitOne K (.ref C_Unfit) (.ref C_LoopError) = some true)
    (xm_Unfit_NoPattern : PySem.W.exmOne K (.ref C_Unfit) (.ref C_NoPattern) = some false)
    (xi_Unfit_NoPattern : PySem.W.kitOne K (.ref C_Unfit) (.ref C_NoPattern) = some false)
    (xm_Unfit_Unfit : PySem.W.exmOne K (.ref C_Unfit) (.ref C_Unfit) = some true)
    (xi_Unfit_Unfit : PySem.W.kitOne K (.ref C_Unfit) (.ref C_Unfit) = some true)
    (xv_Unfit : PySem.W.kitOne K (.ref C_Unfit) (.type "ValueError") = some true) :
    ∃ fd : FuncData, (∀ (s : Shared) (v : Value), BindsTo s fd ⟨[v], []⟩ [("script", v)]) ∧ ∀ base : Heap, K.In base → base.Ns mainGlobals mg → aW l.prog w K mg base CX0 7 fa fd ["script"] (spP K (fun _ => .none) 1 iK) := by
  have e := hfa.symm.trans (PySem.W.mg_of X G a32)
  cases e
  have T : Txt K mg := ⟨PySem.W.mg_none_of X G z_ValueError, PySem.W.mg_none_of X G z_any, PySem.W.mg_none_of X G z_enumerate, PySem.W.mg_none_of X G z_isinstance, PySem.W.mg_none_of X G z_len, PySem.W.mg_none_of X G z_list, PySem.W.mg_none_of X G z_max, PySem.W.mg_none_of X G z_min, PySem.W.mg_none_of X G z_range, PySem.W.mg_none_of X G z_reversed, PySem.W.mg_none_of X G z_sum, PySem.W.mg_none_of X G z_tuple, nO (PySem.W.mg_of X G g_FARTHEST), nO (PySem.W.mg_of X G g_MOST_LOOPS), nO (PySem.W.mg_of X G g_MOST_WIDE), yU (PySem.W.mg_of X G g_TAKES) h_TAKES, ⟨C_Unfit, PySem.W.mg_of X G nc_Unfit, xq_Unfit⟩, ⟨C_BedFault, PySem.W.mg_of X G nc_BedFault, (mr (PySem.W.mg_of X G nc_Unfit) nc_Unfit xm_Unfit_BedFault mV), (lb nc_Unfit xk_Unfit xi_Unfit_BedFault lB)⟩, ⟨C_LoopError, PySem.W.mg_of X G nc_LoopError, (mr (PySem.W.mg_of X G nc_Unfit) nc_Unfit xm_Unfit_LoopError mV), (lb nc_Unfit xk_Unfit xi_Unfit_LoopError lB)⟩, ⟨C_NoPattern, PySem.W.mg_of X G nc_NoPattern, (mr (PySem.W.mg_of X G nc_Unfit) nc_Unfit xm_Unfit_NoPattern mV), (lb nc_Unfit xk_Unfit xi_Unfit_NoPattern lB)⟩, ⟨C_Unfit, PySem.W.mg_of X G nc_Unfit, (mr (PySem.W.mg_of X G nc_Unfit) nc_Unfit xm_Unfit_Unfit mV), (lb nc_Unfit xk_Unfit xi_Unfit_Unfit lB)⟩, (lb nc_Unfit xk_Unfit xv_Unfit lB)⟩
  have F0 := bI (st := jQ) l0 c0 k0
  have F1 := bI (st := j9) l1 c1 k1
  have F2 := bI (st := jm) l2 c2 k2
  have F3 := bI (st := ke) l3 c3 k3
  have F4 := bI (st := s_row) l4 c4 k4
  have F5 := bI (st := j6) l5 c5 k5
  have F6 := bI (st := kn) l6 c6 k6
  have F7 := bI (st := jA) l7 c7 k7
  have F8 := bI (st := jr) l8 c8 k8
  have F9 := bI (st := kx) l9 c9 k9
  have F10 := bI (st := kb) l10 c10 k10
  have F11 := bI (st := jG) l11 c11 k11
  have F12 := bI (st := kC) l12 c12 k12
  have F13 := bI (st := jB) l13 c13 k13
  have F14 := bI (st := j8) l14 c14 k14
  have F15 := bI (st := jk) l15 c15 k15
  have F16 := bI (st := jt) l16 c16 k16
  have F17 := bI (st := j2) l17 c17 k17
  have F18 := bI (st := j7) l18 c18 k18
  have F19 := bI (st := kq) l19 c19 k19
  have F20 := bI (st := jw) l20 c20 k20
  have F21 := bI (st := jS) l21 c21 k21
  have F22 := bI (st := jv) l22 c22 k22
  have F23 := bI (st := kl) l23 c23 k23
  have F24 := bI (st := ku) l24 c24 k24
  have F25 := bI (st := kz) l25 c25 k25
  have F26 := bI (st := ka) l26 c26 k26
  have F27 := bI (st := kf) l27 c27 k27
  have F28 := bI (st := j3) l28 c28 k28
  have F29 := bI (st := j0) l29 c29 k29
  have F30 := bI (st := kg) l30 c30 k30
  have F31 := bI (st := jO) l31 c31 k31
  have F32 := bI (st := gh) l32 c32 k32
  refine ⟨PySem.W.fnOf "law" "law" (bx gh) (bt gh) (aM gh) .none kV32 dc32 pm32 an32 cd32 ct32, fun s v => .of_eq rfl, fun base _ _ => ?_⟩
  have D_menu : aR l.prog w K mg base 1 "_law_menu" 2 cN := ⟨_, _, _, vZ F0 T , PySem.W.mg_of X G a0, k0, F0.binds (ps := ["way", "counts"]) fun _ _ _ _ _ _ us hl => by obtain ⟨_, _, rfl⟩ := dn us hl; rfl⟩
  have D_stitch : aR l.prog w K mg base 1 "_law_stitch" 5 iB := ⟨_, _, _, vR F1 T , PySem.W.mg_of X G a1, k1, F1.binds (ps := ["way", "sign", "counts", "at", "room"]) fun _ _ _ _ _ _ us hl => by obtain ⟨_, _, _, _, _, rfl⟩ := Bx us hl; rfl⟩
  have D_mix : aR l.prog w K mg base 1 "_law_mix" 2 de := ⟨_, _, _, DD F2 T , PySem.W.mg_of X G a2, k2, F2.binds (ps := ["cell", "k"]) fun _ _ _ _ _ _ us hl => by obtain ⟨_, _, rfl⟩ := dn us hl; rfl⟩
  have D_taken : aR l.prog w K mg base 1 "_law_taken" 1 fg := ⟨_, _, _, ze F3 T , PySem.W.mg_of X G a3, k3, F3.binds (ps := ["stitch"]) fun _ _ _ _ _ _ us hl => by obtain ⟨_, rfl⟩ := eG us hl; rfl⟩
  have D_row : aR l.prog w K mg base 2 "_law_row" 2 fY := ⟨_, _, _, DH F4 T D_menu D_stitch D_mix D_taken, PySem.W.mg_of X G a4, k4, F4.binds (ps := ["cell", "counts"]) fun _ _ _ _ _ _ us hl => by obtain ⟨_, _, rfl⟩ := dn us hl; rfl⟩
  have D_behind : aR l.prog w K mg base 2 "_law_behind" 2 iO := ⟨_, _, _, zU F5 T D_taken, PySem.W.mg_of X G a5, k5, F5.binds (ps := ["stitches", "counts"]) fun _ _ _ _ _ _ us hl => by obtain ⟨_, _, rfl⟩ := dn us hl; rfl⟩
  have D_cell_at : aR l.prog w K mg base 1 "_law_cell_at" 2 cI := ⟨_, _, _, yA F6 T , PySem.W.mg_of X G a6, k6, F6.binds (ps := ["script", "k"]) fun _ _ _ _ _ _ us hl => by obtain ⟨_, _, rfl⟩ := dn us hl; rfl⟩
  have D_pattern : aR l.prog w K mg base 3 "_law_pattern" 3 je := ⟨_, _, _, vV F7 T D_row D_behind D_cell_at D_mix, PySem.W.mg_of X G a7, k7, F7.binds (ps := ["script", "rows", "widest"]) fun _ _ _ _ _ _ us hl => by obtain ⟨_, _, _, rfl⟩ := rW us hl; rfl⟩
  have D_faulty : aR l.prog w K mg base 1 "_law_faulty" 2 gR := ⟨_, _, _, xk F8 T , PySem.W.mg_of X G a8, k8, F8.binds (ps := ["cell", "width"]) fun _ _ _ _ _ _ us hl => by obtain ⟨_, _, rfl⟩ := dn us hl; rfl⟩
  have D_steps_of : aR l.prog w K mg base 1 "steps_of" 1 dO := ⟨_, _, _, Av F9 T , PySem.W.mg_of X G a9, k9, F9.binds (ps := ["stitches"]) fun _ _ _ _ _ _ us hl => by obtain ⟨_, rfl⟩ := eG us hl; rfl⟩
  have D_places_taken : aR l.prog w K mg base 1 "places_taken" 1 jo := ⟨_, _, _, Au F10 T , PySem.W.mg_of X G a10, k10, F10.binds (ps := ["stitches"]) fun _ _ _ _ _ _ us hl => by obtain ⟨_, rfl⟩ := eG us hl; rfl⟩
  have D_is_too_many : aR l.prog w K mg base 1 "is_too_many" 2 eU := ⟨_, _, _, Ax F11 T , PySem.W.mg_of X G a11, k11, F11.binds (ps := ["stitch", "met"]) fun _ _ _ _ _ _ us hl => by obtain ⟨_, _, rfl⟩ := dn us hl; rfl⟩
  have D_fault_of : aR l.prog w K mg base 2 "fault_of" 2 d7 := ⟨_, _, _, CA F12 T D_steps_of D_places_taken D_is_too_many, PySem.W.mg_of X G a12, k12, F12.binds (ps := ["stitches", "counts"]) fun _ _ _ _ _ _ us hl => by obtain ⟨_, _, rfl⟩ := dn us hl; rfl⟩
  have D_count_left : aR l.prog w K mg base 1 "count_left" 2 iJ := ⟨_, _, _, Cm F13 T , PySem.W.mg_of X G a13, k13, F13.binds (ps := ["stitch", "met"]) fun _ _ _ _ _ _ us hl => by obtain ⟨_, _, rfl⟩ := dn us hl; rfl⟩
  have D_counts_behind : aR l.prog w K mg base 2 "counts_behind" 2 iG := ⟨_, _, _, B4 F14 T D_steps_of D_count_left, PySem.W.mg_of X G a14, k14, F14.binds (ps := ["stitches", "counts"]) fun _ _ _ _ _ _ us hl => by obtain ⟨_, _, rfl⟩ := dn us hl; rfl⟩
  have D_looked : aR l.prog w K mg base 3 "looked" 1 fQ := ⟨_, _, _, z8 F15 T D_fault_of D_counts_behind, PySem.W.mg_of X G a15, k15, F15.binds (ps := ["pattern"]) fun _ _ _ _ _ _ us hl => by obtain ⟨_, rfl⟩ := eG us hl; rfl⟩
  have D_need_good : eB l.prog w K mg base 4 "need_good" 1 dS := ⟨_, _, _, Cf F16 T D_looked, PySem.W.mg_of X G a16, k16, F16.binds (ps := ["pattern"]) fun _ _ _ _ _ _ us hl => by obtain ⟨_, rfl⟩ := eG us hl; rfl⟩
  have D_joined : aR l.prog w K mg base 1 "joined" 2 iM := ⟨_, _, _, wD F17 T , PySem.W.mg_of X G a17, k17, F17.binds (ps := ["taken", "right_first"]) fun _ _ _ _ _ _ us hl => by obtain ⟨_, _, rfl⟩ := dn us hl; rfl⟩
  have D_stitched : jD l.prog w K mg base 2 "stitched" 4 [3] i6 := ⟨_, _, _, wO F18 T D_joined, PySem.W.mg_of X G a18, k18, F18.binds (ps := ["stitch", "yarn", "taken", "cloth"]) fun _ _ _ _ _ _ us hl => by obtain ⟨_, _, _, _, rfl⟩ := tx us hl; rfl⟩
  have D_worked : jD l.prog w K mg base 3 "worked" 4 [3] i8 := ⟨_, _, _, BG F19 T D_steps_of D_stitched, PySem.W.mg_of X G a19, k19, F19.binds (ps := ["row", "from_right", "places", "cloth"]) fun _ _ _ _ _ _ us hl => by obtain ⟨_, _, _, _, rfl⟩ := tx us hl; rfl⟩
  have D_told : eB l.prog w K mg base 5 "told" 1 ey := ⟨_, _, _, yk F20 T D_need_good D_worked, PySem.W.mg_of X G a20, k20, F20.binds (ps := ["pattern"]) fun _ _ _ _ _ _ us hl => by obtain ⟨_, rfl⟩ := eG us hl; rfl⟩
  have D_nearer : aR l.prog w K mg base 1 "nearer" 2 eK := ⟨_, _, _, za F21 T , PySem.W.mg_of X G a21, k21, F21.binds (ps := ["at", "goal"]) fun _ _ _ _ _ _ us hl => by obtain ⟨_, _, rfl⟩ := dn us hl; rfl⟩
  have D_moves_along : aR l.prog w K mg base 2 "moves_along" 2 dJ := ⟨_, _, _, xJ F22 T D_nearer, PySem.W.mg_of X G a22, k22, F22.binds (ps := ["source", "goal"]) fun _ _ _ _ _ _ us hl => by obtain ⟨_, _, rfl⟩ := dn us hl; rfl⟩
  have D_joining_moves : aR l.prog w K mg base 3 "joining_moves" 1 h9 := ⟨_, _, _, A0 F23 T D_steps_of D_moves_along, PySem.W.mg_of X G a23, k23, F23.binds (ps := ["stitches"]) fun _ _ _ _ _ _ us hl => by obtain ⟨_, rfl⟩ := eG us hl; rfl⟩
  have D_ways_of : aR l.prog w K mg base 2 "ways_of" 1 jN := ⟨_, _, _, BR F24 T D_steps_of, PySem.W.mg_of X G a24, k24, F24.binds (ps := ["stitches"]) fun _ _ _ _ _ _ us hl => by obtain ⟨_, rfl⟩ := eG us hl; rfl⟩
  have D_placing_moves : aR l.prog w K mg base 3 "placing_moves" 1 hW := ⟨_, _, _, xj F25 T D_ways_of D_moves_along, PySem.W.mg_of X G a25, k25, F25.binds (ps := ["stitches"]) fun _ _ _ _ _ _ us hl => by obtain ⟨_, rfl⟩ := eG us hl; rfl⟩
  have D_stitch_deeds : aR l.prog w K mg base 1 "stitch_deeds" 3 i7 := ⟨_, _, _, wz F26 T , PySem.W.mg_of X G a26, k26, F26.binds (ps := ["stitch", "hook", "yarn"]) fun _ _ _ _ _ _ us hl => by obtain ⟨_, _, _, rfl⟩ := rW us hl; rfl⟩
  have D_worked_deeds : aR l.prog w K mg base 2 "worked_deeds" 2 gP := ⟨_, _, _, BX F27 T D_stitch_deeds, PySem.W.mg_of X G a27, k27, F27.binds (ps := ["row", "from_right"]) fun _ _ _ _ _ _ us hl => by obtain ⟨_, _, rfl⟩ := dn us hl; rfl⟩
  have D_made : eB l.prog w K mg base 5 "made" 1 eH := ⟨_, _, _, C3 F28 T D_need_good D_joining_moves D_placing_moves D_worked_deeds, PySem.W.mg_of X G a28, k28, F28.binds (ps := ["pattern"]) fun _ _ _ _ _ _ us hl => by obtain ⟨_, rfl⟩ := eG us hl; rfl⟩
  have D_crowded : aR l.prog w K mg base 1 "_law_crowded" 2 iy := ⟨_, _, _, yY F29 T , PySem.W.mg_of X G a29, k29, F29.binds (ps := ["many", "cell"]) fun _ _ _ _ _ _ us hl => by obtain ⟨_, _, rfl⟩ := dn us hl; rfl⟩
  have D_refused : aR l.prog w K mg base 6 "_law_refused" 1 gS := ⟨_, _, _, Bh F30 T D_told, PySem.W.mg_of X G a30, k30, F30.binds (ps := ["pattern"]) fun _ _ _ _ _ _ us hl => by obtain ⟨_, rfl⟩ := eG us hl; rfl⟩
  have D_unmade : aR l.prog w K mg base 6 "_law_unmade" 1 gU := ⟨_, _, _, yi F31 T D_made, PySem.W.mg_of X G a31, k31, F31.binds (ps := ["pattern"]) fun _ _ _ _ _ _ us hl => by obtain ⟨_, rfl⟩ := eG us hl; rfl⟩
  exact yT F32 T D_pattern D_faulty D_told D_made D_crowded D_cell_at D_refused D_unmade
theorem walk {l : PySem.W.OpenLaw} {q : Program} {loose : List Str} {XP : (Str → Option Value) → Heap → Prop} {YP : World → Heap → Prop} {d : DefRec} {K : Params → PySem.W.Frag} (hn : l.most = some 63) (hdf : d.params.defaults = [])
    (hY : ∀ (w : World) (h : Heap), YP w h → (K w.params).In h)
    (F : ∀ (w : World) (mg : Str → Option Value) (fa : Addr) (h : Heap), (K w.params).In h → h.Ns mainGlobals mg → mg d.name = some (.ref fa) →
      ∃ fd : FuncData, (∀ (s : Shared) (u : Value), BindsTo s fd ⟨[u], []⟩ [("script", u)]) ∧ ∀ base : Heap, (K w.params).In base → base.Ns mainGlobals mg → aW l.prog w (K w.params) mg base CX0 7 fa fd ["script"] (spP (K w.params) (fun _ => .none) 1 iK)) :
    PySem.W.WalkO q loose XP YP l.row.toRowW d [] (fun f vs => PySem.call f vs) :=
  L2.xZ (n := 63) (k := 7) (x := "script") (CX := fun _ => CX0) (sp := fun w => spP (K w.params) (fun _ => .none) 1 iK) hn (by decide) hdf ⟨rfl, by decide, by decide, rfl⟩ hY F (fun w H a ns hl hO hS => Cz (xK ns hl) hO hS) fun _ _ _ _ _ z => z
end Lw
open PySem PySem.W PyProof.Rows
set_option maxRecDepth 100000 in
set_option maxHeartbeats 0 in
theorem PySem.Challenge.cw_loopbed_k16_unfit_holds : PySem.Challenge.rw_loopbed_k16_unfit.Holds := by
  w_on; o_law; k_head; (case hw => w_witness2)
  k_fill
  refine Lw.walk (l := PySem.Challenge.rw_loopbed_k16_unfit) rfl rfl (fun w h Y => PySem.W.kIn_of Y) ?F
  case F =>
    intro w mg fa h KX G hmg
    refine' Lw.all_mk KX G hmg ?a0 ?l0 ?c0 ?k0 ?a1 ?l1 ?c1 ?k1 ?a2 ?l2 ?c2 ?k2 ?a3 ?l3 ?c3 ?k3 ?a4 ?l4 ?c4 ?k4 ?a5 ?l5 ?c5 ?k5 ?a6 ?l6 ?c6 ?k6 ?a7 ?l7 ?c7 ?k7 ?a8 ?l8 ?c8 ?k8 ?a9 ?l9 ?c9 ?k9 ?a10 ?l10 ?c10 ?k10 ?a11 ?l11 ?c11 ?k11 ?a12 ?l12 ?c12 ?k12 ?a13 ?l13 ?c13 ?k13 ?a14 ?l14 ?c14 ?k14 ?a15 ?l15 ?c15 ?k15 ?a16 ?l16 ?c16 ?k16 ?a17 ?l17 ?c17 ?k17 ?a18 ?l18 ?c18 ?k18 ?a19 ?l19 ?c19 ?k19 ?a20 ?l20 ?c20 ?k20 ?a21 ?l21 ?c21 ?k21 ?a22 ?l22 ?c22 ?k22 ?a23 ?l23 ?c23 ?k23 ?a24 ?l24 ?c24 ?k24 ?a25 ?l25 ?c25 ?k25 ?a26 ?l26 ?c26 ?k26 ?a27 ?l27 ?c27 ?k27 ?a28 ?l28 ?c28 ?k28 ?a29 ?l29 ?c29 ?k29 ?a30 ?l30 ?c30 ?k30 ?a31 ?l31 ?c31 ?k31 ?a32 ?l32 ?c32 ?k32 ?z_ValueError ?z_any ?z_enumerate ?z_isinstance ?z_len ?z_list ?z_max ?z_min ?z_range ?z_reversed ?z_sum ?z_tuple ?g_FARTHEST ?g_MOST_LOOPS ?g_MOST_WIDE ?g_TAKES ?h_TAKES ?nc_BedFault ?nc_LoopError ?nc_NoPattern ?nc_Unfit ?xq_Unfit ?xk_Unfit ?xm_Unfit_BedFault ?xi_Unfit_BedFault ?xm_Unfit_LoopError ?xi_Unfit_LoopError ?xm_Unfit_NoPattern ?xi_Unfit_NoPattern ?xm_Unfit_Unfit ?xi_Unfit_Unfit ?xv_Unfit
    (case a0 => k_is)
    (case l0 => k_is)
    (case c0 => k_is)
    (case k0 => k_is)
    (case a1 => k_is)
    (case l1 => k_is)
    (case c1 => k_is)
    (case k1 => k_is)
    (case a2 => k_is)
    (case l2 => k_is)
    (case c2 => k_is)
    (case k2 => k_is)
    (case a3 => k_is)
    (case l3 => k_is)
    (case c3 => k_is)
    (case k3 => k_is)
    (case a4 => k_is)
    (case l4 => k_is)
    (case c4 => k_is)
    (case k4 => k_is)
    (case a5 => k_is)
    (case l5 => k_is)
    (case c5 => k_is)
    (case k5 => k_is)
    (case a6 => k_is)
    (case l6 => k_is)
    (case c6 => k_is)
    (case k6 => k_is)
    (case a7 => k_is)
    (case l7 => k_is)
    (case c7 => k_is)
    (case k7 => k_is)
    (case a8 => k_is)
    (case l8 => k_is)
    (case c8 => k_is)
    (case k8 => k_is)
    (case a9 => k_is)
    (case l9 => k_is)
    (case c9 => k_is)
    (case k9 => k_is)
    (case a10 => k_is)
    (case l10 => k_is)
    (case c10 => k_is)
    (case k10 => k_is)
    (case a11 => k_is)
    (case l11 => k_is)
    (case c11 => k_is)
    (case k11 => k_is)
    (case a12 => k_is)
    (case l12 => k_is)
    (case c12 => k_is)
    (case k12 => k_is)
    (case a13 => k_is)
    (case l13 => k_is)
    (case c13 => k_is)
    (case k13 => k_is)
    (case a14 => k_is)
    (case l14 => k_is)
    (case c14 => k_is)
    (case k14 => k_is)
    (case a15 => k_is)
    (case l15 => k_is)
    (case c15 => k_is)
    (case k15 => k_is)
    (case a16 => k_is)
    (case l16 => k_is)
    (case c16 => k_is)
    (case k16 => k_is)
    (case a17 => k_is)
    (case l17 => k_is)
    (case c17 => k_is)
    (case k17 => k_is)
    (case a18 => k_is)
    (case l18 => k_is)
    (case c18 => k_is)
    (case k18 => k_is)
    (case a19 => k_is)
    (case l19 => k_is)
    (case c19 => k_is)
    (case k19 => k_is)
    (case a20 => k_is)
    (case l20 => k_is)
    (case c20 => k_is)
    (case k20 => k_is)
    (case a21 => k_is)
    (case l21 => k_is)
    (case c21 => k_is)
    (case k21 => k_is)
    (case a22 => k_is)
    (case l22 => k_is)
    (case c22 => k_is)
    (case k22 => k_is)
    (case a23 => k_is)
    (case l23 => k_is)
    (case c23 => k_is)
    (case k23 => k_is)
    (case a24 => k_is)
    (case l24 => k_is)
    (case c24 => k_is)
    (case k24 => k_is)
    (case a25 => k_is)
    (case l25 => k_is)
    (case c25 => k_is)
    (case k25 => k_is)
    (case a26 => k_is)
    (case l26 => k_is)
    (case c26 => k_is)
    (case k26 => k_is)
    (case a27 => k_is)
    (case l27 => k_is)
    (case c27 => k_is)
    (case k27 => k_is)
    (case a28 => k_is)
    (case l28 => k_is)
    (case c28 => k_is)
    (case k28 => k_is)
    (case a29 => k_is)
    (case l29 => k_is)
    (case c29 => k_is)
    (case k29 => k_is)
    (case a30 => k_is)
    (case l30 => k_is)
    (case c30 => k_is)
    (case k30 => k_is)
    (case a31 => k_is)
    (case l31 => k_is)
    (case c31 => k_is)
    (case k31 => k_is)
    (case a32 => k_is)
    (case l32 => k_is)
    (case c32 => k_is)
    (case k32 => k_is)
    (case z_ValueError => k_is)
    (case z_any => k_is)
    (case z_enumerate => k_is)
    (case z_isinstance => k_is)
    (case z_len => k_is)
    (case z_list => k_is)
    (case z_max => k_is)
    (case z_min => k_is)
    (case z_range => k_is)
    (case z_reversed => k_is)
    (case z_sum => k_is)
    (case z_tuple => k_is)
    (case g_FARTHEST => k_is)
    (case g_MOST_LOOPS => k_is)
    (case g_MOST_WIDE => k_is)
    (case g_TAKES => k_is)
    (case h_TAKES => kernel_rfl)
    (case nc_BedFault => k_is)
    (case nc_LoopError => k_is)
    (case nc_NoPattern => k_is)
    (case nc_Unfit => k_is)
    (case xq_Unfit => kernel_rfl)
    (case xk_Unfit => kernel_rfl)
    (case xm_Unfit_BedFault => kernel_rfl)
    (case xi_Unfit_BedFault => kernel_rfl)
    (case xm_Unfit_LoopError => kernel_rfl)
    (case xi_Unfit_LoopError => kernel_rfl)
    (case xm_Unfit_NoPattern => kernel_rfl)
    (case xi_Unfit_NoPattern => kernel_rfl)
    (case xm_Unfit_Unfit => kernel_rfl)
    (case xi_Unfit_Unfit => kernel_rfl)
    (case xv_Unfit => kernel_rfl)
