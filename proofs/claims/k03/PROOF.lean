import PyProof.Rows.All
import Wide.All
import OpenK.AllK
import Wide.FinOn
import Lean
import PyProof.EqAt
import PyProof.EqKinds
import PyProof.TupleCall
import KE.KTryMore
import PySem.Challenge.RW_loopbed_k03_unread
set_option Elab.async false
set_option linter.all false
set_option maxRecDepth 100000
namespace L2
open PySem PySem.Spec PyProof.Rows
abbrev Key := Sum Int Str
def keyIs : Key → Value → Bool
  | .inl k, v => Value.isInt k v
  | .inr x, v => Value.isStrOf x v
def keyH (w : World) : Key → Int
  | .inl k => hashInt k
  | .inr x => hashStr w x
theorem keyIs_shape : ∀ {k : Key} {v : Value}, keyIs k v = true → (∃ i t, k = Sum.inl i ∧ v = Value.int i t) ∨ (∃ x t, k = Sum.inr x ∧ v = Value.str x t)
  | .inl i, v, h => by
    obtain ⟨t, e⟩ := Value.isInt_shape (k := i) (v := v) h
    exact .inl ⟨i, t, rfl, e⟩
  | .inr x, v, h => by
    obtain ⟨t, e⟩ := Value.isStrOf_shape (x := x) (v := v) h
    exact .inr ⟨x, t, rfl, e⟩
theorem key_ll (a b : Int) : decide ((Sum.inl a : Key) = Sum.inl b) = (a == b) := by
  by_cases e : a = b
  · subst e; simp
  · have h : ¬ (Sum.inl a : Key) = Sum.inl b := fun q => e (Sum.inl.inj q)
    rw [decide_eq_false h]
    exact (beq_eq_false_iff_ne.mpr e).symm
theorem key_rr (a b : Str) : decide ((Sum.inr a : Key) = Sum.inr b) = decide (a = b) := by
  by_cases e : a = b
  · subst e; simp
  · have h : ¬ (Sum.inr a : Key) = Sum.inr b := fun q => e (Sum.inr.inj q)
    rw [decide_eq_false h, decide_eq_false e]
theorem key_lr (a : Int) (b : Str) : decide ((Sum.inl a : Key) = Sum.inr b) = false := decide_eq_false (fun q => nomatch q)
theorem key_rl (a : Str) (b : Int) : decide ((Sum.inr a : Key) = Sum.inl b) = false := decide_eq_false (fun q => nomatch q)
def mixKind (prog : Program) (w : World) : PySem.KeyKind prog w Key where
  is := keyIs
  hash := keyH w
  inj := fun v a b ha hb => by
    rcases keyIs_shape ha with ⟨i, t, rfl, rfl⟩ | ⟨x, t, rfl, rfl⟩
    · rcases keyIs_shape hb with ⟨j, u, rfl, e⟩ | ⟨y, u, rfl, e⟩
      · injection e with e1 _; rw [e1]
      · exact nomatch e
    · rcases keyIs_shape hb with ⟨j, u, rfl, e⟩ | ⟨y, u, rfl, e⟩
      · exact nomatch e
      · injection e with e1 _; rw [e1]
  byValue := fun k v h => by
    rcases keyIs_shape h with ⟨i, t, rfl, rfl⟩ | ⟨x, t, rfl, rfl⟩ <;> rfl
  pyHash := fun hv h => by
    rcases keyIs_shape hv with ⟨i, t, rfl, rfl⟩ | ⟨x, t, rfl, rfl⟩
    · exact wpAny_pyHash_int h
    · exact wpAny_pyHash_str h
  eqBool := fun hu hv h => by
    rcases keyIs_shape hu with ⟨i, t, rfl, rfl⟩ | ⟨x, t, rfl, rfl⟩
    · rcases keyIs_shape hv with ⟨j, u, rfl, rfl⟩ | ⟨y, u, rfl, rfl⟩
      · rw [key_ll] at h; exact wpAny_eqBool_int h
      · rw [key_lr] at h; exact SeqAt.EqAt.int_str i t y u _ _ _ _ h
    · rcases keyIs_shape hv with ⟨j, u, rfl, rfl⟩ | ⟨y, u, rfl, rfl⟩
      · rw [key_rl] at h; exact SeqAt.EqAt.str_int x t j u _ _ _ _ h
      · rw [key_rr] at h; exact wpAny_eqBool_str h
  «strs» := fun k x t v h => by
    rcases keyIs_shape h with ⟨i, u, rfl, e⟩ | ⟨y, u, rfl, e⟩
    · exact nomatch e
    · injection e with e1 _
      subst e1
      cases v <;> rfl
end L2
namespace L2
open PySem PySem.Spec PyProof.Rows
inductive V where
  | non | bl (b : Bool) | int (i : Int) | str (x : Str) | byt (b : Array UInt8) | flt (b : UInt64) | ref (a : Addr) | ty (n : String)
  deriving DecidableEq
def RelV : V → Value → Prop
  | .non, u => u = Value.none
  | .bl b, u => u = Value.bool b
  | .int i, u => ∃ t, u = Value.int i t
  | .str x, u => ∃ t, u = Value.str x t
  | .byt b, u => ∃ t, u = Value.bytes b t
  | .flt b, u => ∃ t, u = Value.float b t
  | .ref a, u => u = Value.ref a
  | .ty n, u => u = Value.type n
abbrev Vals : List V → List Value → Prop := Paired RelV
theorem Vals.length {xs : List V} {us : List Value} (r : Vals xs us) : xs.length = us.length := Paired.length r
theorem Vals.get : ∀ {xs : List V} {us : List Value} {i : Nat} {x : V}, Vals xs us → xs[i]? = some x → ∃ u, us[i]? = some u ∧ RelV x u
  | _, _, _, _, .nil, e => by simp at e
  | _, _, 0, _, .cons r _, e => by simp at e; subst e; exact ⟨_, rfl, r⟩
  | _, _, i + 1, x, .cons _ t, e => by
    obtain ⟨u, h1, h2⟩ := Vals.get (i := i) (x := x) t (by simpa using e)
    exact ⟨u, by simpa using h1, h2⟩
theorem Vals.set {x : V} {u : Value} (r : RelV x u) : ∀ {xs : List V} {us : List Value} (i : Nat), Vals xs us → Vals (xs.set i x) (us.set i u)
  | _, _, _, .nil => .nil
  | _, _, 0, .cons _ t => .cons r t
  | _, _, i + 1, .cons q t => .cons q (Vals.set r i t)
theorem Vals.append : ∀ {xs ys : List V} {us ws : List Value}, Vals xs us → Vals ys ws → Vals (xs ++ ys) (us ++ ws)
  | _, _, _, _, .nil, s => s
  | _, _, _, _, .cons r t, s => .cons r (Vals.append t s)
theorem Vals.take : ∀ {xs : List V} {us : List Value} (n : Nat), Vals xs us → Vals (xs.take n) (us.take n)
  | _, _, 0, _ => .nil
  | _, _, _ + 1, .nil => .nil
  | _, _, n + 1, .cons r t => .cons r (Vals.take n t)
theorem Vals.drop : ∀ {xs : List V} {us : List Value} (n : Nat), Vals xs us → Vals (xs.drop n) (us.drop n)
  | _, _, 0, r => r
  | _, _, _ + 1, .nil => .nil
  | _, _, n + 1, .cons _ t => Vals.drop n t
theorem Vals.none_of : ∀ {xs : List V} {us : List Value} {i : Nat}, Vals xs us → xs[i]? = none → us[i]? = none := fun {xs us i} r e => by
  have h1 := r.length
  have h2 : xs.length ≤ i := List.getElem?_eq_none_iff.mp e
  exact List.getElem?_eq_none_iff.mpr (by omega)
def RelO : Option V → Option Value → Prop
  | some v, some u => RelV v u
  | none, none => True
  | _, _ => False
def KV {κ : Type} : List (κ × V) → List (κ × Value) → Prop := Paired fun (p : κ × V) (q : κ × Value) => p.1 = q.1 ∧ RelV p.2 q.2
def kV : Key → V
  | .inl i => .int i
  | .inr x => .str x
inductive HO where
  | lst (xs : List V)
  | tup (xs : List V)
  | dK (kvs : List (Key × V)) | dT (kvs : List (List Key × V))
  | set (S : Int → Bool) (n : Nat)
  | ins (C dx : Addr) (fs : List (Str × V))
  | own (x : Addr)
  | xd (fs : List (Str × V))
  | met (f x : Addr)
  | rng (lo hi : Int)
  | frz (o : Obj) (u : HO)
  | tbl (ps : Array Value)
  | ext (φ : Heap → Prop)
abbrev Hp := Addr → Option HO
def upd (H : Hp) (a : Addr) (o : HO) : Hp := fun b => if b = a then some o else H b
theorem upd_same {H : Hp} {a : Addr} {o : HO} : upd H a o a = some o := by unfold upd; rw [if_pos rfl]
theorem upd_ne {H : Hp} {a b : Addr} {o : HO} (h : b ≠ a) : upd H a o b = H b := by unfold upd; rw [if_neg h]
theorem ne_of_none {H : Hp} {a b : Addr} {o : HO} (h : H a = some o) (h' : H b = none) : a ≠ b := by
  intro e; subst e; rw [h] at h'; cases h'
section
variable (P : Program) (w : World)
def ObjOk (H : Hp) (h : Heap) (a : Addr) : HO → Prop
  | .lst xs => xs.length ≤ sizeLine ∧ ∃ (its : List Value) (n : Nat), Vals xs its ∧ h.get? a = some { cls := .type "list", data := .seq its.toArray n }
  | .tup xs => xs.length ≤ sizeLine ∧ ∃ its : List Value, Vals xs its ∧ IsTup h a its.toArray
  | .dK kvs => kvs.length ≤ sizeLine ∧ (a == sysModules) = false ∧ ∃ vs, KV kvs vs ∧ h.DictOf (mixKind P w) a vs
  | .dT kvs => kvs.length ≤ sizeLine ∧ (a == sysModules) = false ∧ ∃ xs : List (List Key × Addr × Value),
      Paired (fun (p : List Key × V) (q : List Key × Addr × Value) => p.1 = q.1 ∧ H q.2.1 = some (.tup (p.1.map kV)) ∧ RelV p.2 q.2.2) kvs xs ∧
      ∃ o es ep, h.get? a = some o ∧ o.ExactDict ∧ o.data = .dict es ep ∧ es.toList = xs.map (entryOfKey (tupleKind (mixKind P w))) ∧ (xs.map (·.1)).Nodup
  | .set S n => h.SetOf (intKind P w) a S n
  | .ins C dx fs => H dx = some (.own a) ∧ fs.length ≤ 1000 ∧ dx ≠ a ∧ h.get? a = some (PySem.W.instObj C dx) ∧
      ∃ mA, h.Ns1 dx mA ∧ (∀ f, RelO (fs.lookup f) (mA f)) ∧ PySem.Within mA (fs.map (·.1))
  | .own _ => ∃ o, h.get? a = some o
  | .xd fs => ∃ mA, h.Ns1 a mA ∧ ∀ f, RelO (fs.lookup f) (mA f)
  | .rng lo hi => ∃ t u v, h.get? a = some { cls := .type "range", data := .fields #[.int lo t, .int hi u, .int 1 v] }
  | .frz o u => h.get? a = some o ∧ ObjOk H h a u
  | .tbl ps => h.get? a = some { cls := .none, data := .fields ps }
  | .met f x => h.get? a = some (PySem.W.methodObj (.ref f) (.ref x))
  | .ext φ => φ h ∧ (∃ o, h.get? a = some o) ∧ ∀ h1 h2 : Heap, φ h1 → (∀ o, h1.get? a = some o → h2.get? a = some o) → φ h2
def HOk (H : Hp) (h : Heap) : Prop := ∀ a o, H a = some o → ObjOk P w H h a o
end
section
variable {P : Program} {w : World} {H H' : Hp} {h h' : Heap} {a : Addr} {o : HO}
theorem ObjOk.lt (x : ObjOk P w H h a o) : a < h.objs.size := by
  cases o with
  | lst xs => obtain ⟨_, _, _, _, e⟩ := x; exact Heap.lt_size e
  | tup xs => obtain ⟨_, _, _, p⟩ := x; exact p.lt
  | dK kvs => obtain ⟨_, _, _, _, o, _, _, e, _⟩ := x; exact Heap.lt_size e
  | dT kvs => obtain ⟨_, _, _, _, o, _, _, e, _⟩ := x; exact Heap.lt_size e
  | set S n => obtain ⟨o, _, _, _, e, _⟩ := x; exact Heap.lt_size e
  | ins C dx fs => obtain ⟨_, _, _, e, _⟩ := x; exact Heap.lt_size e
  | own y => obtain ⟨_, e⟩ := x; exact Heap.lt_size e
  | xd fs => obtain ⟨_, ⟨_, _, _, e, _⟩, _⟩ := x; exact Heap.lt_size e
  | rng lo hi => obtain ⟨_, _, _, e⟩ := x; exact Heap.lt_size e
  | frz ob u => obtain ⟨e, _⟩ := x; exact Heap.lt_size e
  | tbl ps => exact Heap.lt_size (show h.get? a = some _ from x)
  | met f y => exact Heap.lt_size (show h.get? a = some _ from x)
  | ext φ => obtain ⟨_, ⟨_, e⟩, _⟩ := x; exact Heap.lt_size e
theorem Paired.mapP {α β : Type} {F G : α → β → Prop} : ∀ {l₁ : List α} {l₂ : List β}, Paired F l₁ l₂ → (∀ a b, F a b → G a b) → Paired G l₁ l₂
  | _, _, .nil, _ => .nil
  | _, _, .cons r t, f => .cons (f _ _ r) (Paired.mapP t f)
theorem ObjOk.stay (x : ObjOk P w H h a o) (k : ∀ b u, (b = a ∨ H b = some (.own a)) → h.get? b = some u → h'.get? b = some u)
    (ho : ∀ b, H b = some (.own a) → H' b = some (.own a)) (ht : ∀ b xs, H b = some (.tup xs) → H' b = some (.tup xs)) : ObjOk P w H' h' a o := by
  induction o with
  | lst xs => obtain ⟨z, its, n, r, e⟩ := x; exact ⟨z, its, n, r, k _ _ (.inl rfl) e⟩
  | tup xs => obtain ⟨z, its, r, ob, e, c⟩ := x; exact ⟨z, its, r, ob, k _ _ (.inl rfl) e, c⟩
  | dK kvs => obtain ⟨z, y, vs, r, ob, es, ep, e, c⟩ := x; exact ⟨z, y, vs, r, ob, es, ep, k _ _ (.inl rfl) e, c⟩
  | dT kvs =>
    obtain ⟨z, y, xs, r, ob, es, ep, e, c⟩ := x
    exact ⟨z, y, xs, Paired.mapP r fun p q z => ⟨z.1, ht _ _ z.2.1, z.2.2⟩, ob, es, ep, k _ _ (.inl rfl) e, c⟩
  | set S n => obtain ⟨ob, es, ep, t, e, c⟩ := x; exact ⟨ob, es, ep, t, k _ _ (.inl rfl) e, c⟩
  | ins C dx fs =>
    obtain ⟨d, z, ne, e, mA, ⟨od, es, ep, e2, c⟩, r⟩ := x
    exact ⟨ho _ d, z, ne, k _ _ (.inl rfl) e, mA, ⟨od, es, ep, k _ _ (.inr d) e2, c⟩, r⟩
  | own y => obtain ⟨ob, e⟩ := x; exact ⟨ob, k _ _ (.inl rfl) e⟩
  | xd fs => obtain ⟨mA, ⟨od, es, ep, e, c⟩, r⟩ := x; exact ⟨mA, ⟨od, es, ep, k _ _ (.inl rfl) e, c⟩, r⟩
  | rng lo hi => obtain ⟨t, u, v, e⟩ := x; exact ⟨t, u, v, k _ _ (.inl rfl) e⟩
  | frz ob u ih => obtain ⟨e, q⟩ := x; exact ⟨k _ _ (.inl rfl) e, ih q⟩
  | tbl ps =>
    have e : h.get? a = some { cls := .none, data := .fields ps } := x
    show h'.get? a = some { cls := .none, data := .fields ps }
    exact k a _ (.inl rfl) e
  | met f y =>
    have e : h.get? a = some (PySem.W.methodObj (.ref f) (.ref y)) := x
    show h'.get? a = some (PySem.W.methodObj (.ref f) (.ref y))
    exact k a _ (.inl rfl) e
  | ext φ => obtain ⟨p, ⟨o, e⟩, st⟩ := x; exact ⟨st _ _ p fun o q => k _ _ (.inl rfl) q, ⟨o, k _ _ (.inl rfl) e⟩, st⟩
theorem HOk.lt (x : HOk P w H h) (e : H a = some o) : a < h.objs.size := (x a o e).lt
theorem HOk.fresh (x : HOk P w H h) (e : h.objs.size ≤ a) : H a = none := by
  cases q : H a with
  | none => rfl
  | some u => exact absurd (Nat.lt_of_lt_of_le (x.lt q) e) (Nat.lt_irrefl _)
theorem HOk.kept (x : HOk P w H h) (k : ∀ b u, h.get? b = some u → h'.get? b = some u) : HOk P w H h' := fun a o e =>
  (x a o e).stay (fun b u _ q => k b u q) (fun _ q => q) fun _ _ q => q
theorem HOk.laid (x : HOk P w H h) (k : ∀ b u, h.get? b = some u → h'.get? b = some u) (hp : h.objs.size ≤ a) (new : ObjOk P w (upd H a o) h' a o) : HOk P w (upd H a o) h' := fun b u e => by
  have hn := x.fresh hp
  by_cases hb : b = a
  · subst hb; rw [upd_same] at e; cases e; exact new
  · rw [upd_ne hb] at e
    exact (x b u e).stay (fun c v _ q => k c v q) (fun c q => by rw [upd_ne (ne_of_none q hn)]; exact q) fun c xs q => by rw [upd_ne (ne_of_none q hn)]; exact q
end
def Rd (H : Hp) (a : Addr) (u : HO) : Prop := H a = some u ∨ ∃ o, H a = some (.frz o u)
theorem Rd.of {H : Hp} {a : Addr} {u : HO} (h : H a = some u) : Rd H a u := .inl h
theorem Rd.ok {P : Program} {w : World} {H : Hp} {h : Heap} {a : Addr} {u : HO} (r : Rd H a u) (x : HOk P w H h) : ObjOk P w H h a u := by
  rcases r with r | ⟨o, r⟩
  · exact x a u r
  · obtain ⟨_, q⟩ := x a _ r
    exact q
def Mut : Option HO → Prop
  | some (.lst _) => True
  | some (.dK _) => True
  | some (.dT _) => True
  | some (.set _ _) => True
  | some (.ins _ _ _) => True
  | some (.ext _) => True
  | _ => False
section
variable {P : Program} {w : World} {H : Hp} {h h' : Heap} {x e : Addr} {o' : HO}
theorem HOk.write (ok : HOk P w H h) (mu : Mut (H x)) (he : e = x ∨ H e = some (.own x)) (k : ∀ b u, b ≠ e → h.get? b = some u → h'.get? b = some u) (heo : ∃ u, h'.get? e = some u)
    (new : ObjOk P w (upd H x o') h' x o') : HOk P w (upd H x o') h' := fun b u q => by
  have nown : ∀ c y, H c = some (.own y) → c ≠ x := fun c y r z => by subst z; rw [r] at mu; exact mu
  have ntup : ∀ c xs, H c = some (.tup xs) → c ≠ x := fun c xs r z => by subst z; rw [r] at mu; exact mu
  by_cases hb : b = x
  · subst hb; rw [upd_same] at q; cases q; exact new
  · rw [upd_ne hb] at q
    by_cases hbe : b = e
    · have q' : H b = some (.own x) := by
        rcases he with z | z
        · exact absurd (hbe.trans z) hb
        · rw [hbe]; exact z
      rw [q] at q'; cases q'
      obtain ⟨v, hv⟩ := heo
      exact ⟨v, by rw [hbe]; exact hv⟩
    · refine (ok b u q).stay (fun c v hc r => k c v ?_ r) (fun c r => by rw [upd_ne (nown c b r)]; exact r) fun c xs r => by rw [upd_ne (ntup c xs r)]; exact r
      rcases hc with rfl | hc
      · exact hbe
      · rintro rfl
        rcases he with z | z
        · exact nown c b hc z
        · rw [hc] at z; cases z; exact hb rfl
end
structure Un (fs ex : List Addr) (H H' : Hp) (h h' : Heap) : Prop where
  keep : ∀ b o, h.get? b = some o → H b = none → b ∉ fs → b ∉ ex → h'.get? b = some o
  slot : ∀ b o, h.get? b = some o → H b = none → b ∈ fs → b ∉ ex → ∃ sl, h'.get? b = some { o with slots := sl }
  free : ∀ b o, h.get? b = some o → H b = none → b ∉ ex → H' b = none
  there : ∀ b o, h.get? b = some o → b ∉ ex → ∃ o', h'.get? b = some o'
  tups : ∀ b xs, H b = some (.tup xs) → H' b = some (.tup xs)
  frzs : ∀ b o u, H b = some (.frz o u) → H' b = some (.frz o u)
  tbls : ∀ b ps, H b = some (.tbl ps) → ∃ more, H' b = some (.tbl (ps ++ more))
section
variable {fs fs' ex ex' : List Addr} {H H1 H2 : Hp} {h h1 h2 h' : Heap} {a x e : Addr} {o : HO}
theorem Un.any (u : Un fs ex H H1 h h1) {b : Addr} {ob : Obj} (q : h.get? b = some ob) (n : H b = none) (hx : b ∉ ex) : ∃ sl, h1.get? b = some { ob with slots := sl } := by
  by_cases hb : b ∈ fs
  · exact u.slot b ob q n hb hx
  · exact ⟨ob.slots, u.keep b ob q n hb hx⟩
theorem Un.trans (a : Un fs ex H H1 h h1) (b : Un fs ex H1 H2 h1 h2) : Un fs ex H H2 h h2 where
  keep := fun c ob q n hc hx => b.keep c ob (a.keep c ob q n hc hx) (a.free c ob q n hx) hc hx
  slot := fun c ob q n hc hx => by
    obtain ⟨sl, e1⟩ := a.slot c ob q n hc hx
    obtain ⟨sl', e2⟩ := b.slot c _ e1 (a.free c ob q n hx) hc hx
    exact ⟨sl', e2⟩
  free := fun c ob q n hx => by
    obtain ⟨o', e1⟩ := a.there c ob q hx
    exact b.free c o' e1 (a.free c ob q n hx) hx
  there := fun c ob q hx => by
    obtain ⟨o', e1⟩ := a.there c ob q hx
    exact b.there c o' e1 hx
  tups := fun c xs q => b.tups c xs (a.tups c xs q)
  frzs := fun c ob xs q => b.frzs c ob xs (a.frzs c ob xs q)
  tbls := fun c ps q => by
    obtain ⟨m1, e1⟩ := a.tbls c ps q
    obtain ⟨m2, e2⟩ := b.tbls c _ e1
    exact ⟨m1 ++ m2, by rw [e2, Array.append_assoc]⟩
theorem Un.kept (k : ∀ b u, h.get? b = some u → h'.get? b = some u) : Un fs ex H H h h' :=
  ⟨fun b ob q _ _ _ => k b ob q, fun b ob q _ _ _ => ⟨ob.slots, k b ob q⟩, fun _ _ _ n _ => n, fun b ob q _ => ⟨ob, k b ob q⟩, fun _ _ q => q, fun _ _ _ q => q, fun _ ps q => ⟨#[], by rw [q]; simp⟩⟩
theorem Un.refl : Un fs ex H H h h := Un.kept fun _ _ q => q
theorem Un.laid (k : ∀ b u, h.get? b = some u → h'.get? b = some u) (hp : h.objs.size ≤ a) (hn : H a = none) : Un fs ex H (upd H a o) h h' where
  keep := fun b u q _ _ _ => k b u q
  slot := fun b u q _ _ _ => ⟨u.slots, k b u q⟩
  free := fun b u q n _ => by rw [upd_ne (Nat.ne_of_lt (Nat.lt_of_lt_of_le (Heap.lt_size q) hp))]; exact n
  there := fun b u q _ => ⟨u, k b u q⟩
  tups := fun b xs q => by rw [upd_ne (ne_of_none q hn)]; exact q
  frzs := fun b u xs q => by rw [upd_ne (ne_of_none q hn)]; exact q
  tbls := fun b ps q => ⟨#[], by rw [upd_ne (ne_of_none q hn), q]; simp⟩
theorem Un.write (mu : Mut (H x)) (he : e = x ∨ H e = some (.own x)) (k : ∀ b u, b ≠ e → h.get? b = some u → h'.get? b = some u) (heo : ∃ u, h'.get? e = some u) : Un fs ex H (upd H x o) h h' := by
  have hx : ∀ b, H b = none → b ≠ x := fun b n z => by subst z; rw [n] at mu; exact mu
  have hb : ∀ b, H b = none → b ≠ e := fun b n z => by
    subst z
    rcases he with r | r
    · exact hx b n r
    · rw [n] at r; cases r
  have hm : ∀ b u, H b = some u → ¬ Mut (some u) → b ≠ x := fun b u q nm z => by subst z; rw [q] at mu; exact nm mu
  refine ⟨fun b u q n _ _ => k b u (hb b n) q, fun b u q n _ _ => ⟨u.slots, k b u (hb b n) q⟩, fun b u q n _ => by rw [upd_ne (hx b n)]; exact n, fun b u q _ => ?_,
    fun b xs q => by rw [upd_ne (hm b _ q fun z => z)]; exact q, fun b u xs q => by rw [upd_ne (hm b _ q fun z => z)]; exact q, fun b ps q => ⟨#[], by rw [upd_ne (hm b _ q fun z => z), q]; simp⟩⟩
  by_cases hbe : b = e
  · subst hbe; exact heo
  · exact ⟨u, k b u hbe q⟩
theorem Un.mono (u : Un fs ex H H1 h h1) (hs : ∀ b ∈ fs, b ∈ fs') (hx : ∀ b ∈ ex, b ∈ ex') : Un fs' ex' H H1 h h1 :=
  ⟨fun b ob q n hb he => u.keep b ob q n (fun z => hb (hs b z)) fun z => he (hx b z), fun _ _ q n _ he => u.any q n fun z => he (hx _ z), fun b ob q n he => u.free b ob q n fun z => he (hx b z), fun b ob q he => u.there b ob q fun z => he (hx b z), u.tups, u.frzs, u.tbls⟩
end
def trk (h : Heap) (H : Hp) : List Addr := (List.range h.objs.size).filter fun a => (H a).isSome
def hidT (h : Heap) (H : Hp) : Heap := PySem.W.hideAll h (trk h H)
theorem hidT_size (h : Heap) (H : Hp) : (hidT h H).objs.size = h.objs.size := PySem.W.hideAll_size _ _
theorem hidT_get {h : Heap} {H : Hp} {b : Addr} {o : Obj} (e : h.get? b = some o) (n : H b = none) : (hidT h H).get? b = some o :=
  PySem.W.hideAll_get _ e fun hm => by
    have q : (H b).isSome = true := (List.mem_filter.mp hm).2
    rw [n] at q; simp at q
theorem of_hidT {h : Heap} {H : Hp} {b : Addr} {o : Obj} (e : (hidT h H).get? b = some o) : h.get? b = some o ∧ H b = none := by
  have e' : h.get? b = some o := PySem.W.of_hideAll (trk h H) e
  refine ⟨e', ?_⟩
  cases q : H b with
  | none => rfl
  | some x =>
    have hm : b ∈ trk h H := List.mem_filter.mpr ⟨List.mem_range.mpr (Heap.lt_size e'), by simp [q]⟩
    have z : (hidT h H).get? b = none := PySem.W.hideAll_none (trk h H) hm
    rw [z] at e; cases e
def allNews (g h : Heap) (L : Addr) : List (Addr × Obj) := (List.range h.objs.size).filterMap fun a => if a = L ∨ (g.get? a).isSome = true then none else (h.get? a).map fun o => (a, o)
def rest (g h : Heap) (L d : Addr) : List (Addr × Obj) := (allNews g h L).filter fun p => decide (p.1 ≠ d)
end L2
namespace L2
open PySem PySem.Spec PyProof.Rows
structure Mod (K : PySem.W.Frag) (mg : Str → Option Value) (base : Heap) : Prop where
  kin : K.In base
  glob : base.Ns mainGlobals mg
  blt : ∃ mb, base.Ns builtinsNs mb ∧ ∀ x : Str, x ≠ "__name__" → mb x = bootBuiltins x
  nolimit : base.NoLimit
structure Cx where
  prog : Program
  w : World
  K : PySem.W.Frag
  mg : Str → Option Value
  base : Heap
  A : Around
  N : List Str
  s₀ : Shared
  H₀ : Hp
  env : Env
  outer : List Env
  stack : List Env
  ex : List Addr
  fn : Str → Bool
  calm : Bool
  pn : List (Addr × Obj)
  xe : Value → Shared → Prop
def frs (l : List Env) : List Addr := l.filterMap (·.frame)
abbrev Cx.fs (X : Cx) : List Addr := frs X.outer
def Vis (sc : Scope) (x : Str) : Prop := sc.names.lookup x = some .local ∨ sc.names.lookup x = some .cell ∨ sc.names.lookup x = some .free
def Loc (sc : Scope) (x : Str) : Prop := sc.names.lookup x = some .local ∨ sc.names.lookup x = some .cell
def Look (env : Env) (h : Heap) (m : Str → Option Value) (x : Str) (u : Value) : Prop :=
  (env.kindOf x = some .local ∧ m x = some u) ∨ ((env.kindOf x = some .cell ∨ env.kindOf x = some .free) ∧ ∃ c, env.cells.lookup x = some c ∧ h.IsCell c (some u))
structure Cx.Ok (X : Cx) : Prop where
  mod : Mod X.K X.mg X.base
  kind : X.env.scope.kind = .function
  glob : X.env.globals = mainGlobals
  blt : X.env.builtins = builtinsNs
  above : X.s₀.heap.objs.size ≤ X.env.locals
  inj : ∀ x y c, X.env.cells.lookup x = some c → X.env.cells.lookup y = some c → x = y
  has : ∀ x, (X.env.kindOf x = some .cell ∨ X.env.kindOf x = some .free) → ∃ c, X.env.cells.lookup x = some c
  cab : ∀ x c, X.fn x = true → X.env.cells.lookup x = some c → X.s₀.heap.objs.size ≤ c
  hd : X.calm = true → X.A.handled = none
  frames : X.A.frames = some X.stack
  stk : X.stack = X.outer ∨ (X.stack = X.env :: X.outer ∧ X.env.frame = some X.env.locals)
  exf : ∀ b ∈ X.ex, b ≠ X.env.locals ∧ ∀ x c, X.env.cells.lookup x = some c → c ≠ b
  bs : ∀ b o, X.base.get? b = some o → X.s₀.heap.get? b = some o ∧ X.H₀ b = none
  bsz : X.base.objs.size ≤ X.s₀.heap.objs.size
  noex : ∀ b o, X.base.get? b = some o → b ∉ X.ex
  exfs : ∀ b ∈ X.ex, b ∉ X.fs
  funs : X.s₀.heap.FunFrames X.base X.outer
  frf : ∀ b ∈ X.fs, X.H₀ b = none
structure Inv (X : Cx) (pins : List (Addr × Obj)) (σ : List (Option V)) (H : Hp) (s : Shared) : Prop where
  ok : X.Ok
  os : s.os = X.s₀.os
  bare : AllBare s.gens
  base : Un X.fs X.ex X.H₀ H X.s₀.heap s.heap
  loc : ∃ m, s.heap.Ns X.env.locals m ∧ ∀ (i : Nat) (x : Str) (v : V), X.N[i]? = some x → σ[i]? = some (some v) → Vis X.env.scope x → ∃ u, RelV v u ∧ Look X.env s.heap m x u
  cell : ∀ x c, X.env.cells.lookup x = some c → ∃ v, s.heap.IsCell c v
  free : H X.env.locals = none
  freeC : ∀ x c, X.env.cells.lookup x = some c → H c = none
  pin : ∀ p ∈ X.pn ++ pins, s.heap.get? p.1 = some p.2 ∧ H p.1 = none ∧ p.1 ≠ X.env.locals ∧ p.1 ∉ X.fs ∧ ∀ v, p.2.data ≠ .cell v
  hok : HOk X.prog X.w H s.heap
  len : σ.length = X.N.length
section
variable {X : Cx} {pins : List (Addr × Obj)} {σ : List (Option V)} {H H' : Hp} {s : Shared} {h' : Heap}
theorem Cx.Ok.nofr (ok : X.Ok) {b : Addr} {o : Obj} (e : X.base.get? b = some o) : b ∉ X.fs := fun hb => by
  have := (ok.funs.mem hb).1
  rw [e] at this; cases this
theorem Inv.bs (I : Inv X pins σ H s) : ∀ b o, X.base.get? b = some o → s.heap.get? b = some o ∧ H b = none := fun b o e =>
  ⟨I.base.keep b o (I.ok.bs b o e).1 (I.ok.bs b o e).2 (I.ok.nofr e) (I.ok.noex b o e), I.base.free b o (I.ok.bs b o e).1 (I.ok.bs b o e).2 (I.ok.noex b o e)⟩
theorem Inv.bk (I : Inv X pins σ H s) : ∀ b o, X.base.get? b = some o → s.heap.get? b = some o := fun b o e => (I.bs b o e).1
theorem Inv.mod (I : Inv X pins σ H s) : Mod X.K X.mg X.base := I.ok.mod
theorem Inv.kIn (I : Inv X pins σ H s) : X.K.In s.heap := I.ok.mod.kin.keeps I.bk
theorem Inv.nolimit (I : Inv X pins σ H s) : s.heap.NoLimit := I.ok.mod.nolimit.keeps I.bk
theorem Inv.fr (I : Inv X pins σ H s) : ∃ m, Fr X.base X.env.locals s.heap m :=
  let ⟨m, hn, _⟩ := I.loc
  ⟨m, hn, I.bk, Nat.le_trans I.ok.bsz I.ok.above⟩
theorem Inv.lt (I : Inv X pins σ H s) : X.env.locals < s.heap.objs.size := let ⟨_, hn, _⟩ := I.loc; hn.lt
theorem Inv.sz (I : Inv X pins σ H s) : X.s₀.heap.objs.size ≤ s.heap.objs.size := Nat.le_trans I.ok.above (Nat.le_of_lt I.lt)
theorem Inv.nofs (I : Inv X pins σ H s) {a : Addr} (h : s.heap.objs.size ≤ a) : a ∉ X.fs := fun hb => by
  obtain ⟨_, o, ho, _⟩ := I.ok.funs.mem hb
  exact absurd (Nat.lt_of_lt_of_le (Heap.lt_size ho) (Nat.le_trans I.sz h)) (Nat.lt_irrefl _)
theorem Inv.cne (I : Inv X pins σ H s) : ∀ x c, X.env.cells.lookup x = some c → c ≠ X.env.locals := fun x c e z => by
  obtain ⟨v, o, ho, hd⟩ := I.cell x c e
  obtain ⟨m, ⟨o', es, ep, ho', hd', _⟩, _⟩ := I.loc
  rw [z, ho'] at ho; cases ho; rw [hd'] at hd; cases hd
theorem Inv.funs (I : Inv X pins σ H s) : s.heap.FunFrames X.base X.outer := by
  have all : ∀ (l : List Env), (∀ b ∈ frs l, b ∈ X.fs) → X.s₀.heap.FunFrames X.base l → s.heap.FunFrames X.base l := by
    intro l
    induction l with
    | nil => intro _ _; trivial
    | cons env r ih =>
      intro hs hl
      obtain ⟨hk, ⟨L, o, hf, hn, ho, hd⟩, hr⟩ := hl
      have hL : L ∈ X.fs := hs L (by unfold frs; rw [List.filterMap_cons, hf]; exact List.mem_cons_self)
      obtain ⟨sl, e⟩ := I.base.slot L o ho (I.ok.frf L hL) hL fun z => I.ok.exfs L z hL
      exact ⟨hk, ⟨L, _, hf, hn, e, hd⟩, ih (fun b hb => hs b (by unfold frs; rw [List.filterMap_cons, hf]; exact List.mem_cons_of_mem _ hb)) hr⟩
  exact all X.outer (fun _ hb => hb) I.ok.funs
theorem Inv.stack (I : Inv X pins σ H s) : s.heap.FunFrames X.base X.stack := by
  rcases I.ok.stk with e | ⟨e, hf⟩
  · rw [e]; exact I.funs
  · rw [e]
    obtain ⟨m, hn, _⟩ := I.loc
    refine .cons (by rw [I.ok.kind]; decide) hf hn ?_ I.funs
    exact Heap.get?_none_of_le (Nat.le_trans I.ok.bsz I.ok.above)
theorem Inv.stkSub (I : Inv X pins σ H s) : ∀ b ∈ frs X.stack, b ∈ X.env.locals :: X.fs := fun b hb => by
  rcases I.ok.stk with e | ⟨e, hf⟩
  · rw [e] at hb; exact List.mem_cons_of_mem _ hb
  · rw [e] at hb
    unfold frs at hb
    rw [List.filterMap_cons, hf] at hb
    exact hb
theorem Inv.stkFree (I : Inv X pins σ H s) : ∀ b ∈ frs X.stack, H b = none := fun b hb => by
  rcases List.mem_cons.mp (I.stkSub b hb) with e | hb
  · rw [e]; exact I.free
  · obtain ⟨_, o, ho, _⟩ := I.ok.funs.mem hb
    exact I.base.free b o ho (I.ok.frf b hb) fun z => I.ok.exfs b z hb
theorem Inv.step {g' : Array GenState} {t' : Nat} {d' : Drawn} {ch : List Addr} (I : Inv X pins σ H s)
    (hch : ∀ b ∈ ch, (b ∈ X.ex ∨ X.s₀.heap.objs.size ≤ b) ∧ b ≠ X.env.locals ∧ (∀ x c, X.env.cells.lookup x = some c → c ≠ b) ∧ ∀ p ∈ X.pn ++ pins, p.1 ≠ b)
    (keep : ∀ b o, b ≠ X.env.locals → b ∉ X.fs → b ∉ ch → s.heap.get? b = some o → H b = none → h'.get? b = some o)
    (slot : ∀ b o, b ≠ X.env.locals → b ∈ X.fs → b ∉ ch → s.heap.get? b = some o → H b = none → ∃ sl, h'.get? b = some { o with slots := sl }) (free : ∀ b o, b ∉ ch → s.heap.get? b = some o → H b = none → H' b = none)
    (there : ∀ b o, b ∉ ch → s.heap.get? b = some o → ∃ o', h'.get? b = some o')
    (tups : ∀ b xs, H b = some (.tup xs) → H' b = some (.tup xs)) (frzs : ∀ b o u, H b = some (.frz o u) → H' b = some (.frz o u)) (tbls : ∀ b ps, H b = some (.tbl ps) → ∃ more, H' b = some (.tbl (ps ++ more)))
    (ns : ∀ m, s.heap.Ns X.env.locals m → h'.Ns X.env.locals m) (hok : HOk X.prog X.w H' h') (hg : AllBare g') :
    Inv X pins σ H' { s with heap := h', gens := g', drawn := d', toks := t' } := by
  have neL : ∀ b o, X.s₀.heap.get? b = some o → b ≠ X.env.locals := fun b o e => Nat.ne_of_lt (Nat.lt_of_lt_of_le (Heap.lt_size e) I.ok.above)
  have neC : ∀ b o, X.s₀.heap.get? b = some o → b ∉ X.ex → b ∉ ch := fun b o e hx hb => by
    rcases (hch b hb).1 with z | z
    · exact hx z
    · exact absurd (Nat.lt_of_lt_of_le (Heap.lt_size e) z) (Nat.lt_irrefl _)
  have cellK : ∀ x c, X.env.cells.lookup x = some c → ∀ v, s.heap.IsCell c v → h'.IsCell c v := fun x c e v ⟨o, ho, hd⟩ => by
    have nch : c ∉ ch := fun z => (hch c z).2.2.1 x c e rfl
    by_cases hc : c ∈ X.fs
    · obtain ⟨sl, q⟩ := slot c o (I.cne x c e) hc nch ho (I.freeC x c e)
      exact ⟨_, q, hd⟩
    · exact ⟨o, keep c o (I.cne x c e) hc nch ho (I.freeC x c e), hd⟩
  refine ⟨I.ok, I.os, hg, ⟨fun b o e n hb hx => ?_, fun b o e n hb hx => ?_, fun b o e n hx => ?_, fun b o e hx => ?_, fun b xs e => tups b xs (I.base.tups b xs e), fun b o xs e => frzs b o xs (I.base.frzs b o xs e), fun b ps e => ?_⟩, ?_, fun x c e => ?_, ?_, fun x c e => ?_, fun p hp => ?_, hok, I.len⟩
  · exact keep b o (neL b o e) hb (neC b o e hx) (I.base.keep b o e n hb hx) (I.base.free b o e n hx)
  · obtain ⟨sl, e1⟩ := I.base.slot b o e n hb hx
    obtain ⟨sl', e2⟩ := slot b _ (neL b o e) hb (neC b o e hx) e1 (I.base.free b o e n hx)
    exact ⟨sl', e2⟩
  · obtain ⟨o', e1⟩ := I.base.there b o e hx
    exact free b o' (neC b o e hx) e1 (I.base.free b o e n hx)
  · obtain ⟨o', e1⟩ := I.base.there b o e hx
    exact there b o' (neC b o e hx) e1
  · obtain ⟨m1, e1⟩ := I.base.tbls b ps e
    obtain ⟨m2, e2⟩ := tbls b _ e1
    exact ⟨m1 ++ m2, by rw [e2, Array.append_assoc]⟩
  · obtain ⟨m, hn, hl⟩ := I.loc
    refine ⟨m, ns m hn, fun i x v e1 e2 e3 => ?_⟩
    obtain ⟨u, r, l⟩ := hl i x v e1 e2 e3
    refine ⟨u, r, ?_⟩
    rcases l with l | ⟨k, c, e, z⟩
    · exact .inl l
    · exact .inr ⟨k, c, e, cellK x c e _ z⟩
  · obtain ⟨v, z⟩ := I.cell x c e
    exact ⟨v, cellK x c e v z⟩
  · obtain ⟨m, ⟨o, _, _, ho, _⟩, _⟩ := I.loc
    exact free _ o (fun z => (hch _ z).2.1 rfl) ho I.free
  · obtain ⟨v, o, ho, hd⟩ := I.cell x c e
    exact free c o (fun z => (hch c z).2.2.1 x c e rfl) ho (I.freeC x c e)
  · obtain ⟨e, n, ne, nf, d⟩ := I.pin p hp
    have nch : p.1 ∉ ch := fun z => (hch p.1 z).2.2.2 p hp rfl
    exact ⟨keep p.1 p.2 ne nf nch e n, free p.1 p.2 nch e n, ne, nf, d⟩
theorem Inv.un {t' : Nat} (I : Inv X pins σ H s) (u : Un X.fs [] H H' s.heap h') (hok : HOk X.prog X.w H' h') : Inv X pins σ H' { s with heap := h', toks := t' } := by
  obtain ⟨m, ⟨o, es, ep, ho, r⟩, _⟩ := id I.loc
  obtain ⟨sl, hL⟩ := u.any ho I.free (by simp)
  exact I.step (g' := s.gens) (d' := s.drawn) (ch := []) (fun _ z => nomatch z) (fun b o _ hb _ e n => u.keep b o e n hb (by simp)) (fun b o _ hb _ e n => u.slot b o e n hb (by simp)) (fun b o _ e n => u.free b o e n (by simp)) (fun b o _ e => u.there b o e (by simp)) u.tups u.frzs u.tbls (fun m' hm => by
    obtain ⟨o', es', ep', ho', r'⟩ := hm
    rw [ho] at ho'; cases ho'
    exact ⟨_, es', ep', hL, r'⟩) hok I.bare
theorem Inv.call {g' : Array GenState} {t' : Nat} {d' : Drawn} {ch : List Addr} (I : Inv X pins σ H s) (u : Un (frs X.stack) ch H H' s.heap h') (hok : HOk X.prog X.w H' h') (hg : AllBare g')
    (hch : ∀ b ∈ ch, (b ∈ X.ex ∨ X.s₀.heap.objs.size ≤ b) ∧ b ≠ X.env.locals ∧ (∀ x c, X.env.cells.lookup x = some c → c ≠ b) ∧ ∀ p ∈ X.pn ++ pins, p.1 ≠ b) :
    Inv X pins σ H' { s with heap := h', gens := g', drawn := d', toks := t' } := by
  obtain ⟨m, ⟨o, es, ep, ho, r⟩, _⟩ := id I.loc
  obtain ⟨sl, hL⟩ := u.any ho I.free fun z => (hch _ z).2.1 rfl
  exact I.step (ch := ch) hch (fun b o hL hb hc e n => u.keep b o e n (fun z => (List.mem_cons.mp (I.stkSub b z)).elim hL hb) hc) (fun b o _ _ hc e n => u.any e n hc) (fun b o hc e n => u.free b o e n hc) (fun b o hc e => u.there b o e hc) u.tups u.frzs u.tbls (fun m' hm => by
    obtain ⟨o', es', ep', ho', r'⟩ := hm
    rw [ho] at ho'; cases ho'
    exact ⟨_, es', ep', hL, r'⟩) hok hg
theorem Inv.turned {t' : Nat} {it : Addr} (I : Inv X pins σ H s) (k : ∀ b o, b ≠ it → s.heap.get? b = some o → h'.get? b = some o) (hn : H it = none) (hL : it ≠ X.env.locals)
    (h1 : it ∈ X.ex ∨ X.s₀.heap.objs.size ≤ it) (h2 : ∀ x c, X.env.cells.lookup x = some c → c ≠ it) (h3 : ∀ p ∈ X.pn ++ pins, p.1 ≠ it) : Inv X pins σ H { s with heap := h', toks := t' } := by
  have nit : ∀ b u, H b = some u → b ≠ it := fun b u e z => by rw [z, hn] at e; cases e
  refine I.step (g' := s.gens) (d' := s.drawn) (ch := [it]) (fun b hb => ?_) (fun b o _ _ hc e _ => k b o (fun z => hc (by simp [z])) e) (fun b o _ _ hc e _ => ⟨o.slots, k b o (fun z => hc (by simp [z])) e⟩) (fun _ _ _ _ n => n)
    (fun b o hc e => ⟨o, k b o (fun z => hc (by simp [z])) e⟩) (fun _ _ e => e) (fun _ _ _ e => e) (fun b ps e => ⟨#[], by rw [e]; simp⟩) (fun m hm => ?_) (fun b u e => ?_) I.bare
  · have e : b = it := by simpa using hb
    subst e
    exact ⟨h1, hL, h2, h3⟩
  · obtain ⟨o, es, ep, ho, r⟩ := hm
    exact ⟨o, es, ep, k _ o (Ne.symm hL) ho, r⟩
  · refine (I.hok b u e).stay (fun c v hc q => k c v ?_ q) (fun _ q => q) fun _ _ q => q
    rcases hc with z | z
    · rw [z]; exact nit b u e
    · exact nit c _ z
theorem Inv.tok (I : Inv X pins σ H s) (t : Nat) : Inv X pins σ H { s with toks := t } := I.un (h' := s.heap) (t' := t) Un.refl I.hok
theorem Inv.kept {t' : Nat} (I : Inv X pins σ H s) (k : ∀ b u, s.heap.get? b = some u → h'.get? b = some u) : Inv X pins σ H { s with heap := h', toks := t' } := I.un (Un.kept k) (I.hok.kept k)
theorem Inv.laid {a : Addr} {o : HO} {t' : Nat} (I : Inv X pins σ H s) (k : ∀ b u, s.heap.get? b = some u → h'.get? b = some u) (hp : s.heap.objs.size ≤ a) (new : ObjOk X.prog X.w (upd H a o) h' a o) :
    Inv X pins σ (upd H a o) { s with heap := h', toks := t' } := I.un (Un.laid k hp (I.hok.fresh hp)) (I.hok.laid k hp new)
theorem Inv.write {x e : Addr} {o : HO} {t' : Nat} (I : Inv X pins σ H s) (mu : Mut (H x)) (he : e = x ∨ H e = some (.own x)) (k : ∀ b u, b ≠ e → s.heap.get? b = some u → h'.get? b = some u) (heo : ∃ u, h'.get? e = some u)
    (new : ObjOk X.prog X.w (upd H x o) h' x o) : Inv X pins σ (upd H x o) { s with heap := h', toks := t' } := I.un (Un.write mu he k heo) (I.hok.write mu he k heo new)
theorem Inv.pins_of {pins' : List (Addr × Obj)} (I : Inv X pins σ H s) (h : ∀ p ∈ pins', s.heap.get? p.1 = some p.2 ∧ H p.1 = none ∧ p.1 ≠ X.env.locals ∧ p.1 ∉ X.fs ∧ ∀ v, p.2.data ≠ .cell v) : Inv X pins' σ H s :=
  ⟨I.ok, I.os, I.bare, I.base, I.loc, I.cell, I.free, I.freeC, fun p hp => (List.mem_append.mp hp).elim (fun z => I.pin p (List.mem_append_left _ z)) (h p), I.hok, I.len⟩
theorem nodup_ix {N : List Str} (hN : N.Nodup) {i j : Nat} {x : Str} (a : N[i]? = some x) (b : N[j]? = some x) : i = j := by
  obtain ⟨h1, e1⟩ := List.getElem?_eq_some_iff.mp a
  obtain ⟨h2, e2⟩ := List.getElem?_eq_some_iff.mp b
  exact (List.getElem_inj hN).mp (e1.trans e2.symm)
theorem store_ok2 {M : Model} {A : Around} {E : Value → Shared → Prop} {i : Nat} {x : Str} {v : V} {u : Value} {Q : Unit → Shared → Prop} (I : Inv X pins σ H s) (hN : X.N.Nodup) (hi : X.N[i]? = some x) (hx : Loc X.env.scope x) (r : RelV v u)
    (h : ∀ s', Inv X pins (σ.set i (some v)) H s' → (∃ a, Heap.SameBut a s.heap s'.heap ∧ (a = X.env.locals ∨ X.env.cells.lookup x = some a)) → Q () s') (hf : X.fn x = true ∨ X.env.scope.names.lookup x = some .local := by first | exact .inl rfl | exact .inr rfl | assumption) : wpAny M A (storeName X.env x u) Q E s := by
  obtain ⟨m, hn, hl⟩ := id I.loc
  have hcls : (X.env.scope.kind == .class || (X.env.scope.kind == .module && X.env.locals != X.env.globals)) = false := by rw [I.ok.kind]; rfl
  have hiσ : i < σ.length := by rw [I.len]; exact (List.getElem?_eq_some_iff.mp hi).1
  have cne := I.cne
  have tracked : ∀ {a : Addr} {h' : Heap}, (∃ o, s.heap.get? a = some o ∧ H a = none) → Heap.SameBut a s.heap h' → HOk X.prog X.w H h' := fun {a h'} ha hs b ob e => by
    obtain ⟨_, _, hfree⟩ := ha
    refine (I.hok b ob e).stay (fun c w' hc q => (hs.2 c ?_).trans q) (fun _ q => q) fun _ _ q => q
    rintro rfl
    rcases hc with rfl | hc
    · rw [hfree] at e; cases e
    · rw [hfree] at hc; cases hc
  rcases hx with hk | hk
  · refine wpAny_storeName_local hk hn (fun h' hn' hs => ?_) hcls
    obtain ⟨oL, _, _, hoL, _⟩ := id hn
    refine h _ ⟨I.ok, I.os, I.bare, ⟨fun b o e n hb hx => ?_, fun b o e n hb hx => ?_, I.base.free, fun b o e hx => ?_, I.base.tups, I.base.frzs, I.base.tbls⟩, ⟨_, hn', fun j y v' e1 e2 e3 => ?_⟩, fun y c e => ?_, I.free, I.freeC, fun p hp => ?_, tracked ⟨oL, hoL, I.free⟩ hs, by simpa using I.len⟩ ⟨_, hs, .inl rfl⟩
    · exact (hs.2 b (Nat.ne_of_lt (Nat.lt_of_lt_of_le (Heap.lt_size e) I.ok.above))).trans (I.base.keep b o e n hb hx)
    · obtain ⟨sl, e1⟩ := I.base.slot b o e n hb hx
      exact ⟨sl, (hs.2 b (Nat.ne_of_lt (Nat.lt_of_lt_of_le (Heap.lt_size e) I.ok.above))).trans e1⟩
    · obtain ⟨o', e1⟩ := I.base.there b o e hx
      exact ⟨o', (hs.2 b (Nat.ne_of_lt (Nat.lt_of_lt_of_le (Heap.lt_size e) I.ok.above))).trans e1⟩
    · by_cases hj : j = i
      · subst hj
        rw [hi] at e1; cases e1
        rw [List.getElem?_set_self hiσ] at e2
        cases e2
        exact ⟨u, r, .inl ⟨hk, by simp⟩⟩
      · rw [List.getElem?_set_ne (Ne.symm hj)] at e2
        obtain ⟨u', r', q⟩ := hl j y v' e1 e2 e3
        refine ⟨u', r', ?_⟩
        rcases q with ⟨k, e⟩ | ⟨k, c, e, z⟩
        · refine .inl ⟨k, ?_⟩
          have : y ≠ x := fun e => hj (nodup_ix hN e1 (e ▸ hi))
          simp [this, e]
        · exact .inr ⟨k, c, e, z.sameBut hs (cne y c e)⟩
    · obtain ⟨w', z⟩ := I.cell y c e
      exact ⟨w', z.sameBut hs (cne y c e)⟩
    · obtain ⟨e, n, ne, nf, d⟩ := I.pin p hp
      exact ⟨(hs.2 p.1 ne).trans e, n, ne, nf, d⟩
  · have hfn : X.fn x = true := by
      rcases hf with z | z
      · exact z
      · rw [z] at hk; cases hk
    obtain ⟨c, hc⟩ := I.ok.has x (.inl hk)
    obtain ⟨w', z⟩ := I.cell x c hc
    refine wpAny_storeName_cell I.ok.kind hk hc z (fun h' hc' hs => ?_)
    obtain ⟨oc, hoc, hocd⟩ := id z
    refine h { s with heap := h' } ⟨I.ok, I.os, I.bare, ⟨fun b o e n hb hx => ?_, fun b o e n hb hx => ?_, I.base.free, fun b o e hx => ?_, I.base.tups, I.base.frzs, I.base.tbls⟩, ⟨m, hn.sameBut hs (Ne.symm (cne x c hc)), fun j y v' e1 e2 e3 => ?_⟩, fun y c' e => ?_, I.free, I.freeC, fun p hp => ?_, tracked ⟨oc, hoc, I.freeC x c hc⟩ hs, by simpa using I.len⟩ ⟨c, hs, .inr hc⟩
    · exact (hs.2 b (Nat.ne_of_lt (Nat.lt_of_lt_of_le (Heap.lt_size e) (I.ok.cab x c hfn hc)))).trans (I.base.keep b o e n hb hx)
    · obtain ⟨sl, e1⟩ := I.base.slot b o e n hb hx
      exact ⟨sl, (hs.2 b (Nat.ne_of_lt (Nat.lt_of_lt_of_le (Heap.lt_size e) (I.ok.cab x c hfn hc)))).trans e1⟩
    · obtain ⟨o', e1⟩ := I.base.there b o e hx
      exact ⟨o', (hs.2 b (Nat.ne_of_lt (Nat.lt_of_lt_of_le (Heap.lt_size e) (I.ok.cab x c hfn hc)))).trans e1⟩
    · by_cases hj : j = i
      · subst hj
        rw [hi] at e1; cases e1
        rw [List.getElem?_set_self hiσ] at e2
        cases e2
        exact ⟨u, r, .inr ⟨.inl hk, c, hc, hc'⟩⟩
      · rw [List.getElem?_set_ne (Ne.symm hj)] at e2
        obtain ⟨u', r', q⟩ := hl j y v' e1 e2 e3
        refine ⟨u', r', ?_⟩
        rcases q with q | ⟨k, c', e, z'⟩
        · exact .inl q
        · refine .inr ⟨k, c', e, z'.sameBut hs ?_⟩
          rintro rfl
          exact hj (nodup_ix hN e1 (I.ok.inj _ _ _ e hc ▸ hi))
    · by_cases hcc : c' = c
      · subst hcc; exact ⟨_, hc'⟩
      · obtain ⟨w2, z2⟩ := I.cell y c' e
        exact ⟨w2, z2.sameBut hs hcc⟩
    · obtain ⟨e, n, ne, nf, d⟩ := I.pin p hp
      refine ⟨(hs.2 p.1 ?_).trans e, n, ne, nf, d⟩
      intro q
      rw [q, hoc] at e
      have q' : oc = p.2 := Option.some.inj e
      exact d w' (by rw [← q']; exact hocd)
theorem store_ok {M : Model} {A : Around} {E : Value → Shared → Prop} {i : Nat} {x : Str} {v : V} {u : Value} {Q : Unit → Shared → Prop} (I : Inv X pins σ H s) (hN : X.N.Nodup) (hi : X.N[i]? = some x) (hx : Loc X.env.scope x) (r : RelV v u)
    (h : ∀ s', Inv X pins (σ.set i (some v)) H s' → Q () s') (hf : X.fn x = true ∨ X.env.scope.names.lookup x = some .local := by first | exact .inl rfl | exact .inr rfl | assumption) : wpAny M A (storeName X.env x u) Q E s :=
  store_ok2 I hN hi hx r (fun s' I' _ => h s' I') hf
theorem Inv.call' {s' : Shared} {ch : List Addr} (I : Inv X pins σ H s) (ho : s'.os = s.os) (u : Un (frs X.stack) ch H H' s.heap s'.heap) (hok : HOk X.prog X.w H' s'.heap) (hg : AllBare s'.gens)
    (hch : ∀ b ∈ ch, (b ∈ X.ex ∨ X.s₀.heap.objs.size ≤ b) ∧ b ≠ X.env.locals ∧ (∀ x c, X.env.cells.lookup x = some c → c ≠ b) ∧ ∀ p ∈ X.pn ++ pins, p.1 ≠ b) : Inv X pins σ H' s' := by
  obtain ⟨h', g', d', t', o'⟩ := s'
  have e : o' = s.os := ho
  subst e
  exact I.call (g' := g') (t' := t') (d' := d') u hok hg hch
end
abbrev XK := Value → Option Addr → Hp → Prop
abbrev St := List (Option V)
abbrev VK := V → Hp → Prop
abbrev TE := St → Hp → VK → Prop
abbrev TT := St → Hp → (Bool → Hp → Prop) → Prop
abbrev TA := St → Hp → (List V → Hp → Prop) → Prop
structure Ends where
  nx : St → Hp → Prop
  rt : VK
  bk : St → Hp → Prop := fun _ _ => False
  ct : St → Hp → Prop := fun _ _ => False
abbrev TS := Ends → St → Hp → Prop
def EP (X : Cx) (pins : List (Addr × Obj)) (σ : St) (Q : VK) (u : Value) (s' : Shared) : Prop := ∃ v H', Inv X pins σ H' s' ∧ RelV v u ∧ Q v H'
def TP (X : Cx) (pins : List (Addr × Obj)) (σ : St) (Q : Bool → Hp → Prop) (b : Bool) (s' : Shared) : Prop := ∃ H', Inv X pins σ H' s' ∧ Q b H'
def AP (X : Cx) (pins : List (Addr × Obj)) (σ : St) (Q : List V → Hp → Prop) (us : List Value) (s' : Shared) : Prop := ∃ vs H', Inv X pins σ H' s' ∧ Vals vs us ∧ Q vs H'
def SP (X : Cx) (pins : List (Addr × Obj)) (D : Ends) (f : Flow) (s' : Shared) : Prop :=
  match f with
  | .next => ∃ σ' H', Inv X pins σ' H' s' ∧ D.nx σ' H'
  | .brk => ∃ σ' H', Inv X pins σ' H' s' ∧ D.bk σ' H'
  | .cont => ∃ σ' H', Inv X pins σ' H' s' ∧ D.ct σ' H'
  | .ret u => ∃ v σ' H', Inv X pins σ' H' s' ∧ RelV v u ∧ D.rt v H'
def PE (X : Cx) (e : Expr) (t : TE) : Prop :=
  ∀ (pins : List (Addr × Obj)) (s : Shared) (σ : St) (H : Hp) (Q : VK), Inv X pins σ H s → t σ H Q → wpAny (model X.prog X.w) X.A (eval e X.env) (EP X pins σ Q) X.xe s
def PT (X : Cx) (e : Expr) (t : TT) : Prop :=
  ∀ (pins : List (Addr × Obj)) (s : Shared) (σ : St) (H : Hp) (Q : Bool → Hp → Prop), Inv X pins σ H s → t σ H Q → wpAny (model X.prog X.w) X.A (isTrue e X.env (eval e X.env)) (TP X pins σ Q) X.xe s
def PW (X : Cx) (e : Expr) (t : TT) : Prop :=
  ∀ (whole : Sem Value) (pins : List (Addr × Obj)) (s : Shared) (σ : St) (H : Hp) (Q : Bool → Hp → Prop), Inv X pins σ H s → t σ H Q → wpAny (model X.prog X.w) X.A (isTrue e X.env whole) (TP X pins σ Q) X.xe s
theorem PW.pt {X : Cx} {e : Expr} {t : TT} (h : PW X e t) : PT X e t := h _
def PA (X : Cx) (es : List Expr) (t : TA) : Prop :=
  ∀ (pos : Pos) (pins : List (Addr × Obj)) (s : Shared) (σ : St) (H : Hp) (Q : List V → Hp → Prop), Inv X pins σ H s → t σ H Q → wpAny (model X.prog X.w) X.A (spliced (backTo pos (starEach es X.env))) (AP X pins σ Q) X.xe s
def PS (X : Cx) (st : Stmt) (t : TS) : Prop :=
  ∀ (pins : List (Addr × Obj)) (s : Shared) (σ : St) (H : Hp) (D : Ends), Inv X pins σ H s → t D σ H → wpAny (model X.prog X.w) X.A (exec st X.env) (SP X pins D) X.xe s
def PSs (X : Cx) (st : List Stmt) (t : TS) : Prop :=
  ∀ (pins : List (Addr × Obj)) (s : Shared) (σ : St) (H : Hp) (D : Ends), Inv X pins σ H s → t D σ H → wpAny (model X.prog X.w) X.A (execs st X.env) (SP X pins D) X.xe s
theorem thn {α : Type} {t : Sem α} {Q Q' : α → Shared → Prop} {M : Model} {A : Around} {E : Value → Shared → Prop} {s : Shared} (h : wpAny M A t Q E s) (hQ : ∀ a s, Q a s → Q' a s) : wpAny M A t Q' E s := wpAny_mono h hQ fun _ _ x => x
end L2
namespace L2
open PySem PySem.Spec PyProof.Rows
section
variable {X : Cx}
def tVar (i : Nat) : TE := fun σ H Q => ∃ v, σ[i]? = some (some v) ∧ Q v H
def tC (v : V) : TE := fun _ H Q => Q v H
theorem pe_var {i : Nat} {x : Str} {pos : Pos} (hN : X.N[i]? = some x) (hv : Vis X.env.scope x) (hd : (x == ("__debug__" : Str)) = false := by decide) (hcd : (x == ("__classdict__" : Str)) = false := by decide) : PE X (.Name x pos) (tVar i) := by
  intro pins s σ H Q I h
  obtain ⟨v, e, h⟩ := h
  obtain ⟨m, hn, hl⟩ := I.loc
  obtain ⟨u, r, l⟩ := hl i x v hN e hv
  have fin : EP X pins σ Q u s := ⟨v, H, I, r, h⟩
  rcases l with ⟨hk, hm⟩ | ⟨hk, c, hc, hcell⟩
  · exact wpAny_Name (wpAny_loadName_local I.ok.kind hk hn hm fin) hd
  · rcases hk with hk | hk
    · exact wpAny_Name (wpAny_loadName_cell I.ok.kind hk hc hcell fin) hd
    · exact wpAny_Name (wpAny_loadName_free I.ok.kind hk hc hcell fin hcd) hd
theorem pe_int {i j pos} : PE X (.Constant (.int i) j pos) (tC (.int i)) := fun _ _ _ H _ I h => wpAny_Constant_int ⟨.int i, H, I.tok _, ⟨_, rfl⟩, h⟩
theorem pe_bl {b j pos} : PE X (.Constant (.bool b) j pos) (tC (.bl b)) := fun _ _ _ H _ I h => Constant_bool ⟨.bl b, H, I, rfl, h⟩
theorem pe_str {x j pos} : PE X (.Constant (.str x) j pos) (tC (.str x)) := fun _ _ _ H _ I h => Calls.Constant_str ⟨.str x, H, I.tok _, ⟨_, rfl⟩, h⟩
def Gl (X : Cx) (x : Str) : Prop := X.env.kindOf x = some .globalImplicit
theorem ld_glob {E : Value → Shared → Prop} {pins : List (Addr × Obj)} {s : Shared} {σ : St} {H : Hp} {x : Str} {u : Value} {pos : Pos} {Q : Value → Shared → Prop} (I : Inv X pins σ H s) (hg : Gl X x) (hm : X.mg x = some u) (h : Q u s)
    (hd : (x == ("__debug__" : Str)) = false := by decide) : wpAny (model X.prog X.w) X.A (eval (.Name x pos) X.env) Q E s :=
  Calls.Name_function_global I.ok.kind hg (Calls.loadGlobal_global (by rw [I.ok.glob]; exact I.mod.glob.keeps I.bk) hm h) hd
theorem ld_blt {E : Value → Shared → Prop} {pins : List (Addr × Obj)} {s : Shared} {σ : St} {H : Hp} {x : Str} {u : Value} {pos : Pos} {Q : Value → Shared → Prop} (I : Inv X pins σ H s) (hg : Gl X x) (hm : X.mg x = none) (hv : bootBuiltins x = some u) (h : Q u s)
    (hn : x ≠ "__name__" := by decide) (hd : (x == ("__debug__" : Str)) = false := by decide) : wpAny (model X.prog X.w) X.A (eval (.Name x pos) X.env) Q E s := by
  obtain ⟨mb, h1, h2⟩ := I.mod.blt
  exact Calls.Name_function_global I.ok.kind hg (Calls.loadGlobal_builtin (by rw [I.ok.glob]; exact I.mod.glob.keeps I.bk) hm (by rw [I.ok.blt]; exact h1.keeps I.bk) ((h2 x hn).trans hv) h) hd
theorem pe_glob {x : Str} {v : V} {u : Value} {pos : Pos} (hg : Gl X x) (hm : X.mg x = some u) (r : RelV v u) (hd : (x == ("__debug__" : Str)) = false := by decide) : PE X (.Name x pos) (tC v) :=
  fun _ _ _ H _ I h => ld_glob I hg hm ⟨v, H, I, r, h⟩ hd
theorem pe_bltn {x : Str} {v : V} {u : Value} {pos : Pos} (hg : Gl X x) (hm : X.mg x = none) (hv : bootBuiltins x = some u) (r : RelV v u) (hn : x ≠ "__name__" := by decide) (hd : (x == ("__debug__" : Str)) = false := by decide) : PE X (.Name x pos) (tC v) :=
  fun _ _ _ H _ I h => ld_blt I hg hm hv ⟨v, H, I, r, h⟩ hn hd
variable {a b : Expr} {ta tb : TE} {pos : Pos}
def tB (t : TE) : TT := fun σ H Q => t σ H fun x H1 => ∃ c, x = .bl c ∧ Q c H1
theorem pt_val {e : Expr} {t : TE} (h : PE X e t) (he : ∀ whole, isTrue e X.env whole = (do let v ← whole; standAt e.pos; holding [v] (truthy v)) := by intro _; rfl) : PT X e (tB t) := by
  intro pins s σ H Q I hw
  refine isTrue_plain (thn (h pins s σ H _ I hw) fun v s1 ⟨x, H1, I1, r1, q1⟩ => ?_) (he _)
  obtain ⟨d, rfl, q⟩ := q1
  cases r1
  exact wpAny_truthy_bool ⟨H1, I1, q⟩
variable {tA tB' : TT} {rest : List Expr}
def tOr (t u : TT) : TT := fun σ H Q => t σ H fun c H1 => if c = true then Q true H1 else u σ H1 Q
def tNot (t : TT) : TT := fun σ H Q => t σ H fun c H1 => Q (!c) H1
theorem pw_or1 (ha : PT X a tA) : PW X (.BoolOp .Or [a] pos) tA := by
  intro wh pins s σ H Q I h
  refine isTrue_or (thn (ha pins s σ H Q I h) fun c s1 e => ?_)
  cases c with
  | false => exact isTrue_or_nil e
  | true => exact e
theorem pw_or (ha : PT X a tA) (hb : PW X (.BoolOp .Or (b :: rest) pos) tB') : PW X (.BoolOp .Or (a :: b :: rest) pos) (tOr tA tB') := by
  intro wh pins s σ H Q I h
  refine isTrue_or (thn (ha pins s σ H _ I h) fun c s1 ⟨H1, I1, q1⟩ => ?_)
  cases c with
  | true => exact ⟨H1, I1, q1⟩
  | false => exact hb wh pins s1 σ H1 Q I1 q1
theorem pt_not (ha : PT X a tA) : PT X (.UnaryOp .Not a pos) (tNot tA) := by
  intro pins s σ H Q I h
  exact isTrue_not (ha pins s σ H (fun c H1 => Q (!c) H1) I h)
def tAndV (ta tb : TE) : TE := fun σ H Q => ta σ H fun x H1 => ∃ c, x = .bl c ∧ if c = true then tb σ H1 Q else Q (.bl false) H1
def tNotV (ta : TE) : TE := fun σ H Q => ta σ H fun x H1 => ∃ c, x = .bl c ∧ Q (.bl (!c)) H1
theorem pe_one {op} {t : TE} (h : PE X a t) : PE X (.BoolOp op [a] pos) t := fun pins s σ H Q I hw => BoolOp_one (h pins s σ H Q I hw)
theorem pe_and (ha : PE X a ta) (hb : PE X (.BoolOp .And (b :: rest) pos) tb) : PE X (.BoolOp .And (a :: b :: rest) pos) (tAndV ta tb) := by
  intro pins s σ H Q I h
  refine BoolOp_and (thn (ha pins s σ H _ I h) fun v s1 ⟨x, H1, I1, r1, q1⟩ => ?_)
  obtain ⟨c, rfl, q1⟩ := q1
  cases r1
  refine wpAny_truthy_bool ?_
  cases c with
  | true => exact hb pins s1 σ H1 Q I1 q1
  | false => exact ⟨.bl false, H1, I1, rfl, q1⟩
theorem pe_not (ha : PE X a ta) : PE X (.UnaryOp .Not a pos) (tNotV ta) := by
  intro pins s σ H Q I h
  refine UnaryOp_ (thn (ha pins s σ H _ I h) fun v s1 ⟨x, H1, I1, r1, q1⟩ => ?_)
  obtain ⟨c, rfl, q1⟩ := q1
  cases r1
  exact not_of (wpAny_truthy_bool ⟨.bl (!c), H1, I1, rfl, q1⟩)
end
end L2
namespace L2
open PySem PySem.Spec PyProof.Rows
def SqL (K : PySem.W.Frag) (H : Hp) (a : Addr) (xs : List V) : Prop :=
  Rd H a (.lst xs) ∨
    ∃ (o : Obj) (its : Array Value) (n : Nat), K.lookup a = some o ∧ o.cls = .type "list" ∧ o.dict = none ∧ o.data = .seq its n ∧ its.size ≤ sizeLine ∧ Vals xs its.toList
def SqT (K : PySem.W.Frag) (H : Hp) (a : Addr) (xs : List V) : Prop :=
  Rd H a (.tup xs) ∨
    ∃ (o : Obj) (its : Array Value) (n : Nat), K.lookup a = some o ∧ o.cls = .type "tuple" ∧ o.data = .seq its n ∧ its.size ≤ sizeLine ∧ Vals xs its.toList
def absV : Value → Option V
  | .none => some .non
  | .bool b => some (.bl b)
  | .int i _ => some (.int i)
  | .str x _ => some (.str x)
  | .bytes b _ => some (.byt b)
  | .float b _ => some (.flt b)
  | .ref a => some (.ref a)
  | .type n => some (.ty n)
  | _ => none
theorem RelV.abs {x : V} {u : Value} (r : RelV x u) : absV u = some x := by
  cases x with
  | non => cases r; rfl
  | bl _ => cases r; rfl
  | int _ => obtain ⟨t, rfl⟩ := r; rfl
  | str _ => obtain ⟨t, rfl⟩ := r; rfl
  | byt _ => obtain ⟨t, rfl⟩ := r; rfl
  | flt _ => obtain ⟨t, rfl⟩ := r; rfl
  | ref _ => cases r; rfl
  | ty _ => cases r; rfl
theorem RelV.inj {x y : V} {u : Value} (r : RelV x u) (q : RelV y u) : x = y := Option.some.inj (r.abs.symm.trans q.abs)
theorem Vals.inj : ∀ {xs ys : List V} {us : List Value}, Vals xs us → Vals ys us → xs = ys
  | _, _, _, .nil, .nil => rfl
  | _, _, _, .cons r t, .cons r' t' => by rw [r.inj r', Vals.inj t t']
section
variable {X : Cx} {pins : List (Addr × Obj)} {σ : St} {H : Hp} {s : Shared} {a : Addr} {xs ys : List V}
theorem SqL.of {K : PySem.W.Frag} (h : H a = some (.lst xs)) : SqL K H a xs := .inl (.inl h)
theorem SqT.of {K : PySem.W.Frag} (h : H a = some (.tup xs)) : SqT K H a xs := .inl (.inl h)
theorem Inv.list (I : Inv X pins σ H s) (h : SqL X.K H a xs) : ∃ its : List Value, Vals xs its ∧ PlainL s.heap a its.toArray ∧ xs.length ≤ sizeLine := by
  rcases h with h | ⟨o, its, n, hk, hc, hd, hs, hz, r⟩
  · obtain ⟨z, its, n, r, e⟩ := h.ok I.hok
    exact ⟨its, r, ⟨_, n, e, rfl, rfl, rfl⟩, z⟩
  · refine ⟨its.toList, r, ⟨o, n, I.kIn a o hk, hc, hd, by simpa using hs⟩, ?_⟩
    have e := r.length
    simp only [Array.length_toList] at e
    omega
theorem Inv.tuple (I : Inv X pins σ H s) (h : SqT X.K H a xs) : ∃ its : List Value, Vals xs its ∧ IsTup s.heap a its.toArray ∧ xs.length ≤ sizeLine := by
  rcases h with h | ⟨o, its, n, hk, hc, hs, hz, r⟩
  · obtain ⟨z, its, r, p⟩ := h.ok I.hok
    exact ⟨its, r, p, z⟩
  · refine ⟨its.toList, r, ⟨o, I.kIn a o hk, hc, n, by simpa using hs⟩, ?_⟩
    have e := r.length
    simp only [Array.length_toList] at e
    omega
theorem Inv.list_inj (I : Inv X pins σ H s) (h : SqL X.K H a xs) (h' : SqL X.K H a ys) : xs = ys := by
  obtain ⟨its, r, ⟨o, n, e, _, _, d⟩, _⟩ := I.list h
  obtain ⟨its', r', ⟨o', n', e', _, _, d'⟩, _⟩ := I.list h'
  rw [e] at e'; cases e'
  rw [d] at d'
  injection d' with d1 _
  have : its = its' := by simpa using congrArg Array.toList d1
  subst this
  exact r.inj r'
end
abbrev Cx.wish (X : Cx) (E : Value → Shared → Prop) : Cx := { X with xe := E }
abbrev Cx.nox (X : Cx) : Cx := X.wish fun _ _ => False
theorem Cx.Ok.wish {X : Cx} (ok : X.Ok) (E : Value → Shared → Prop) : (X.wish E).Ok :=
  ⟨ok.mod, ok.kind, ok.glob, ok.blt, ok.above, ok.inj, ok.has, ok.cab, ok.hd, ok.frames, ok.stk, ok.exf, ok.bs, ok.bsz, ok.noex, ok.exfs, ok.funs, ok.frf⟩
theorem Cx.Ok.unwish {X : Cx} {E : Value → Shared → Prop} (ok : (X.wish E).Ok) : X.Ok :=
  ⟨ok.mod, ok.kind, ok.glob, ok.blt, ok.above, ok.inj, ok.has, ok.cab, ok.hd, ok.frames, ok.stk, ok.exf, ok.bs, ok.bsz, ok.noex, ok.exfs, ok.funs, ok.frf⟩
section
variable {X : Cx} {pins : List (Addr × Obj)} {σ : St} {H : Hp} {s : Shared} {E : Value → Shared → Prop}
theorem Inv.wish (I : Inv X pins σ H s) (E : Value → Shared → Prop) : Inv (X.wish E) pins σ H s := ⟨I.ok.wish E, I.os, I.bare, I.base, I.loc, I.cell, I.free, I.freeC, I.pin, I.hok, I.len⟩
theorem Inv.unwish (I : Inv (X.wish E) pins σ H s) : Inv X pins σ H s := ⟨I.ok.unwish, I.os, I.bare, I.base, I.loc, I.cell, I.free, I.freeC, I.pin, I.hok, I.len⟩
theorem SP.unwish {D : Ends} {f : Flow} {s' : Shared} (h : SP (X.wish E) pins D f s') : SP X pins D f s' := by
  cases f with
  | next => obtain ⟨σ', H', I, q⟩ := h; exact ⟨σ', H', I.unwish, q⟩
  | brk => obtain ⟨σ', H', I, q⟩ := h; exact ⟨σ', H', I.unwish, q⟩
  | cont => obtain ⟨σ', H', I, q⟩ := h; exact ⟨σ', H', I.unwish, q⟩
  | ret u => obtain ⟨v, σ', H', I, r, q⟩ := h; exact ⟨v, σ', H', I.unwish, r, q⟩
theorem PE.nox {e : Expr} {t : TE} (h : PE X.nox e t) : PE X e t := fun pins s σ H Q I hw =>
  wpAny_mono (h pins s σ H Q (I.wish _) hw) (fun _ _ ⟨v, H', I', r, q⟩ => ⟨v, H', I'.unwish, r, q⟩) fun _ _ z => False.elim z
theorem PT.nox {e : Expr} {t : TT} (h : PT X.nox e t) : PT X e t := fun pins s σ H Q I hw =>
  wpAny_mono (h pins s σ H Q (I.wish _) hw) (fun _ _ ⟨H', I', q⟩ => ⟨H', I'.unwish, q⟩) fun _ _ z => False.elim z
theorem PSs.nox {st : List Stmt} {t : TS} (h : PSs X.nox st t) : PSs X st t := fun pins s σ H D I hw =>
  wpAny_mono (h pins s σ H D (I.wish _) hw) (fun _ _ q => q.unwish) fun _ _ z => False.elim z
end
section
variable {X : Cx} {st : Stmt} {rest : List Stmt} {t u : TS} {e : Expr} {te : TE} {pos : Pos}
def tNext : TS := fun D σ H => D.nx σ H
def tSeq (t u : TS) : TS := fun D σ H => t { D with nx := u D } σ H
theorem pss_nil : PSs X [] tNext := fun _ _ σ H _ I h => wpAny_execs_nil ⟨σ, H, I, h⟩
theorem pss_cons (h1 : PS X st t) (h2 : PSs X rest u) : PSs X (st :: rest) (tSeq t u) := by
  intro pins s σ H D I h
  refine wpAny_execs_cons (thn (h1 pins s σ H { D with nx := u D } I h) fun f s1 q => ?_)
  cases f with
  | next =>
    obtain ⟨σ', H', I', q⟩ := q
    exact h2 pins s1 σ' H' D I' q
  | ret v => exact q
  | brk => exact q
  | cont => exact q
theorem pss_one (h1 : PS X st t) : PSs X [st] t := by
  intro pins s σ H D I h
  refine wpAny_execs_cons (thn (h1 pins s σ H D I h) fun f s1 q => ?_)
  cases f with
  | next => exact wpAny_execs_nil q
  | ret v => exact q
  | brk => exact q
  | cont => exact q
theorem Inv.quiet {pins : List (Addr × Obj)} {σ : St} {H : Hp} {s : Shared} (I : Inv X pins σ H s) : interactive X.env = false := by simp [interactive, I.ok.kind]
def tDrop (te : TE) : TS := fun D σ H => te σ H fun _ H1 => D.nx σ H1
theorem ps_expr (he : PE X e te) (hs : swapsWith e none pos.line X.env = pure false := by rfl) : PS X (.Expr e pos) (tDrop te) := by
  intro pins s σ H D I h
  exact wpAny_Expr_any (thn (he pins s σ H _ I h) fun v s1 ⟨x, H1, I1, r1, q1⟩ => ⟨σ, H1, I1, q1⟩) I.quiet hs
def tRet (te : TE) : TS := fun D σ H => te σ H D.rt
theorem ps_ret (he : PE X e te) : PS X (.Return (some e) pos) (tRet te) := by
  intro pins s σ H D I h
  exact wpAny_Return_some (thn (he pins s σ H _ I h) fun v s1 ⟨x, H1, I1, r1, q1⟩ => ⟨x, σ, H1, I1, r1, q1⟩)
def tIfS (c : TT) (t u : TS) : TS := fun D σ H => c σ H fun b H1 => if b = true then t D σ H1 else u D σ H1
theorem ps_if {c : Expr} {a b : List Stmt} {tc : TT} (hc : PT X c tc) (ha : PSs X a t) (hb : PSs X b u) : PS X (.If c a b pos) (tIfS tc t u) := by
  intro pins s σ H D I h
  refine wpAny_If (thn (hc pins s σ H _ I h) fun d s1 ⟨H1, I1, q1⟩ => ?_)
  cases d with
  | true => exact ha pins s1 σ H1 D I1 q1
  | false => exact hb pins s1 σ H1 D I1 q1
end
abbrev TG := V → St → Hp → (St → Hp → Prop) → Prop
def PG (X : Cx) (target : Expr) (t : TG) : Prop :=
  ∀ (pins : List (Addr × Obj)) (s : Shared) (σ : St) (H : Hp) (v : V) (u : Value) (Q : St → Hp → Prop), Inv X pins σ H s → RelV v u → t v σ H Q →
    wpAny (model X.prog X.w) X.A (assign target X.env u) (fun _ s' => ∃ σ' H', Inv X pins σ' H' s' ∧ Q σ' H') X.xe s
abbrev TSet := V → V → V → Hp → (Hp → Prop) → Prop
section
variable {X : Cx} {pos : Pos}
def gName (i : Nat) : TG := fun v σ H Q => Q (σ.set i (some v)) H
theorem pg_name {i : Nat} {x : Str} (hN : X.N.Nodup) (hi : X.N[i]? = some x) (hx : Loc X.env.scope x) (hf : X.fn x = true ∨ X.env.scope.names.lookup x = some .local := by first | exact .inl rfl | exact .inr rfl | assumption) : PG X (.Name x pos) (gName i) := by
  intro pins s σ H v u Q I r h
  exact wpAny_assign_Name (store_ok I hN hi hx r (fun s' I' => ⟨_, H, I', h⟩) hf)
def gSub (to ti : TE) (t : TSet) : TG := fun v σ H Q => to σ H fun o H1 => ti σ H1 fun i H2 => t o i v H2 fun H3 => Q σ H3
def tAsg (te : TE) (g : TG) : TS := fun D σ H => te σ H fun x H1 => g x σ H1 D.nx
theorem ps_set {i : Nat} {x : Str} {e : Expr} {te : TE} {pos' : Pos} (hN : X.N.Nodup) (hi : X.N[i]? = some x) (hx : Loc X.env.scope x) (he : PE X e te) (hs : swapsWith e (some (.Name x pos')) pos.line X.env = pure false := by rfl) (hf : X.fn x = true ∨ X.env.scope.names.lookup x = some .local := by first | exact .inl rfl | exact .inr rfl | assumption) :
    PS X (.Assign [.Name x pos'] e pos) (tAsg te (gName i)) := by
  intro pins s σ H D I h
  refine wpAny_Assign_Name (thn (he pins s σ H _ I h) fun v s1 ⟨y, H1, I1, r1, q1⟩ => ?_) hs
  exact store_ok I1 hN hi hx r1 (fun s2 I2 => ⟨_, H1, I2, q1⟩) hf
end
section
variable {X : Cx} {pos : Pos}
end
structure It where
  go : Nat → Hp → Prop
  yld : Nat → Hp → V → Hp → Prop
  stop : Nat → Hp → Prop
def FpOk (X : Cx) (pins : List (Addr × Obj)) (H : Hp) (b : Addr) : Prop :=
  H b = none ∧ b ≠ X.env.locals ∧ b ∉ X.fs ∧ (b ∈ X.ex ∨ X.s₀.heap.objs.size ≤ b) ∧ (∀ x c, X.env.cells.lookup x = some c → c ≠ b) ∧ ∀ p ∈ X.pn ++ pins, p.1 ≠ b
theorem Inv.fpOk {X : Cx} {pins : List (Addr × Obj)} {σ : St} {H H' : Hp} {s : Shared} {b : Addr} (I : Inv X pins σ H s) (hb : s.heap.objs.size ≤ b) (hn : H' b = none) : FpOk X pins H' b := by
  refine ⟨hn, Nat.ne_of_gt (Nat.lt_of_lt_of_le I.lt hb), I.nofs hb, .inr (Nat.le_trans I.sz hb), fun x c e z => ?_, fun p hp z => ?_⟩
  · obtain ⟨v, q⟩ := I.cell x c e
    exact absurd (Nat.lt_of_lt_of_le q.lt (by rw [z]; exact hb)) (Nat.lt_irrefl _)
  · exact absurd (Nat.lt_of_lt_of_le (Heap.lt_size (I.pin p hp).1) (by rw [z]; exact hb)) (Nat.lt_irrefl _)
structure Turn (P : Program) (w : World) (K : PySem.W.Frag) (tg : Expr) (J : It) (fp : List Addr) (it : Addr) (tn : Nat → Heap → Prop) : Prop where
  mem : it ∈ fp
  obj : ∀ i h, tn i h → ∀ b ∈ fp, ∃ o, h.get? b = some o ∧ ∀ v, o.data ≠ .cell v
  keep : ∀ i h h', tn i h → (∀ b ∈ fp, ∀ o, h.get? b = some o → h'.get? b = some o) → tn i h'
  item : ∀ (X : Cx), X.prog = P → X.w = w → X.K = K → X.calm = true → ∀ (i : Nat) (pins : List (Addr × Obj)) (s : Shared) (σ : St) (H : Hp) (E : Value → Shared → Prop), Inv X pins σ H s → (∀ b ∈ fp, FpOk X pins H b) → tn i s.heap → J.go i H →
    wpAny (model P w) X.A (pyNext (.ref it)) (fun r s1 => ∃ u, r = some u ∧
      wpAny (model P w) X.A (letOwnedTupleGo tg (.ref it) u) (fun _ s2 => ∃ x H', Inv X pins σ H' s2 ∧ RelV x u ∧ J.yld i H x H' ∧ tn (i + 1) s2.heap ∧ ∀ b ∈ fp, H' b = none) E s1) E s
  done : ∀ (X : Cx), X.prog = P → X.w = w → X.K = K → X.calm = true → ∀ (i : Nat) (pins : List (Addr × Obj)) (s : Shared) (σ : St) (H : Hp) (E : Value → Shared → Prop), Inv X pins σ H s → (∀ b ∈ fp, FpOk X pins H b) → tn i s.heap → J.stop i H →
    wpAny (model P w) X.A (pyNext (.ref it)) (fun r s1 => r = none ∧ Inv X pins σ H s1) E s
  self : ∀ (A : Around) (i : Nat) (s : Shared) (Q : Value → Shared → Prop) (E : Value → Shared → Prop), tn i s.heap → Q (.ref it) s → wpAny (model P w) A (pyIter (.ref it)) Q E s
abbrev TI := St → Hp → (It → Hp → Prop) → Prop
def PIE (X : Cx) (pins : List (Addr × Obj)) (σ : St) (tg : Expr) (R : It → Hp → Prop) (itv : Value) (s2 : Shared) : Prop :=
  ∃ (it : Addr) (fp : List Addr) (tn : Nat → Heap → Prop) (J : It) (H' : Hp), itv = .ref it ∧ Inv X pins σ H' s2 ∧ Turn X.prog X.w X.K tg J fp it tn ∧ tn 0 s2.heap ∧ (∀ b ∈ fp, FpOk X pins H' b) ∧ R J H'
def PI (X : Cx) (tg iter : Expr) (wi : TI) : Prop :=
  ∀ (pins : List (Addr × Obj)) (s : Shared) (σ : St) (H : Hp) (R : It → Hp → Prop), Inv X pins σ H s → wi σ H R →
    wpAny (model X.prog X.w) X.A (eval iter X.env) (fun v s1 => wpAny (model X.prog X.w) X.A (pyIter v) (PIE X pins σ tg R) X.xe s1) X.xe s
theorem go_of {M : Model} {A : Around} {E : Value → Shared → Prop} {s : Shared} {tg : Expr} {it : Addr} {u : Value} {o : Obj} {n : String} {vs : Array Value} {Q : Unit → Shared → Prop} (ho : s.heap.get? it = some o) (hc : o.cls = .type n) (hd : o.data = .fields vs)
    (hn : ["enumerate", "zip", "dict_itemiterator", "dict_reverseitemiterator", "odict_iterator", "itertools.zip_longest", "itertools.pairwise"].contains n = false) (hQ : Q () s) : wpAny M A (letOwnedTupleGo tg (.ref it) u) Q E s := by
  unfold letOwnedTupleGo
  cases tg <;> first
    | exact wpAny_pure hQ
    | (cases u <;> first
        | exact wpAny_pure hQ
        | (refine wpAny_bind (wpAny_load ho ?_)
           rw [hc, hd]
           show wpAny M A (if (["enumerate", "zip", "dict_itemiterator", "dict_reverseitemiterator", "odict_iterator", "itertools.zip_longest", "itertools.pairwise"].contains n && vs[0]? == some (rawInt _)) = true then _ else _) Q E s
           rw [if_neg (by intro h; rw [hn, Bool.false_and] at h; cases h)]
           exact wpAny_pure hQ))
def Itl (K : PySem.W.Frag) (a : Addr) : It :=
  ⟨fun i H => ∃ xs x, SqL K H a xs ∧ xs[i]? = some x, fun i H x H' => H' = H ∧ ∀ xs, SqL K H a xs → xs[i]? = some x, fun i H => ∃ xs, SqL K H a xs ∧ xs.length ≤ i⟩
def Itr (lo : Int) (n : Nat) : It := ⟨fun i _ => i < n, fun i H x H' => H' = H ∧ x = .int (lo + i), fun i _ => n ≤ i⟩
theorem turn_list {P : Program} {w : World} {K : PySem.W.Frag} {tg : Expr} (a it : Addr) : Turn P w K tg (Itl K a) [it] it (fun i h => h.IsListIter it a i) where
  mem := by simp
  obj := fun i h st b hb => by
    have e : b = it := by simpa using hb
    subst e
    obtain ⟨o, e, c, d⟩ := st
    exact ⟨o, e, fun v z => by rw [d] at z; cases z⟩
  keep := fun i h h' st k => st.at fun o e => k it (by simp) o e
  item := by
    intro X hP hw hK hc i pins s σ H E I hf st hg
    subst hP hw hK
    obtain ⟨xs, x, hq, hx⟩ := hg
    obtain ⟨its, rv, p, hz⟩ := I.list hq
    obtain ⟨u, hu, ru⟩ := rv.get hx
    obtain ⟨f0, f1, f2, f3, f4, f5⟩ := hf it (by simp)
    refine wpAny_pyNext_list_item st p.isList (x := u) (by simpa using hu) fun h' st' sb => ?_
    have I1 : Inv X pins σ H { s with heap := h' } := I.turned (t' := s.toks) (fun b o hb e => (sb.2 b hb).trans e) f0 f1 f3 f4 f5
    obtain ⟨o, e, c, d⟩ := id st'
    exact ⟨u, rfl, go_of (s := { s with heap := h' }) e c d (by decide) ⟨x, H, I1, ru, ⟨rfl, fun ys hy => by rw [I.list_inj hy hq]; exact hx⟩, st', fun b hb => (hf b hb).1⟩⟩
  done := by
    intro X hP hw hK hc i pins s σ H E I hf st hg
    subst hP hw hK
    obtain ⟨xs, hq, hx⟩ := hg
    obtain ⟨its, rv, p, hz⟩ := I.list hq
    obtain ⟨f0, f1, f2, f3, f4, f5⟩ := hf it (by simp)
    have hl := rv.length
    exact wpAny_pyNext_list_end (I.ok.hd hc) st p.isList (by simp; omega) fun h' eb => ⟨rfl, I.turned (t' := s.toks) (fun b o hb e => eb b o hb e) f0 f1 f3 f4 f5⟩
  self := fun _ _ _ _ _ st h => wpAny_pyIter_listiter st h
theorem turn_range {P : Program} {w : World} {K : PySem.W.Frag} {tg : Expr} (it : Addr) (lo : Int) (n : Nat) : Turn P w K tg (Itr lo n) [it] it (fun i h => IsRangeIter h it (lo + (i : Nat) * 1) ((n : Int) - (i : Nat)) 1) where
  mem := by simp
  obj := fun i h st b hb => by
    have e : b = it := by simpa using hb
    subst e
    exact ⟨_, st, fun v z => by
      have z' : Data.fields _ = Data.cell v := z
      cases z'⟩
  keep := fun i h h' st k => k it (by simp) _ st
  item := by
    intro X hP hw hK hc i pins s σ H E I hf st hg
    subst hP hw hK
    obtain ⟨f0, f1, f2, f3, f4, f5⟩ := hf it (by simp)
    have W := Walks.range (prog := X.prog) (w := X.w) (I.ok.hd hc) it lo 1 n
    refine W.item i s _ _ hg st fun v h' tk hv st' kk => ?_
    obtain ⟨t, rfl⟩ := hv
    have I1 : Inv X pins σ H { s with heap := h', toks := tk } := I.turned (fun b o hb e => kk b o (by simpa using hb) e) f0 f1 f3 f4 f5
    refine ⟨_, rfl, go_of (s := { s with heap := h', toks := tk }) (n := "range_iterator") st' rfl rfl (by decide) ⟨.int (lo + i), H, I1, ⟨t, ?_⟩, ⟨rfl, rfl⟩, st', fun b hb => (hf b hb).1⟩⟩
    rw [Int.mul_one]
  done := by
    intro X hP hw hK hc i pins s σ H E I hf st hg
    subst hP hw hK
    obtain ⟨f0, f1, f2, f3, f4, f5⟩ := hf it (by simp)
    exact wpAny_pyNext_range_end (I.ok.hd hc) st (by have : n ≤ i := hg; omega) fun h' eb => ⟨rfl, I.turned (t' := s.toks) (fun b o hb e => eb b o hb e) f0 f1 f3 f4 f5⟩
  self := fun _ _ _ _ _ st h => wpAny_pyIter_rangeiter st h
end L2
namespace L2
open PySem PySem.Spec PyProof.Rows
section
variable {X : Cx} {tg : Expr}
def iList (K : PySem.W.Frag) (tl : TE) : TI := fun σ H R => tl σ H fun x H1 => ∃ a, x = .ref a ∧ (∃ xs, SqL K H1 a xs) ∧ R (Itl K a) H1
theorem pi_list {l : Expr} {tl : TE} (hl : PE X l tl) : PI X tg l (iList X.K tl) := by
  intro pins s σ H R I h
  refine thn (hl pins s σ H _ I h) fun v s1 ⟨x, H1, I1, r1, q1⟩ => ?_
  obtain ⟨a, e, ⟨xs, hq⟩, q⟩ := q1
  subst e
  cases r1
  obtain ⟨its, rv, p, hz⟩ := I1.list hq
  refine wpAny_pyIter_list p.isList ?_
  refine ⟨s1.heap.objs.size, [s1.heap.objs.size], _, _, H1, rfl, I1.kept (t' := s1.toks) fun b o e => Heap.get?_push_of_some _ e, turn_list a _, ⟨_, Heap.get?_push_size _ rfl, rfl, rfl⟩, fun b hb => ?_, q⟩
  have e : b = s1.heap.objs.size := by simpa using hb
  subst e
  exact I1.fpOk (Nat.le_refl _) (I1.hok.fresh (Nat.le_refl _))
theorem range_it {pins : List (Addr × Obj)} {σ : St} {H : Hp} {s : Shared} {R : It → Hp → Prop} {E : Value → Shared → Prop} {lo hi : Int} {t u v : Tok} {tk : Nat} (I : Inv X pins σ H s) (h1 : -(2 ^ 62) ≤ lo) (h2 : lo < 2 ^ 62) (h3 : -(2 ^ 62) ≤ hi) (h4 : hi < 2 ^ 62)
    (q : R (Itr lo (hi - lo).toNat) H) : wpAny (model X.prog X.w) X.A (pyIter (.ref s.heap.objs.size)) (PIE X pins σ tg R) E { s with heap := s.heap.push { cls := .type "range", data := .fields #[.int lo t, .int hi u, .int 1 v] }, toks := tk } := by
  refine wpAny_pyIter_range (IsRange.new ..) (small_one h1 h2 h3 h4) ?_
  have I1 : Inv X pins σ H { s with heap := s.heap.push { cls := .type "range", data := .fields #[.int lo t, .int hi u, .int 1 v] }, toks := tk } := I.kept fun b o e => Heap.get?_push_of_some _ e
  refine ⟨(s.heap.push { cls := .type "range", data := .fields #[.int lo t, .int hi u, .int 1 v] }).objs.size, [(s.heap.push { cls := .type "range", data := .fields #[.int lo t, .int hi u, .int 1 v] }).objs.size], _, _, H, rfl,
    I1.kept (t' := tk) fun b o e => Heap.get?_push_of_some _ e, turn_range _ lo (hi - lo).toNat, ?_, fun b hb => ?_, q⟩
  · have e1 : lo + ((0 : Nat) : Int) * 1 = lo := by simp
    have e2 : (((hi - lo).toNat : Nat) : Int) - ((0 : Nat) : Int) = Builtin.Range.rangeSize lo hi 1 := by rw [rangeSize_one]; split <;> omega
    show IsRangeIter _ _ (lo + ((0 : Nat) : Int) * 1) ((((hi - lo).toNat : Nat) : Int) - ((0 : Nat) : Int)) 1
    rw [e1, e2]
    exact Heap.get?_push_size _ rfl
  · have e : b = (s.heap.push { cls := .type "range", data := .fields #[.int lo t, .int hi u, .int 1 v] }).objs.size := by simpa using hb
    subst e
    exact I1.fpOk (Nat.le_refl _) (I1.hok.fresh (Nat.le_refl _))
def iRng1 (ta : TA) : TI := fun σ H R => ta σ H fun vs H1 => ∃ j : Int, vs = [.int j] ∧ -(2 ^ 62) ≤ j ∧ j < 2 ^ 62 ∧ R (Itr 0 j.toNat) H1
def iRng2 (ta : TA) : TI := fun σ H R => ta σ H fun vs H1 => ∃ i j : Int, vs = [.int i, .int j] ∧ (-(2 ^ 62) ≤ i ∧ i < 2 ^ 62 ∧ -(2 ^ 62) ≤ j ∧ j < 2 ^ 62) ∧ R (Itr i (j - i).toNat) H1
theorem pi_range1 {a : Expr} {ta : TA} {p pos : Pos} (hg : Gl X "range") (hm : X.mg "range" = none) (ha : PA X [a] ta) (hs : starEach [a] X.env = [(false, eval a X.env)] := by rfl) : PI X tg (.Call (.Name "range" p) [a] [] pos) (iRng1 ta) := by
  intro pins s σ H R I h
  refine Call_ (ld_blt I hg hm boot_range (PyProof.Rows.callWith_type1 (thn (ha pos pins s σ H _ I h) fun us s1 ⟨vs, H1, I1, r1, q1⟩ => ?_) hs rfl))
  obtain ⟨j, e, q1, q2, q⟩ := q1
  subst e
  cases r1 with
  | cons r rr =>
    cases rr
    obtain ⟨t, rfl⟩ := r
    exact call_range_1 (range_it I1 (by omega) (by omega) q1 q2 (by simpa using q))
theorem pi_range2 {a b : Expr} {ta : TA} {p pos : Pos} (hg : Gl X "range") (hm : X.mg "range" = none) (ha : PA X [a, b] ta) (hs : starEach [a, b] X.env = [(false, eval a X.env), (false, eval b X.env)] := by rfl) (hs2 : starEach [b] X.env = [(false, eval b X.env)] := by rfl) :
    PI X tg (.Call (.Name "range" p) [a, b] [] pos) (iRng2 ta) := by
  intro pins s σ H R I h
  refine Call_ (ld_blt I hg hm boot_range (PyProof.Rows.callWith_type1 (thn (ha pos pins s σ H _ I h) fun us s1 ⟨vs, H1, I1, r1, q1⟩ => ?_) (by rw [hs, hs2]) (by rw [hs2]; rfl)))
  obtain ⟨i, j, e, ⟨q1, q2, q3, q4⟩, q⟩ := q1
  subst e
  cases r1 with
  | cons r rr =>
    cases rr with
    | cons r' rr =>
      cases rr
      obtain ⟨t, rfl⟩ := r
      obtain ⟨t', rfl⟩ := r'
      exact call_range_2 (range_it I1 q1 q2 q3 q4 q)
def tFor (wi : TI) (g : TG) (tb : TS) : TS := fun D σ H => wi σ H fun J H1 => ∃ W : Nat → Nat → St → Hp → Prop, (∃ m, W 0 m σ H1) ∧ ∀ i m σ H, W i m σ H →
  (J.stop i H ∧ D.nx σ H) ∨ (J.go i H ∧ ∃ N : St → Hp → Prop, (∀ σ' H', N σ' H' → ∃ m', m' < m ∧ W (i + 1) m' σ' H') ∧ ∀ x H', J.yld i H x H' → g x σ H' fun σ2 H2 => tb { D with nx := N, ct := N, bk := D.nx } σ2 H2)
def pinsAt (fp : List Addr) (h : Heap) : List (Addr × Obj) := fp.filterMap fun b => (h.get? b).map fun o => (b, o)
theorem mem_pinsAt {fp : List Addr} {h : Heap} {b : Addr} {o : Obj} (hb : b ∈ fp) (e : h.get? b = some o) : (b, o) ∈ pinsAt fp h := List.mem_filterMap.mpr ⟨b, hb, by rw [e]; rfl⟩
theorem of_pinsAt {fp : List Addr} {h : Heap} {p : Addr × Obj} (hp : p ∈ pinsAt fp h) : p.1 ∈ fp ∧ h.get? p.1 = some p.2 := by
  obtain ⟨b, hb, e⟩ := List.mem_filterMap.mp hp
  cases q : h.get? b with
  | none => rw [q] at e; cases e
  | some o =>
    rw [q] at e
    have e' : (b, o) = p := Option.some.inj e
    subst e'
    exact ⟨hb, q⟩
theorem Inv.pinned {pins : List (Addr × Obj)} {σ : St} {H : Hp} {s : Shared} {fp : List Addr} (I : Inv X pins σ H s) (hf : ∀ b ∈ fp, FpOk X pins H b) (ho : ∀ b ∈ fp, ∃ o, s.heap.get? b = some o ∧ ∀ v, o.data ≠ .cell v) : Inv X (pins ++ pinsAt fp s.heap) σ H s :=
  I.pins_of fun p hp => (List.mem_append.mp hp).elim (fun z => I.pin p (List.mem_append_right _ z)) fun z => by
    obtain ⟨hb, e⟩ := of_pinsAt z
    obtain ⟨f0, f1, f2, _⟩ := hf p.1 hb
    obtain ⟨o, e', d⟩ := ho p.1 hb
    rw [e] at e'; cases e'
    exact ⟨e, f0, f1, f2, d⟩
theorem Inv.unpinned {pins pl : List (Addr × Obj)} {σ : St} {H : Hp} {s : Shared} (I : Inv X (pins ++ pl) σ H s) : Inv X pins σ H s := I.pins_of fun p hp => I.pin p (List.mem_append_right _ (List.mem_append_left _ hp))
theorem ps_for {iter : Expr} {body : List Stmt} {wi : TI} {g : TG} {tb : TS} {pos : Pos} (hp : PassesOwn (model X.prog X.w) X.A X.env X.xe) (hc : X.calm = true) (hi : PI X tg iter wi) (hg : PG X tg g) (hb : PSs X body tb)
    (hs : ∀ x, foldedSetIterable iter X.env x = pure x := by intro _; rfl) : PS X (.For tg iter body [] pos) (tFor wi g tb) := by
  intro pins s σ H D I h
  refine wpAny_For (thn (hi pins s σ H _ I h) fun v s1 h1 => thn h1 fun itv s2 h2 => ?_) hs
  obtain ⟨it, fp, tn, J, H2, e, I2, T, st2, f2, W, ⟨m0, w0⟩, turn⟩ := h2
  subst e
  have stat : ∀ {H' : Hp}, (∀ b ∈ fp, H' b = none) → ∀ b ∈ fp, FpOk X pins H' b := fun hn b hb => ⟨hn b hb, (f2 b hb).2⟩
  refine codeAny_forLoop_any (fun n s' => ∃ i σ' H', Inv X pins σ' H' s' ∧ tn i s'.heap ∧ (∀ b ∈ fp, H' b = none) ∧ W i n σ' H') ?_ m0 ⟨0, σ, H2, I2, st2, fun b hb => (f2 b hb).1, w0⟩
  rintro n s3 ⟨i, σ3, H3, I3, st3, fr3, w3⟩
  rcases turn i n σ3 H3 w3 with ⟨stop, qn⟩ | ⟨go, N, hN, step⟩
  · refine wpAny_passesOwn hp (thn (T.done X rfl rfl rfl hc i pins s3 σ3 H3 X.xe I3 (stat fr3) st3 stop) fun r s4 ⟨hr, I4⟩ => ?_)
    subst hr
    exact wpAny_execs_nil ⟨σ3, H3, I4, qn⟩
  · refine wpAny_passesOwn hp (thn (T.item X rfl rfl rfl hc i pins s3 σ3 H3 X.xe I3 (stat fr3) st3 go) fun r s4 ⟨u, hr, h4⟩ => ?_)
    subst hr
    refine wpAny_passesOwn hp (thn h4 fun _ s5 ⟨x, H5, I5, r5, y5, st5, fr5⟩ => ?_)
    have I5' := I5.pinned (stat fr5) (T.obj _ _ st5)
    refine wpAny_passesOwn hp (thn (hg _ s5 σ3 H5 x u _ I5' r5 (step x H5 y5)) fun _ s6 ⟨σ6, H6, I6, q6⟩ => ?_)
    refine wpAny_passesOwn hp (thn (hb _ s6 σ6 H6 _ I6 q6) fun f s7 q7 => ?_)
    have again : ∀ {σ7 : St} {H7 : Hp}, Inv X (pins ++ pinsAt fp s5.heap) σ7 H7 s7 → N σ7 H7 → ∃ m, m < n ∧ ∃ i σ' H', Inv X pins σ' H' s7 ∧ tn i s7.heap ∧ (∀ b ∈ fp, H' b = none) ∧ W i m σ' H' := fun {σ7 H7} I7 n7 => by
      obtain ⟨m', hm, w7⟩ := hN σ7 H7 n7
      refine ⟨m', hm, i + 1, σ7, H7, I7.unpinned, T.keep _ _ _ st5 fun b hb o e => (I7.pin (b, o) (List.mem_append_right _ (List.mem_append_right _ (mem_pinsAt hb e)))).1, fun b hb => ?_, w7⟩
      obtain ⟨o, e, d⟩ := T.obj _ _ st5 b hb
      exact (I7.pin (b, o) (List.mem_append_right _ (List.mem_append_right _ (mem_pinsAt hb e)))).2.1
    cases f with
    | next => obtain ⟨σ7, H7, I7, n7⟩ := q7; exact again I7 n7
    | cont => obtain ⟨σ7, H7, I7, n7⟩ := q7; exact again I7 n7
    | brk => obtain ⟨σ7, H7, I7, q7⟩ := q7; exact ⟨σ7, H7, I7.unpinned, q7⟩
    | ret v => obtain ⟨x7, σ7, H7, I7, r7, q7⟩ := q7; exact ⟨x7, σ7, H7, I7.unpinned, r7, q7⟩
end
end L2
namespace L2
open PySem PySem.Spec PyProof.Rows
abbrev R2 := V → V → Hp → VK → Prop
def OpR (X : Cx) (f : Value → Value → Sem Value) (r : R2) : Prop :=
  ∀ (pins : List (Addr × Obj)) (s : Shared) (σ : St) (H : Hp) (x y : V) (v u : Value) (Q : VK), Inv X pins σ H s → RelV x v → RelV y u → r x y H Q →
    wpAny (model X.prog X.w) X.A (f v u) (EP X pins σ Q) X.xe s
def CallR (X : Cx) (f : Value) (r : List V → Hp → VK → Prop) : Prop :=
  ∀ (pins : List (Addr × Obj)) (s : Shared) (σ : St) (H : Hp) (xs : List V) (us : List Value) (Q : VK), Inv X pins σ H s → Vals xs us → r xs H Q →
    wpAny (model X.prog X.w) X.A (call f us) (EP X pins σ Q) X.xe s
def tOp (r : R2) (ta tb : TE) : TE := fun σ H Q => ta σ H fun x H1 => tb σ H1 fun y H2 => r x y H2 Q
def rI (C : Int → Int → Prop) (g : Int → Int → V) : R2 := fun x y H Q => ∃ i j, x = .int i ∧ y = .int j ∧ C i j ∧ Q (g i j) H
def rI0 (g : Int → Int → V) : R2 := fun x y H Q => ∃ i j, x = .int i ∧ y = .int j ∧ Q (g i j) H
section
variable {X : Cx} {a b c : Expr} {ta tb tc : TE} {pos : Pos}
theorem binT (ha : PE X a ta) (hb : PE X b tb) {pins : List (Addr × Obj)} {s : Shared} {σ : St} {H : Hp} {R : V → V → Hp → Prop} (I : Inv X pins σ H s)
    (h : ta σ H fun x H1 => tb σ H1 fun y H2 => R x y H2) {Q : Value → Shared → Prop} {f : Value → Value → Sem Value}
    (hf : ∀ v u s2 x y H2, Inv X pins σ H2 s2 → RelV x v → RelV y u → R x y H2 → wpAny (model X.prog X.w) X.A (f v u) Q X.xe s2) :
    wpAny (model X.prog X.w) X.A (eval a X.env) (fun v s₁ => wpAny (model X.prog X.w) X.A (eval b X.env) (fun u s₂ => wpAny (model X.prog X.w) X.A (f v u) Q X.xe s₂) X.xe s₁) X.xe s := by
  refine thn (ha pins s σ H _ I h) fun v s1 ⟨x, H1, I1, r1, q1⟩ => ?_
  refine thn (hb pins s1 σ H1 _ I1 q1) fun u s2 ⟨y, H2, I2, r2, q2⟩ => ?_
  exact hf v u s2 x y H2 I2 r1 r2 q2
theorem pe_op {op : Operator} {r : R2} (ho : OpR X (binaryOp op) r) (ha : PE X a ta) (hb : PE X b tb) : PE X (.BinOp a op b pos) (tOp r ta tb) := by
  intro pins s σ H Q I h
  exact wpAny_BinOp (binT ha hb I h fun v u s2 x y H2 I2 rx ry q => ho pins s2 σ H2 x y v u Q I2 rx ry q)
theorem opI {f : Value → Value → Sem Value} {C : Int → Int → Prop} {g : Int → Int → Int}
    (rule : ∀ (i j : Int) (t u : Tok) (s : Shared) (Q : Value → Shared → Prop) (E : Value → Shared → Prop), C i j → Q (.int (g i j) s.toks) { s with toks := s.toks + 1 } → wpAny (model X.prog X.w) X.A (f (.int i t) (.int j u)) Q E s) :
    OpR X f (rI C fun i j => .int (g i j)) := by
  intro pins s σ H x y v u Q I rx ry h
  obtain ⟨i, j, rfl, rfl, hc, q⟩ := h
  obtain ⟨t, rfl⟩ := rx
  obtain ⟨t', rfl⟩ := ry
  exact rule i j t t' s _ _ hc ⟨.int (g i j), H, I.tok _, ⟨_, rfl⟩, q⟩
theorem opI0 {f : Value → Value → Sem Value} {g : Int → Int → Int}
    (rule : ∀ (i j : Int) (t u : Tok) (s : Shared) (Q : Value → Shared → Prop) (E : Value → Shared → Prop), Q (.int (g i j) s.toks) { s with toks := s.toks + 1 } → wpAny (model X.prog X.w) X.A (f (.int i t) (.int j u)) Q E s) :
    OpR X f (rI0 fun i j => .int (g i j)) := by
  intro pins s σ H x y v u Q I rx ry h
  obtain ⟨i, j, rfl, rfl, q⟩ := h
  obtain ⟨t, rfl⟩ := rx
  obtain ⟨t', rfl⟩ := ry
  exact rule i j t t' s _ _ ⟨.int (g i j), H, I.tok _, ⟨_, rfl⟩, q⟩
theorem opB0 {f : Value → Value → Sem Value} {g : Int → Int → Bool}
    (rule : ∀ (i j : Int) (t u : Tok) (s : Shared) (Q : Value → Shared → Prop) (E : Value → Shared → Prop), Q (.bool (g i j)) s → wpAny (model X.prog X.w) X.A (f (.int i t) (.int j u)) Q E s) :
    OpR X f (rI0 fun i j => .bl (g i j)) := by
  intro pins s σ H x y v u Q I rx ry h
  obtain ⟨i, j, rfl, rfl, q⟩ := h
  obtain ⟨t, rfl⟩ := rx
  obtain ⟨t', rfl⟩ := ry
  exact rule i j t t' s _ _ ⟨.bl (g i j), H, I, rfl, q⟩
def CDiv (i j : Int) : Prop := 0 < j ∧ j < 1073741824
def CMul (i j : Int) : Prop := (-(2 ^ 64) < i ∧ i < 2 ^ 64) ∨ (-(2 ^ 64) < j ∧ j < 2 ^ 64)
theorem CMul.ok {i j : Int} (h : CMul i j) : IntMulOk i j := by
  rcases h with ⟨h1, h2⟩ | ⟨h1, h2⟩
  · exact .of_left (intBits_le_64 h1 h2)
  · exact .of_right (intBits_le_64 h1 h2)
theorem op_add : OpR X (binaryOp .Add) (rI0 fun i j => .int (i + j)) := opI0 fun _ _ _ _ _ _ _ q => add_int q
theorem op_sub : OpR X (binaryOp .Sub) (rI0 fun i j => .int (i - j)) := opI0 fun _ _ _ _ _ _ _ q => sub_int q
theorem op_mul : OpR X (binaryOp .Mult) (rI CMul fun i j => .int (i * j)) := opI fun _ _ _ _ _ _ _ hc q => mul_int q hc.ok
theorem op_fdiv : OpR X (binaryOp .FloorDiv) (rI CDiv fun i j => .int (i / j)) := opI fun i j _ _ _ _ _ hc q => by
  have h1 : (0 : Int) < j := hc.1
  have h2 : j < 1073741824 := hc.2
  exact floordiv_int (by omega) (by rw [Int.fdiv_eq_ediv_of_nonneg i (by omega)]; exact q) (.inl (PyProof.noPylong_small (by omega)))
theorem op_mod : OpR X (binaryOp .Mod) (rI (fun _ j => 0 < j) fun i j => .int (i % j)) := opI fun i j _ _ _ _ _ hc q => by
  have h1 : (0 : Int) < j := hc
  exact mod_int' (by omega) (by rw [Int.fmod_eq_emod_of_nonneg i (by omega)]; exact q)
end
section
variable {X : Cx} {a b c : Expr} {ta tb tc : TE} {pos : Pos}
theorem op_lt : OpR X (compareOp .Lt) (rI0 fun i j => .bl (decide (i < j))) := opB0 fun _ _ _ _ _ _ _ q => lt_int q
theorem op_gt : OpR X (compareOp .Gt) (rI0 fun i j => .bl (decide (j < i))) := opB0 fun _ _ _ _ _ _ _ q => gt_int q
theorem OpR.or {f : Value → Value → Sem Value} {r r' : R2} (h : OpR X f r) (h' : OpR X f r') : OpR X f (fun x y H Q => r x y H Q ∨ r' x y H Q) := by
  intro pins s σ H x y v u Q I rx ry q
  rcases q with q | q
  · exact h pins s σ H x y v u Q I rx ry q
  · exact h' pins s σ H x y v u Q I rx ry q
theorem nomark (b : Expr) {op : CmpOp} (h : op ≠ .In := by decide) (h2 : op ≠ .NotIn := by decide) : behindInMarks op b = false := by
  have e1 : (op == CmpOp.In) = false := by cases op <;> first | rfl | exact absurd rfl h
  have e2 : (op == CmpOp.NotIn) = false := by cases op <;> first | rfl | exact absurd rfl h2
  cases b <;> simp [behindInMarks, e1, e2]
theorem pe_cmpR {op : CmpOp} {r : R2} (ho : OpR X (compareOp op) r) (ha : PE X a ta) (hb : PE X b tb) (hm : behindInMarks op b = false) : PE X (.Compare a [op] [b] pos) (tOp r ta tb) := by
  intro pins s σ H Q I h
  exact wpAny_Compare1 (binT ha hb I h fun v u s2 x y H2 I2 rx ry q => ho pins s2 σ H2 x y v u Q I2 rx ry q) hm
def tTest (t : TE) : TT := fun σ H Q => t σ H fun x H' => ∃ k, x = .bl k ∧ Q k H'
theorem pt_cmpR {op : CmpOp} {r : R2} (ho : OpR X (compareOp op) r) (ha : PE X a ta) (hb : PE X b tb) (hm : behindInMarks op b = false) : PT X (.Compare a [op] [b] pos) (tTest (tOp r ta tb)) := by
  intro pins s σ H Q I h
  refine wpAny_isTrue_Compare1 (thn (ha pins s σ H _ I h) fun v s1 ⟨x, H1, I1, r1, q1⟩ => thn (hb pins s1 σ H1 _ I1 q1) fun u s2 ⟨y, H2, I2, r2, q2⟩ =>
    thn (ho pins s2 σ H2 x y v u _ I2 r1 r2 q2) fun c s3 ⟨z, H3, I3, r3, k, e, q3⟩ => ?_) hm
  subst e
  cases r3
  exact wpAny_truthy_bool ⟨H3, I3, q3⟩
theorem line63 : (sizeLine : Nat) < 2 ^ 63 := by rw [sizeLine_eq]; decide
theorem op_add_str : OpR X (binaryOp .Add) (fun x y H Q => ∃ i j, x = .str i ∧ y = .str j ∧ i.length + j.length ≤ sizeLine ∧ Q (.str (i ++ j)) H) := by
  intro pins s σ H x y v u Q I rx ry h
  obtain ⟨i, j, rfl, rfl, hz, q⟩ := h
  obtain ⟨t, rfl⟩ := rx
  obtain ⟨t', rfl⟩ := ry
  exact add_str (fun t' tk => ⟨.str (i ++ j), H, I.tok _, ⟨_, rfl⟩, q⟩) hz
theorem vals1 {x : V} {us : List Value} (r : Vals [x] us) : ∃ u, us = [u] ∧ RelV x u := by
  cases r with
  | cons r1 r2 => cases r2; exact ⟨_, rfl, r1⟩
theorem vals2 {x y : V} {us : List Value} (r : Vals [x, y] us) : ∃ u w', us = [u, w'] ∧ RelV x u ∧ RelV y w' := by
  cases r with
  | cons r1 r2 =>
    cases r2 with
    | cons r3 r4 => cases r4; exact ⟨_, _, rfl, r1, r3⟩
theorem call_int1 : CallR X (.type "int") (fun xs H Q => (∃ i, xs = [.int i] ∧ Q (.int i) H) ∨ ∃ k, xs = [.bl k] ∧ Q (.int (if k then 1 else 0)) H) := by
  intro pins s σ H xs us Q I r h
  rcases h with ⟨i, rfl, q⟩ | ⟨k, rfl, q⟩
  · obtain ⟨u, rfl, t, rfl⟩ := vals1 r
    exact call_int_int ⟨.int i, H, I, ⟨_, rfl⟩, q⟩
  · obtain ⟨u, rfl, r1⟩ := vals1 r
    cases r1
    exact call_int_bool ⟨.int (if k then 1 else 0), H, I.tok _, ⟨_, rfl⟩, q⟩
def LenV (K : PySem.W.Frag) (x : V) (H : Hp) (n : Nat) : Prop :=
  match x with
  | .str y => y.length ≤ sizeLine ∧ n = y.length
  | .byt y => y.size ≤ sizeLine ∧ n = y.size
  | .ref p => (∃ xs, SqL K H p xs ∧ n = xs.length) ∨ ∃ xs, SqT K H p xs ∧ n = xs.length
  | _ => False
theorem call_len : CallR X (.builtin "len") (fun xs H Q => ∃ x n, xs = [x] ∧ LenV X.K x H n ∧ Q (.int n) H) := by
  intro pins s σ H xs us Q I r h
  obtain ⟨x, n, rfl, e, q⟩ := h
  obtain ⟨u, rfl, rx⟩ := vals1 r
  have hl := line63
  have hs : sizeLine = 16777216 := sizeLine_eq
  cases x with
  | str y =>
    obtain ⟨t, rfl⟩ := rx
    obtain ⟨hy, e'⟩ : y.length ≤ sizeLine ∧ n = y.length := e
    subst e'
    exact len_str (by omega) ⟨.int _, H, I.tok _, ⟨_, rfl⟩, q⟩
  | byt y =>
    obtain ⟨t, rfl⟩ := rx
    obtain ⟨hy, e'⟩ : y.size ≤ sizeLine ∧ n = y.size := e
    subst e'
    exact PySem.W.len_bytes (by omega) ⟨.int _, H, I.tok _, ⟨_, rfl⟩, q⟩
  | ref p =>
    cases rx
    have e' : (∃ xs, SqL X.K H p xs ∧ n = xs.length) ∨ ∃ xs, SqT X.K H p xs ∧ n = xs.length := e
    rcases e' with ⟨xs, hx, e'⟩ | ⟨xs, hx, e'⟩
    · subst e'
      obtain ⟨its, r', pl, hz⟩ := I.list hx
      have hlen := r'.length
      exact Calls.call_len_list pl.isList (by simp only [List.size_toArray]; omega) ⟨.int xs.length, H, I.tok _, ⟨_, by simp only [List.size_toArray]; rw [hlen]⟩, q⟩
    · subst e'
      obtain ⟨its, r', pl, hz⟩ := I.tuple hx
      have hlen := r'.length
      exact len_tuple pl (by simp only [List.size_toArray]; omega) ⟨.int xs.length, H, I.tok _, ⟨_, by simp only [List.size_toArray]; rw [hlen]⟩, q⟩
  | _ => exact (show False from e).elim
end
end L2
namespace L2
open PySem PySem.Spec PyProof.Rows
structure ObjM (h : Heap) (x dx C : Addr) (mA : Str → Option Value) : Prop where
  obj : h.get? x = some (PySem.W.instObj C dx)
  ns : h.Ns1 dx mA
  ne : dx ≠ x
section
variable {prog : Program} {w : World} {A : Around} {E : Value → Shared → Prop} {s : Shared} {K : PySem.W.Frag} {x dx C f : Addr} {mA : Str → Option Value} {name : Str} {v : Value}
end
theorem RelO.none_of {o : Option Value} (r : RelO none o) : o = none := by
  cases o with
  | none => rfl
  | some u => exact (show False from r).elim
section
variable {P : Program} {w : World} {H H' : Hp} {h h' : Heap} {a C dx : Addr} {fs fs' : List (Str × V)}
end
structure Cls (K : PySem.W.Frag) (C : Addr) : Prop where
  pg : PySem.W.plainGet K C Str.empty = true
  hd : PySem.W.hasDictIn K C = true
  po : PySem.W.plainOver K C = true
  sa : PySem.W.findIn K (.ref C) "__setattr__" = some (some (.builtin "object.__setattr__"))
theorem Cls.get {K : PySem.W.Frag} {C : Addr} (c : Cls K C) (f : Str) : PySem.W.plainGet K C f = true := c.pg
structure Con (K : PySem.W.Frag) (C : Addr) (f : Str) (v : V) (u : Value) : Prop where
  at_ : PySem.W.findIn K (.ref C) f = some (some u)
  rel : RelV v u
  get : PySem.W.specialIn K u "__get__" = some none
  cp : PySem.W.copiedNames.contains f = false
structure Meth (K : PySem.W.Frag) (C : Addr) (m : Str) (f : Addr) : Prop where
  at_ : PySem.W.findIn K (.ref C) m = some (some (.ref f))
  fn : PySem.W.isFn K (.ref f) = true
  kp : PySem.W.keepIn K (.ref f) = true
section
variable {X : Cx} {pins : List (Addr × Obj)} {σ : St} {H : Hp} {s : Shared} {a C dx : Addr} {fs : List (Str × V)} {f : Str} {v : V} {A : Around} {E : Value → Shared → Prop}
end
section
variable {X : Cx} {o e value : Expr} {f : Str} {pos pos' tpos : Pos} {ta tv : TE}
end
section
variable {X : Cx} {pins : List (Addr × Obj)} {σ : St} {H : Hp} {s : Shared} {A : Around} {E : Value → Shared → Prop} {Q : Value → Shared → Prop} {c : Value} {b : Bool}
inductive TyOf (K : PySem.W.Frag) (H : Hp) : V → Value → Prop where
  | non : TyOf K H .non (.type "NoneType")
  | bl (x : Bool) : TyOf K H (.bl x) (.type "bool")
  | int (i : Int) : TyOf K H (.int i) (.type "int")
  | str (x : Str) : TyOf K H (.str x) (.type "str")
  | flt (x : UInt64) : TyOf K H (.flt x) (.type "float")
  | lst {a : Addr} {xs : List V} (e : H a = some (.lst xs)) : TyOf K H (.ref a) (.type "list")
  | frz {a : Addr} {o : Obj} {xs : List V} (e : H a = some (.frz o (.lst xs))) : TyOf K H (.ref a) (.type "list")
  | tup {a : Addr} {xs : List V} (e : H a = some (.tup xs)) : TyOf K H (.ref a) (.type "tuple")
  | dK {a : Addr} {kvs : List (Key × V)} (e : H a = some (.dK kvs)) : TyOf K H (.ref a) (.type "dict")
  | dT {a : Addr} {kvs : List (List Key × V)} (e : H a = some (.dT kvs)) : TyOf K H (.ref a) (.type "dict")
  | ins {a C dx : Addr} {fs : List (Str × V)} (e : H a = some (.ins C dx fs)) (cl : Cls K C) (ha : PySem.W.findIn K (.ref C) "__class__" = some (some (.builtin "object.__class__")))
      (hn : PySem.W.specialIn K (.builtin "object.__class__") "__get__" = some (some (.builtin "getset_descriptor.__get__"))) (htk : PySem.W.takesIn K (.builtin "object.__class__") = some true)
      (hm : PySem.W.mroIn K C (.type "object") = some true) : TyOf K H (.ref a) (.ref C)
end
end L2
namespace L2
open PySem PySem.Spec PyProof.Rows
structure Room (k : Nat) (A : Around) : Prop where
  hd : A.handled = none
  dp : A.depth + 3 * k + 5 < recursionLimit
  un : A.units + 16 * k + 200 < cLine
theorem Room.mono {j k : Nat} {A : Around} (r : Room k A) (h : j ≤ k) : Room j A := ⟨r.hd, by have := r.dp; omega, by have := r.un; omega⟩
theorem Room.deeper {k : Nat} {A : Around} (r : Room (k + 1) A) (env : Env) : Room k (A.deeper env) :=
  ⟨r.hd, by have := r.dp; show A.depth + 1 + 3 * k + 5 < _; omega, by have := r.un; show A.units + 3 + 16 * k + 200 < _; omega⟩
theorem Room.in1 {k : Nat} {A : Around} (r : Room (k + 1) A) : Room k A.in1 :=
  ⟨r.hd, by have := r.dp; show A.depth + 3 * k + 5 < _; omega, by have := r.un; show A.units + 1 + 16 * k + 200 < _; omega⟩
theorem Room.depth {k : Nat} {A : Around} (r : Room k A) : A.depth < recursionLimit := by have := r.dp; omega
theorem Room.units {k : Nat} {A : Around} (r : Room k A) : A.units + 64 < cLine := by have := r.un; omega
def tNil : TA := fun _ H Q => Q [] H
def tCons (ta : TE) (tr : TA) : TA := fun σ H Q => ta σ H fun x H1 => tr σ H1 fun xs H2 => Q (x :: xs) H2
section
variable {X : Cx} {e : Expr} {es : List Expr} {te : TE} {t : TA} {pos : Pos}
theorem pa_nil : PA X [] tNil := fun _ _ _ _ H Q I h => Calls.spliced_nil ⟨[], H, I, .nil, h⟩
theorem pa_cons (ha : PE X e te) (hr : PA X es t) (hs : starEach (e :: es) X.env = (false, eval e X.env) :: starEach es X.env := by rfl) : PA X (e :: es) (tCons te t) := by
  intro pos pins s σ H Q I h
  rw [hs]
  show wpAny _ _ (spliced ((false, eval e X.env) :: backTo pos (starEach es X.env))) _ _ s
  refine Calls.spliced_cons (thn (ha pins s σ H _ I h) fun u s1 ⟨x, H1, I1, r1, q1⟩ => ?_)
  exact thn (hr pos pins s1 σ H1 _ I1 q1) fun us s2 ⟨xs, H2, I2, r2, q2⟩ => ⟨x :: xs, H2, I2, .cons r1 r2, q2⟩
def tTup (t : TA) : TE := fun σ H Q => t σ H fun xs H1 => xs.length ≤ sizeLine ∧ ∀ p, H1 p = none → Q (.ref p) (upd H1 p (.tup xs))
def tLst (t : TA) : TE := fun σ H Q => t σ H fun xs H1 => xs.length ≤ sizeLine ∧ ∀ p, H1 p = none → Q (.ref p) (upd H1 p (.lst xs))
theorem pe_tup {x1} (h : PA X es t) : PE X (.Tuple es x1 pos) (tTup t) := by
  intro pins s σ H Q I hq
  refine wpAny_Tuple_spliced (thn (h pos pins s σ H _ I hq) fun us s1 ⟨xs, H1, I1, r, z, q⟩ => ⟨by rw [← r.length]; exact z, ?_⟩)
  have hf : H1 s1.heap.objs.size = none := I1.hok.fresh (Nat.le_refl _)
  refine ⟨.ref s1.heap.objs.size, upd H1 s1.heap.objs.size (.tup xs), I1.laid (t' := s1.toks) (fun b u e => Heap.get?_push_of_some _ e) (Nat.le_refl _) ?_, rfl, q _ hf⟩
  exact ⟨z, us, r, ⟨_, Heap.get?_push_size _ rfl, rfl, _, rfl⟩⟩
theorem pe_lst (h : PA X es t) : PE X (.List es pos) (tLst t) := by
  intro pins s σ H Q I hq
  refine wpAny_List_spliced (thn (h pos pins s σ H _ I hq) fun us s1 ⟨xs, H1, I1, r, z, q⟩ => ⟨by rw [← r.length]; exact z, ?_⟩)
  have hf : H1 s1.heap.objs.size = none := I1.hok.fresh (Nat.le_refl _)
  refine ⟨.ref s1.heap.objs.size, upd H1 s1.heap.objs.size (.lst xs), I1.laid (t' := s1.toks) (fun b u e => Heap.get?_push_of_some _ e) (Nat.le_refl _) ?_, rfl, q _ hf⟩
  exact ⟨z, us, 0, r, Heap.get?_push_size _ rfl⟩
end
abbrev Sp := List V → Hp → VK → XK → Prop
abbrev CXT := List Env → Hp → Shared → XK → Value → Shared → Prop
structure Env0 (P : Program) (w : World) (K : PySem.W.Frag) (mg : Str → Option Value) (base : Heap) (A : Around) (outer : List Env) (s : Shared) (H : Hp) : Prop where
  frames : A.frames = some outer
  mod : Mod K mg base
  bs : ∀ b o, base.get? b = some o → s.heap.get? b = some o ∧ H b = none
  bsz : base.objs.size ≤ s.heap.objs.size
  funs : s.heap.FunFrames base outer
  frf : ∀ b ∈ frs outer, H b = none
  hok : HOk P w H s.heap
  bare : AllBare s.gens
def CE (outer : List Env) (P : Program) (w : World) (H : Hp) (s : Shared) (Q : VK) (u : Value) (s' : Shared) : Prop :=
  ∃ v H', s'.os = s.os ∧ AllBare s'.gens ∧ Un (frs outer) [] H H' s.heap s'.heap ∧ HOk P w H' s'.heap ∧ RelV v u ∧ Q v H'
def CR (CX : CXT) (outer : List Env) (P : Program) (w : World) (H : Hp) (s : Shared) (Q : VK) (E : XK) (r : Result) (s' : Shared) : Prop :=
  match r with
  | .ok (.ret u) => CE outer P w H s Q u s'
  | .ok _ => False
  | .error e => CX outer H s E e s'
structure FnOk (P : Program) (w : World) (K : PySem.W.Frag) (mg : Str → Option Value) (base : Heap) (CX : CXT) (k : Nat) (f : Addr) (fd : FuncData) (ps : List Str) (sp : Sp) : Prop where
  len : ∀ vs H Q E, sp vs H Q E → vs.length = ps.length
  run : ∀ (A : Around) (outer : List Env) (s : Shared) (H : Hp) (args : Args) (us : List Value) (vs : List V) (Q : VK) (E : XK), Room k A → Env0 P w K mg base A outer s H → BindsTo s fd args (ps.zip us) → Vals vs us → sp vs H Q E →
    codeAny (model P w) A (.call (.ref f) args) (CR CX outer P w H s Q E) s
theorem FnOk.mono {P : Program} {w : World} {K : PySem.W.Frag} {mg : Str → Option Value} {base : Heap} {CX : CXT} {j k : Nat} {f : Addr} {fd : FuncData} {ps : List Str} {sp : Sp} (F : FnOk P w K mg base CX j f fd ps sp) (h : j ≤ k) :
    FnOk P w K mg base CX k f fd ps sp := ⟨F.len, fun A outer s H args us vs Q E hr => F.run A outer s H args us vs Q E (hr.mono h)⟩
theorem FnOk.imp {P : Program} {w : World} {K : PySem.W.Frag} {mg : Str → Option Value} {base : Heap} {CX : CXT} {k : Nat} {f : Addr} {fd : FuncData} {ps : List Str} {sp sp' : Sp} (F : FnOk P w K mg base CX k f fd ps sp)
    (h : ∀ vs H Q E, sp' vs H Q E → sp vs H Q E) : FnOk P w K mg base CX k f fd ps sp' :=
  ⟨fun vs H Q E q => F.len vs H Q E (h _ _ _ _ q), fun A outer s H args us vs Q E hr he hb hv hs => F.run A outer s H args us vs Q E hr he hb hv (h _ _ _ _ hs)⟩
theorem Env0.in1 {P : Program} {w : World} {K : PySem.W.Frag} {mg : Str → Option Value} {base : Heap} {A : Around} {outer : List Env} {s : Shared} {H : Hp} (e : Env0 P w K mg base A outer s H) :
    Env0 P w K mg base A.in1 outer s H := ⟨e.frames, e.mod, e.bs, e.bsz, e.funs, e.frf, e.hok, e.bare⟩
section
variable {X : Cx} {pins : List (Addr × Obj)} {σ : St} {H : Hp} {s s' : Shared}
theorem Inv.env0 (I : Inv X pins σ H s) : Env0 X.prog X.w X.K X.mg X.base X.A X.stack s H :=
  ⟨I.ok.frames, I.ok.mod, I.bs, Nat.le_trans I.ok.bsz I.sz, I.stack, I.stkFree, I.hok, I.bare⟩
theorem Inv.after {Q : VK} {u : Value} (I : Inv X pins σ H s) (h : CE X.stack X.prog X.w H s Q u s') : EP X pins σ Q u s' := by
  obtain ⟨v, H', os, bare, un, hok, r, q⟩ := h
  obtain ⟨hh, g, d, t, os'⟩ := s'
  obtain rfl : os' = s.os := os
  exact ⟨v, H', I.call (h' := hh) (g' := g) (d' := d) (t' := t) (ch := []) un hok bare (fun b z => absurd z (by simp)), r, q⟩
end
def tCall (sp : Sp) (dvs : List V) (E : XK) (t : TA) : TE := fun σ H Q => t σ H fun vs H1 => sp (vs ++ dvs) H1 Q E
def Binds (K : PySem.W.Frag) (fd : FuncData) (ps : List Str) (ds : List Value) : Prop :=
  ∀ (s : Shared) (us : List Value), K.In s.heap → (us ++ ds).length = ps.length → BindsTo s fd ⟨us, []⟩ (ps.zip (us ++ ds))
theorem Binds.all {K : PySem.W.Frag} {fd : FuncData} {ps : List Str} (h : ∀ us : List Value, us.length = ps.length → bindArgs fd ⟨us, []⟩ = pure (ps.zip us)) : Binds K fd ps [] := fun s us _ hl => by
  rw [List.append_nil] at hl ⊢
  exact .of_eq (h us hl)
def Passes (CX : CXT) (X : Cx) (E : XK) : Prop := ∀ (pins : List (Addr × Obj)) (σ : St) (H : Hp) (s : Shared) (e : Value) (s' : Shared), Inv X pins σ H s → CX X.stack H s E e s' → X.xe e s'
section
variable {X : Cx} {CX : CXT} {k : Nat} {f C : Addr} {fd : FuncData} {ps : List Str} {sp : Sp} {dvs : List V} {ds : List Value} {E : XK} {x m : Str} {p pos apos : Pos} {e o : Expr} {es : List Expr} {ta : TE} {t : TA}
theorem run_fn {pins : List (Addr × Obj)} {σ : St} {H : Hp} {s : Shared} {Q : VK} {us : List Value} {vs : List V} (F : FnOk X.prog X.w X.K X.mg X.base CX k f fd ps sp) (hr : Room k X.A) (hb : Binds X.K fd ps ds) (hd : Vals dvs ds) (hx : Passes CX X E)
    (I : Inv X pins σ H s) (r : Vals vs us) (h : sp (vs ++ dvs) H Q E) : wpAny (model X.prog X.w) X.A (call (.ref f) us) (EP X pins σ Q) X.xe s := by
  have r2 : Vals (vs ++ dvs) (us ++ ds) := r.append hd
  have hl : (us ++ ds).length = ps.length := by rw [← r2.length]; exact F.len _ _ _ _ h
  refine wpAny_call (codeAny_mono (F.run X.A X.stack s H ⟨us, []⟩ (us ++ ds) (vs ++ dvs) Q E hr I.env0 (hb s us I.kIn hl) r2 h) fun r s' hq => ?_)
  cases r with
  | error e => exact hx pins σ H s e s' I hq
  | ok fl =>
    cases fl with
    | ret u => exact I.after hq
    | next => exact False.elim hq
    | brk => exact False.elim hq
    | cont => exact False.elim hq
theorem pe_call (F : FnOk X.prog X.w X.K X.mg X.base CX k f fd ps sp) (hr : Room k X.A) (hg : Gl X x) (hm : X.mg x = some (.ref f)) (hk : PySem.W.keepIn X.K (.ref f) = true) (hb : Binds X.K fd ps ds) (hd : Vals dvs ds) (hx : Passes CX X E)
    (ha : PA X (e :: es) t) (hdb : (x == ("__debug__" : Str)) = false := by decide) (he : starEach (e :: es) X.env = (false, eval e X.env) :: starEach es X.env := by rfl) (hpl : (backTo pos (starEach es X.env)).any (·.1) = false := by rfl) :
    PE X (.Call (.Name x p) (e :: es) [] pos) (tCall sp dvs E t) := by
  intro pins s σ H Q I h
  refine wpAny_Call_Name_kw (ld_glob I hg hm ?_ hdb)
  refine PySem.W.callWith_K (h₀ := X.base) I.ok.mod.kin hk (thn (ha pos pins s σ H _ I h) fun us s1 ⟨vs, H1, I1, r, q⟩ => ⟨I1.kIn, ?_⟩) he hpl
  exact run_fn F hr hb hd hx I1 r q
structure Mk (K : PySem.W.Frag) (C f : Addr) : Prop where
  makes : PySem.W.makesIn K C = true
  init : PySem.W.findIn K (.ref C) "__init__" = some (some (.ref f))
  fn : PySem.W.isFn K (.ref f) = true
  kp : PySem.W.keepIn K (.ref C) = true
end
section
variable {X : Cx} {CX : CXT} {k : Nat} {f C : Addr} {fd : FuncData} {ps ks : List Str} {sp : Sp} {E : XK} {x m : Str} {p pos apos kpos : Pos} {e o : Expr} {es : List Expr} {kws : List Keyword} {te ta : TE} {t tk : TA} {nm : Option Str}
structure KBinds (K : PySem.W.Frag) (fd : FuncData) (ps ks : List Str) (g : List Value → List Value → List Value) (gV : List V → List V → List V) : Prop where
  to : ∀ (s : Shared) (us ws : List Value), K.In s.heap → (g us ws).length = ps.length → BindsTo s fd ⟨us, ks.zip ws⟩ (ps.zip (g us ws))
  rel : ∀ {vs : List V} {us : List Value} {zs : List V} {ws : List Value}, Vals vs us → Vals zs ws → Vals (gV vs zs) (g us ws)
variable {g : List Value → List Value → List Value} {gV : List V → List V → List V}
end
structure FnScope (N P : List Str) (sc : Scope) : Prop where
  kind : sc.kind = .function
  co : sc.isCoroutine = false
  gen : sc.isGenerator = false
  nd : N.Nodup
  pre : N.take P.length = P
  par : ∀ x ∈ P, sc.names.lookup x = some .local ∨ sc.names.lookup x = some .cell
  nofree : ∀ y ∈ sc.names, y.2 ≠ .free
theorem bindL_out {kindOf : Str → Option NameKind} {x : Str} : ∀ {binds : List (Str × Value)} {m : Str → Option Value}, (∀ v, (x, v) ∉ binds) → bindL kindOf binds m x = m x
  | [], _, _ => rfl
  | (n, v) :: r, m, h => by
    unfold bindL
    rw [bindL_out fun w hw => h w (List.mem_cons_of_mem _ hw)]
    split
    · have : x ≠ n := by rintro rfl; exact h v List.mem_cons_self
      simp [this]
    · rfl
theorem bindC_out {kindOf : Str → Option NameKind} {x : Str} : ∀ {binds : List (Str × Value)} {m : Str → Option Value}, (∀ v, (x, v) ∉ binds) → bindC kindOf binds m x = m x
  | [], _, _ => rfl
  | (n, v) :: r, m, h => by
    unfold bindC
    rw [bindC_out fun w hw => h w (List.mem_cons_of_mem _ hw)]
    split
    · rfl
    · have : x ≠ n := by rintro rfl; exact h v List.mem_cons_self
      simp [this]
theorem bindL_get {kindOf : Str → Option NameKind} {x : Str} {v : Value} : ∀ {P : List Str} {vs : List Value} {i : Nat} {m : Str → Option Value}, P.Nodup → P[i]? = some x → vs[i]? = some v → kindOf x = some .local →
    bindL kindOf (P.zip vs) m x = some v
  | [], _, _, _, _, h, _, _ => by simp at h
  | _ :: _, [], _, _, _, _, h, _ => by simp at h
  | p :: P, w :: vs, 0, m, nd, h1, h2, hk => by
    simp at h1 h2; subst h1; subst h2
    show bindL kindOf ((p, w) :: P.zip vs) m p = _
    unfold bindL
    rw [bindL_out fun v hv => (List.nodup_cons.mp nd).1 (List.of_mem_zip hv).1, if_pos hk]
    simp
  | p :: P, w :: vs, i + 1, m, nd, h1, h2, hk => by
    show bindL kindOf ((p, w) :: P.zip vs) m x = _
    unfold bindL
    exact bindL_get (i := i) (List.nodup_cons.mp nd).2 (by simpa using h1) (by simpa using h2) hk
theorem bindC_get {kindOf : Str → Option NameKind} {x : Str} {v : Value} : ∀ {P : List Str} {vs : List Value} {i : Nat} {m : Str → Option Value}, P.Nodup → P[i]? = some x → vs[i]? = some v → kindOf x ≠ some .local →
    bindC kindOf (P.zip vs) m x = some v
  | [], _, _, _, _, h, _, _ => by simp at h
  | _ :: _, [], _, _, _, _, h, _ => by simp at h
  | p :: P, w :: vs, 0, m, nd, h1, h2, hk => by
    simp at h1 h2; subst h1; subst h2
    show bindC kindOf ((p, w) :: P.zip vs) m p = _
    unfold bindC
    rw [bindC_out fun v hv => (List.nodup_cons.mp nd).1 (List.of_mem_zip hv).1, if_neg hk]
    simp
  | p :: P, w :: vs, i + 1, m, nd, h1, h2, hk => by
    show bindC kindOf ((p, w) :: P.zip vs) m x = _
    unfold bindC
    exact bindC_get (i := i) (List.nodup_cons.mp nd).2 (by simpa using h1) (by simpa using h2) hk
def start (N : List Str) (vs : List V) : St := vs.map some ++ List.replicate (N.length - vs.length) none
def cxOf (CX : CXT) (P : Program) (w : World) (K : PySem.W.Frag) (mg : Str → Option Value) (base : Heap) (N : List Str) (qual : Str) (scope : Scope) (f : Addr) (cd : Value) (A : Around) (outer : List Env) (s : Shared) (H : Hp) (E : XK) : Cx where
  prog := P
  w := w
  K := K
  mg := mg
  base := base
  A := A.deeper (envOfC qual scope s.heap.objs.size f cd)
  N := N
  s₀ := s
  H₀ := H
  env := envOfC qual scope s.heap.objs.size f cd
  outer := outer
  stack := envOfC qual scope s.heap.objs.size f cd :: outer
  ex := []
  calm := true
  fn := fun _ => true
  pn := []
  xe := fun e s' => wpAny (model P w) (A.deeper (envOfC qual scope s.heap.objs.size f cd)) (leaving (envOfC qual scope s.heap.objs.size f cd) e) (fun _ s'' => CX outer H s E e s'') (fun e' s'' => CX outer H s E e' s'') s'
theorem cell_has {sc : Scope} {n : Nat} {x : Str} (h : sc.names.lookup x = some .cell) : ∃ c, (cellsFrom n sc.names []).lookup x = some c := by
  have q := PySem.W.cellsFrom_some sc.names n [] (.inl h)
  exact Option.isSome_iff_exists.mp q
theorem inv_start {CX : CXT} {P : Program} {w : World} {K : PySem.W.Frag} {mg : Str → Option Value} {base : Heap} {N ps : List Str} {qual : Str} {scope : Scope} {f : Addr} {cd : Value} {A : Around} {outer : List Env} {s s1 : Shared} {H : Hp} {E : XK} {us : List Value} {vs : List V}
    (S : FnScope N ps scope) (hd : A.handled = none) (e0 : Env0 P w K mg base A outer s H) (hl : vs.length = ps.length) (r : Vals vs us)
    (x : InCallC s s.heap.objs.size (bindL (envOfC qual scope s.heap.objs.size f cd).kindOf (ps.zip us) fun _ => none) (cellsFrom (s.heap.objs.size + 1) scope.names []) (bindC (envOfC qual scope s.heap.objs.size f cd).kindOf (ps.zip us) fun _ => none) s1) :
    Inv (cxOf CX P w K mg base N qual scope f cd A outer s H E) [] (start N vs) H s1 := by
  have hpl : ps.length ≤ N.length := by have := congrArg List.length S.pre; rw [List.length_take] at this; omega
  obtain ⟨h1, tk, rfl, hk⟩ := x.done
  have noA : ∀ b : Addr, b ∉ (cxOf CX P w K mg base N qual scope f cd A outer s H E).ex := fun b z => absurd (show b ∈ ([] : List Addr) from z) (by simp)
  refine ⟨⟨e0.mod, S.kind, rfl, rfl, Nat.le_refl _, fun y z c h1 h2 => ?_, fun y hy => ?_, fun y c _ h => ?_, fun _ => hd, Around.frames_deeper e0.frames, .inr ⟨rfl, rfl⟩, fun b z => absurd z (noA b), e0.bs, e0.bsz, fun b _ _ => noA b, fun b z => absurd z (noA b), e0.funs, e0.frf⟩,
    rfl, e0.bare, Un.kept hk, ⟨_, x.toInCall.ns, fun i y v h1 h2 h3 => ?_⟩, fun y c h => ⟨_, x.cell y c h⟩, e0.hok.fresh (Nat.le_refl _), fun y c h => ?_, fun p hp => absurd (show p ∈ ([] : List (Addr × Obj)) from hp) (by simp), e0.hok.kept hk, ?_⟩
  · exact name_of_addr x.apart (PySem.mem_of_lookup h1) (PySem.mem_of_lookup h2)
  · have hy : scope.names.lookup y = some .cell ∨ scope.names.lookup y = some .free := hy
    rcases hy with hy | hy
    · exact cell_has hy
    · exact absurd rfl (S.nofree _ (PySem.mem_of_lookup hy))
  · exact Nat.le_of_lt (x.above y c (PySem.mem_of_lookup h))
  · have hi : i < vs.length := by
      unfold start at h2
      by_cases hi : i < vs.length
      · exact hi
      · rw [List.getElem?_append_right (by simpa using hi)] at h2
        rw [List.getElem?_replicate] at h2
        split at h2 <;> cases h2
    have ha : vs[i]? = some v := by
      unfold start at h2
      rw [List.getElem?_append_left (by simpa using hi), List.getElem?_map] at h2
      cases e : vs[i]? with
      | none => rw [e] at h2; cases h2
      | some a => rw [e] at h2; cases h2; rfl
    obtain ⟨u, hu, rv⟩ := r.get ha
    have hp : ps[i]? = some y := by
      rw [← S.pre, List.getElem?_take_of_lt (by omega)]; exact h1
    have ndP : ps.Nodup := by rw [← S.pre]; exact S.nd.sublist (List.take_sublist _ _)
    refine ⟨u, rv, ?_⟩
    rcases S.par y (List.mem_of_getElem? hp) with k | k
    · exact .inl ⟨k, bindL_get ndP hp hu k⟩
    · obtain ⟨c, e⟩ := cell_has (n := s.heap.objs.size + 1) k
      refine .inr ⟨.inl k, c, e, ?_⟩
      have q := x.cell y c e
      rw [bindC_get ndP hp hu (by show scope.names.lookup y ≠ _; rw [k]; decide)] at q
      exact q
  · exact e0.hok.fresh (Nat.le_of_lt (x.above y c (PySem.mem_of_lookup h)))
  · unfold start
    show _ = N.length
    rw [List.length_append, List.length_map, List.length_replicate]
    omega
theorem fn_of {CX : CXT} {P : Program} {w : World} {K : PySem.W.Frag} {mg : Str → Option Value} {base : Heap} {k : Nat} {f : Addr} {name qual : Str} {params : Arguments} {body : List Stmt} {scope : Scope} {dV kV doc pm cdv ct oc : Value} {an od : Option Addr}
    {osl : Array (Option Value)} {N ps : List Str} {sp : Sp} (lk : K.lookup f = some ⟨oc, od, .func (PySem.W.fnOf name qual params body scope dV kV doc pm an cdv ct), osl⟩) (hcd : PySem.W.codeIn K cdv qual = true) (S : FnScope N ps scope)
    (len : ∀ vs H Q E, sp vs H Q E → vs.length = ps.length)
    (hbody : ∀ (A : Around) (outer : List Env) (s : Shared) (H : Hp) (vs : List V) (Q : VK) (E : XK), Room k (A.deeper (envOfC qual scope s.heap.objs.size f cdv)) → sp vs H Q E →
      ∃ t, PSs (cxOf CX P w K mg base N qual scope f cdv A outer s H E) body t ∧ t { nx := fun _ H' => Q .non H', rt := Q } (start N vs) H) :
    FnOk P w K mg base CX (k + 1) f (PySem.W.fnOf name qual params body scope dV kV doc pm an cdv ct) ps sp := by
  refine ⟨len, fun A outer s H args us vs Q E hr e0 hb r hsp => ?_⟩
  have hl := len _ _ _ _ hsp
  have KX : K.In s.heap := e0.mod.kin.keeps fun b o e => (e0.bs b o e).1
  have lim : s.heap.NoLimit := e0.mod.nolimit.keeps fun b o e => (e0.bs b o e).1
  have hkind : ∀ y ∈ ps.zip us, scope.names.lookup y.1 = some .local ∨ (scope.names.lookup y.1 = some .cell ∧ ((cellsFrom (s.heap.objs.size + 1) scope.names []).lookup y.1).isSome = true) := fun ⟨n, v⟩ hy => by
    rcases S.par n (List.of_mem_zip hy).1 with q | q
    · exact .inl q
    · exact .inr ⟨q, PySem.W.cellsFrom_some _ _ _ (.inl q)⟩
  refine codeAny_call_function hr.depth (KX _ _ lk) rfl S.co S.gen rfl (PySem.W.codeRec_of KX hcd) (hb _ _ _ _ ?_)
  refine wpAny_newFunctionEnv_cells S.kind hkind fun env he s1 x => ?_
  subst he
  refine ⟨lim.keeps x.toInCall.keep, codeAny_func ?_⟩
  obtain ⟨t, ht, hq⟩ := hbody A outer s H vs Q E (hr.deeper _) hsp
  have I : Inv (cxOf CX P w K mg base N qual scope f cdv A outer s H E) [] (start N vs) H s1 := inv_start S hr.hd e0 hl r x
  refine wpAny_mono (ht [] s1 (start N vs) H _ I hq) (fun fl s' hs => ?_) fun e s' hs => hs
  have fin : ∀ {σ' : St} {H' : Hp} {v : V} {u : Value}, Inv (cxOf CX P w K mg base N qual scope f cdv A outer s H E) [] σ' H' s' → RelV v u → Q v H' → CE outer P w H s Q u s' :=
    fun {σ' H' v u} J rv q => ⟨v, H', J.os, J.bare, J.base, J.hok, rv, q⟩
  cases fl with
  | ret u =>
    obtain ⟨v, σ', H', J, rv, q⟩ := hs
    exact fin J rv q
  | next =>
    obtain ⟨σ', H', J, q⟩ := hs
    exact fin (v := V.non) (u := Value.none) J rfl q
  | brk =>
    obtain ⟨_, _, _, q⟩ := hs
    exact False.elim q
  | cont =>
    obtain ⟨_, _, _, q⟩ := hs
    exact False.elim q
end L2
namespace L2
open PySem PySem.Spec PyProof.Rows
section
variable {X : Cx} {x : Str} {p pos : Pos} {e : Expr} {es : List Expr} {t : TA} {id T : String} {r : List V → Hp → VK → Prop}
def tCB (r : List V → Hp → VK → Prop) (t : TA) : TE := fun σ H Q => t σ H fun vs H1 => r vs H1 Q
theorem pe_callB (hc : CallR X (.builtin id) r) (hg : Gl X x) (hm : X.mg x = none) (hv : bootBuiltins x = some (.builtin id)) (ha : PA X (e :: es) t) (hn : x ≠ "__name__" := by decide) (hdb : (x == ("__debug__" : Str)) = false := by decide)
    (he : starEach (e :: es) X.env = (false, eval e X.env) :: starEach es X.env := by rfl) (hpl : (backTo pos (starEach es X.env)).any (·.1) = false := by rfl) : PE X (.Call (.Name x p) (e :: es) [] pos) (tCB r t) := by
  intro pins s σ H Q I h
  refine wpAny_Call_Name_kw (ld_blt I hg hm hv ?_ hn hdb)
  exact PyProof.Rows.callWith_builtin1 (thn (ha pos pins s σ H _ I h) fun us s1 ⟨vs, H1, I1, r1, q1⟩ => hc pins s1 σ H1 vs us Q I1 r1 q1) he hpl
theorem pe_callTy (hc : CallR X (.type T) r) (hg : Gl X x) (hm : X.mg x = none) (hv : bootBuiltins x = some (.type T)) (ha : PA X (e :: es) t) (hn : x ≠ "__name__" := by decide) (hdb : (x == ("__debug__" : Str)) = false := by decide)
    (he : starEach (e :: es) X.env = (false, eval e X.env) :: starEach es X.env := by rfl) (hpl : (backTo pos (starEach es X.env)).any (·.1) = false := by rfl) : PE X (.Call (.Name x p) (e :: es) [] pos) (tCB r t) := by
  intro pins s σ H Q I h
  refine wpAny_Call_Name_kw (ld_blt I hg hm hv ?_ hn hdb)
  exact PyProof.Rows.callWith_type1 (thn (ha pos pins s σ H _ I h) fun us s1 ⟨vs, H1, I1, r1, q1⟩ => hc pins s1 σ H1 vs us Q I1 r1 q1) he hpl
end
end L2
namespace HT
open PySem PyProof.Rows
section
open PySem.SeqAt
open PySem.AutoSeq1 (wpAny_loadPart')
open PySem.MeetsSeq PySem.MeetsSeq2 PySem.MeetsSeq3
end
section
variable {prog : Program} {w : World} {A : Around} {E : Value → Shared → Prop} {s : Shared}
def sIx (n d : Nat) : Option Int → Nat
  | none => d
  | some v => if v < 0 then (v + (n : Int)).toNat else min v.toNat n
theorem sIx_none (n d : Nat) : sIx n d none = d := rfl
theorem sIx_nat (n d k : Nat) : sIx n d (some (k : Int)) = min k n := by
  show (if (k : Int) < 0 then ((k : Int) + (n : Int)).toNat else min (k : Int).toNat n) = min k n
  rw [if_neg (by omega), Int.toNat_natCast]
end
end HT
namespace L2
open PySem PySem.Spec PyProof.Rows
abbrev TO := St → Hp → (Option Int → Hp → Prop) → Prop
def PO (X : Cx) (e : Option Expr) (t : TO) : Prop :=
  ∀ (pins : List (Addr × Obj)) (s : Shared) (σ : St) (H : Hp) (Q : Option Int → Hp → Prop), Inv X pins σ H s → t σ H Q →
    wpAny (model X.prog X.w) X.A (evalPart e X.env) (fun u s' => ∃ o H', Inv X pins σ H' s' ∧ IsPart u o ∧ Q o H') X.xe s
def tNoPart : TO := fun _ H Q => Q none H
def tPart (t : TE) : TO := fun σ H Q => t σ H fun x H1 => ∃ i, x = .int i ∧ Q (some i) H1
section
variable {X : Cx} {e : Expr} {te : TE} {lo hi : Option Expr} {tl th : TO} {pos p2 : Pos}
theorem po_none : PO X none tNoPart := by
  intro pins s σ H Q I h
  rw [evalPart_none]
  exact wpAny_pure ⟨none, H, I, .none, h⟩
theorem po_some (h : PE X e te) : PO X (some e) (tPart te) := by
  intro pins s σ H Q I hw
  rw [evalPart_some]
  refine thn (h pins s σ H _ I hw) fun u s1 ⟨x, H1, I1, r1, q1⟩ => ?_
  obtain ⟨i, rfl, q⟩ := q1
  obtain ⟨t, rfl⟩ := r1
  exact ⟨some i, H1, I1, .int i t, q⟩
def SlR (X : Cx) (r : V → Option Int → Option Int → Hp → VK → Prop) : Prop :=
  ∀ (pins : List (Addr × Obj)) (s : Shared) (σ : St) (H : Hp) (x : V) (v vl vu : Value) (lo hi : Option Int) (sl : Addr) (Q : VK), Inv X pins σ H s → RelV x v → s.heap.IsSliceOf sl vl vu .none → IsPart vl lo → IsPart vu hi → r x lo hi H Q →
    ∃ T id, typeLookup (.type T) "__getitem__" = pure (some (.builtin id)) ∧ s.TypeIs v T ∧ wpAny (model X.prog X.w) X.A (getItem v (.ref sl)) (EP X pins σ Q) X.xe s
theorem SlR.or {r r' : V → Option Int → Option Int → Hp → VK → Prop} (h : SlR X r) (h' : SlR X r') : SlR X (fun x lo hi H Q => r x lo hi H Q ∨ r' x lo hi H Q) := by
  intro pins s σ H x v vl vu lo hi sl Q I rx hs pl pu q
  rcases q with q | q
  · exact h pins s σ H x v vl vu lo hi sl Q I rx hs pl pu q
  · exact h' pins s σ H x v vl vu lo hi sl Q I rx hs pl pu q
def tSl (r : V → Option Int → Option Int → Hp → VK → Prop) (te : TE) (tl th : TO) : TE := fun σ H Q => te σ H fun x H1 => tl σ H1 fun l H2 => th σ H2 fun u H3 => r x l u H3 Q
theorem pe_slice {r : V → Option Int → Option Int → Hp → VK → Prop} (hr : SlR X r) (he : PE X e te) (hl : PO X lo tl) (hu : PO X hi th) : PE X (.Subscript e (.Slice lo hi none p2) pos) (tSl r te tl th) := by
  intro pins s σ H Q I h
  refine Subscript_ (thn (he pins s σ H _ I h) fun v s1 ⟨x, H1, I1, r1, q1⟩ => ?_)
  refine wpAny_Slice (thn (hl pins s1 σ H1 _ I1 q1) fun vl s2 ⟨l, H2, I2, pl, q2⟩ => thn (hu pins s2 σ H2 _ I2 q2) fun vu s3 ⟨u, H3, I3, pu, q3⟩ => ?_)
  rw [evalPart_none]
  refine wpAny_pure ?_
  have I4 : Inv X pins σ H3 { s3 with heap := s3.heap.push { cls := .type "slice", data := .fields #[vl, vu, .none] } } := I3.kept (t' := s3.toks) fun b ob q => Heap.get?_push_of_some _ q
  obtain ⟨T, id, hT, ht, hg⟩ := hr pins { s3 with heap := s3.heap.push { cls := .type "slice", data := .fields #[vl, vu, .none] } } σ H3 x v vl vu l u s3.heap.objs.size Q I4 r1 (Heap.IsSliceOf.new ..) pl pu q3
  show wpAny (model X.prog X.w) X.A (subscriptTail e (.Slice lo hi none p2) v (.ref s3.heap.objs.size)) (EP X pins σ Q) X.xe { s3 with heap := s3.heap.push { cls := .type "slice", data := .fields #[vl, vu, .none] } }
  exact tail_any (ops := [.ref s3.heap.objs.size, v]) ht hT hg (by with_unfolding_all rfl)
def cutV (xs : List V) (lo hi : Option Int) : List V := (xs.drop (HT.sIx xs.length 0 lo)).take (HT.sIx xs.length xs.length hi - HT.sIx xs.length 0 lo)
theorem cutV_length (xs : List V) (lo hi : Option Int) : (cutV xs lo hi).length ≤ xs.length := by
  unfold cutV
  rw [List.length_take, List.length_drop]
  omega
end
end L2
namespace L2
open PySem PySem.Spec PyProof.Rows
def ixN (n : Nat) (i : Int) : Option Nat := if 0 ≤ i then (if i < n then some i.toNat else none) else if -(n : Int) ≤ i then some (i + n).toNat else none
def atI {α : Type} (xs : List α) (i : Int) : Option α := (ixN xs.length i).bind fun j => xs[j]?
theorem ixN_seq {n : Nat} {i : Int} {j : Nat} (h : ixN n i = some j) : seqIndex? i n = some j ∧ j < n ∧ -(n : Int) ≤ i ∧ i < n := by
  unfold ixN at h
  by_cases h0 : 0 ≤ i
  · rw [if_pos h0] at h
    by_cases h1 : i < n
    · rw [if_pos h1] at h
      have e : i.toNat = j := Option.some.inj h
      exact ⟨by rw [seqIndex_of h0 h1, e], by omega, by omega, h1⟩
    · rw [if_neg h1] at h; cases h
  · rw [if_neg h0] at h
    by_cases h1 : -(n : Int) ≤ i
    · rw [if_pos h1] at h
      have e : (i + n).toNat = j := Option.some.inj h
      exact ⟨by rw [seqIndex_neg (by omega) h1, e], by omega, h1, by omega⟩
    · rw [if_neg h1] at h; cases h
theorem atI_get {α : Type} {xs : List α} {i : Int} {v : α} (h : atI xs i = some v) : ∃ j, seqIndex? i xs.length = some j ∧ xs[j]? = some v ∧ j < xs.length ∧ -(xs.length : Int) ≤ i ∧ i < xs.length := by
  unfold atI at h
  cases e : ixN xs.length i with
  | none => rw [e] at h; cases h
  | some j =>
    rw [e] at h
    obtain ⟨h1, h2, h3, h4⟩ := ixN_seq e
    exact ⟨j, h1, h, h2, h3, h4⟩
def PlainIx (b : Expr) : Prop := ∀ o i, subscripted b false o i = operate [o, i] (getItem o i)
def IxR (X : Cx) (r : R2) : Prop :=
  ∀ (value slice : Expr) (pins : List (Addr × Obj)) (s : Shared) (σ : St) (H : Hp) (x y : V) (v u : Value) (Q : VK), Inv X pins σ H s → RelV x v → RelV y u → r x y H Q →
    subscripted slice false v u = operate [v, u] (getItem v u) → wpAny (model X.prog X.w) X.A (subscriptTail value slice v u) (EP X pins σ Q) X.xe s
def MtR (X : Cx) (id : String) (r : V → List V → Hp → VK → Prop) : Prop :=
  ∀ (pins : List (Addr × Obj)) (s : Shared) (σ : St) (H : Hp) (x : V) (xs : List V) (v : Value) (us : List Value) (Q : VK), Inv X pins σ H s → RelV x v → Vals xs us → r x xs H Q →
    wpAny (model X.prog X.w) X.A (call (.builtin id) (v :: us)) (EP X pins σ Q) X.xe s
section
variable {X : Cx} {a b : Expr} {ta tb : TE} {pos : Pos}
theorem IxR.or {r r' : R2} (h : IxR X r) (h' : IxR X r') : IxR X (fun x y H Q => r x y H Q ∨ r' x y H Q) := by
  intro value slice pins s σ H x y v u Q I rx ry q hs
  rcases q with q | q
  · exact h value slice pins s σ H x y v u Q I rx ry q hs
  · exact h' value slice pins s σ H x y v u Q I rx ry q hs
theorem MtR.or {id : String} {r r' : V → List V → Hp → VK → Prop} (h : MtR X id r) (h' : MtR X id r') : MtR X id (fun x xs H Q => r x xs H Q ∨ r' x xs H Q) := by
  intro pins s σ H x xs v us Q I rx rs q
  rcases q with q | q
  · exact h pins s σ H x xs v us Q I rx rs q
  · exact h' pins s σ H x xs v us Q I rx rs q
theorem pe_ix {r : R2} (hr : IxR X r) (ha : PE X a ta) (hb : PE X b tb) (hs : PlainIx b) : PE X (.Subscript a b pos) (tOp r ta tb) := by
  intro pins s σ H Q I h
  exact Subscript_ (binT ha hb I h fun v u s2 x y H2 I2 rx ry q => hr a b pins s2 σ H2 x y v u Q I2 rx ry q (hs _ _))
def rIxL (K : PySem.W.Frag) : R2 := fun x y H Q => ∃ p xs i v, x = .ref p ∧ y = .int i ∧ SqL K H p xs ∧ atI xs i = some v ∧ Q v H
def rIxT (K : PySem.W.Frag) : R2 := fun x y H Q => ∃ p xs i v, x = .ref p ∧ y = .int i ∧ SqT K H p xs ∧ atI xs i = some v ∧ Q v H
def rIxS : R2 := fun x y H Q => ∃ z i c, x = .str z ∧ y = .int i ∧ z.length ≤ sizeLine ∧ atI z.cps.toList i = some c ∧ Q (.str ⟨#[c]⟩) H
theorem ix_list : IxR X (rIxL X.K) := by
  intro value slice pins s σ H x y v u Q I rx ry h hs
  obtain ⟨p, xs, i, z, rfl, rfl, hq, he, q⟩ := h
  cases rx
  obtain ⟨t, rfl⟩ := ry
  obtain ⟨its, r, pl, hz⟩ := I.list hq
  obtain ⟨j, h1, h2, h3, h4, h5⟩ := atI_get he
  obtain ⟨w, ew, rw'⟩ := r.get h2
  have hl := r.length
  have hn := line63
  have fin : EP X pins σ Q w s := ⟨z, H, I, rw', q⟩
  by_cases h0 : 0 ≤ i
  · have hj : i.toNat = j := by
      rw [seqIndex_of h0 h5] at h1
      exact Option.some.inj h1
    exact item_listR pl.isList h0 (by omega) (by rw [hj]; simpa using ew) fin hs
  · have hj : (i + (its.toArray.size : Int)).toNat = j := by
      rw [seqIndex_neg (by omega) h4] at h1
      rw [List.size_toArray, ← hl]
      exact Option.some.inj h1
    exact subscriptTail_builtinR (x := w) pl.isList.typeIs slot_list_getitem.lookup
      (wpAny_getItem_list_neg (Q := fun r s' => r = w ∧ EP X pins σ Q r s') pl.isList (by omega) (by rw [List.size_toArray] <;> omega) (by omega) (by rw [hj]; simpa using ew) ⟨rfl, fin⟩) hs
theorem ix_tup : IxR X (rIxT X.K) := by
  intro value slice pins s σ H x y v u Q I rx ry h hs
  obtain ⟨p, xs, i, z, rfl, rfl, hq, he, q⟩ := h
  cases rx
  obtain ⟨t, rfl⟩ := ry
  obtain ⟨its, r, pl, hz⟩ := I.tuple hq
  obtain ⟨j, h1, h2, h3, h4, h5⟩ := atI_get he
  obtain ⟨w, ew, rw'⟩ := r.get h2
  have hl := r.length
  have hn := line63
  have fin : EP X pins σ Q w s := ⟨z, H, I, rw', q⟩
  exact subscriptTail_builtinR (x := w) pl.typeIs slot_tuple_getitem.lookup
    (getItem_tuple (j := j) (Q := fun r s' => r = w ∧ EP X pins σ Q r s') pl (by omega) (by omega) (by rw [List.size_toArray, ← hl]; exact h1) (by simpa using ew) ⟨rfl, fin⟩) hs
theorem ix_str : IxR X rIxS := by
  intro value slice pins s σ H x y v u Q I rx ry h hs
  obtain ⟨z, i, c, rfl, rfl, hz, he, q⟩ := h
  obtain ⟨t, rfl⟩ := rx
  obtain ⟨t', rfl⟩ := ry
  obtain ⟨j, h1, h2, h3, h4, h5⟩ := atI_get he
  have hl : z.cps.toList.length = z.length := by simp [Str.length]
  rw [hl] at h1 h4 h5
  have hn := line63
  exact tail_any (typeIs_str s z t) slot_str_getitem.lookup (getItem_str (c := c) (by
    have e1 : decide (i < -(2 ^ 63 : Int)) = false := decide_eq_false (by omega)
    have e2 : decide (i ≥ 2 ^ 63) = false := decide_eq_false (by omega)
    rw [e1, e2, Bool.or_false]) (by rw [h1]; simpa using h2) ⟨.str ⟨#[c]⟩, H, I.tok _, ⟨_, rfl⟩, q⟩) hs
def rIx (K : PySem.W.Frag) : R2 := fun x y H Q => rIxL K x y H Q ∨ rIxT K x y H Q ∨ rIxS x y H Q
theorem ix_seq : IxR X (rIx X.K) := ix_list.or (ix_tup.or ix_str)
theorem Inv.lst {pins : List (Addr × Obj)} {σ : St} {H : Hp} {s : Shared} {p : Addr} {xs : List V} (I : Inv X pins σ H s) (h : H p = some (.lst xs)) :
    ∃ (its : List Value) (n : Nat), Vals xs its ∧ s.heap.get? p = some { cls := .type "list", data := .seq its.toArray n } ∧ xs.length ≤ sizeLine := by
  obtain ⟨z, its, n, r, e⟩ := I.hok p _ h
  exact ⟨its, n, r, e, z⟩
theorem slice_bounds (lo hi : Option Int) (n : Nat) : (sliceBounds lo hi none n).1 = ((HT.sIx n 0 lo : Nat) : Int) ∧ (sliceBounds lo hi none n).2.1 = ((HT.sIx n n hi : Nat) : Int) ∧ (sliceBounds lo hi none n).2.2 = 1 := by
  refine ⟨?_, ?_, rfl⟩
  · cases lo with
    | none => simp [sliceBounds, HT.sIx]
    | some i =>
      simp only [sliceBounds, HT.sIx, Option.getD_none, show (1 : Int) > 0 by decide, if_true]
      by_cases h : i < 0
      · simp only [h, if_true] <;> omega
      · simp only [h, if_false] <;> omega
  · cases hi with
    | none => simp [sliceBounds, HT.sIx]
    | some i =>
      simp only [sliceBounds, HT.sIx, Option.getD_none, show (1 : Int) > 0 by decide, if_true]
      by_cases h : i < 0
      · simp only [h, if_true] <;> omega
      · simp only [h, if_false] <;> omega
theorem slicePick_cut (its : List Value) (lo hi : Option Int) : slicePick its.toArray lo hi none = ((its.drop (HT.sIx its.length 0 lo)).take (HT.sIx its.length its.length hi - HT.sIx its.length 0 lo)).toArray := by
  obtain ⟨h1, h2, h3⟩ := slice_bounds lo hi its.toArray.size
  unfold slicePick
  rw [h1, h2, h3]
  simp only [sliceRange_one, pick_run, List.size_toArray] <;> rfl
def rSlL (K : PySem.W.Frag) : V → Option Int → Option Int → Hp → VK → Prop := fun x lo hi H Q => ∃ a xs, x = .ref a ∧ SqL K H a xs ∧ ∀ p, H p = none → Q (.ref p) (upd H p (.lst (cutV xs lo hi)))
theorem sl_list : SlR X (rSlL X.K) := by
  intro pins s σ H x v vl vu lo hi sl Q I rx hs pl pu h
  obtain ⟨a, xs, rfl, hx, q⟩ := h
  cases rx
  obtain ⟨its, r, ht, hz⟩ := I.list hx
  have hlen := r.length
  refine ⟨"list", _, slot_list_getitem.lookup, ht.isList.typeIs, ?_⟩
  refine wpAny_getItem_list_slice ht.isList hs pl pu .none (by simp) ?_ (by rw [List.size_toArray] <;> omega)
  rw [slicePick_cut, ← hlen]
  refine ⟨.ref s.heap.objs.size, _, I.laid (t' := s.toks) (o := .lst (cutV xs lo hi)) (fun b ob q => Heap.get?_push_of_some _ q) (Nat.le_refl _) ?_, rfl, q _ (I.hok.fresh (Nat.le_refl _))⟩
  exact ⟨Nat.le_trans (cutV_length xs lo hi) hz, _, 0, (r.drop (HT.sIx xs.length 0 lo)).take (HT.sIx xs.length xs.length hi - HT.sIx xs.length 0 lo), Heap.get?_push_size _ rfl⟩
def flatV : V → Bool
  | .non => true
  | .bl _ => true
  | .int _ => true
  | .str _ => true
  | _ => false
def eqV : V → V → Bool
  | .non, .non => true
  | .bl a, .bl b => a == b
  | .bl a, .int b => (if a then 1 else 0) == b
  | .int a, .bl b => a == (if b then 1 else 0)
  | .int a, .int b => a == b
  | .str a, .str b => a == b
  | _, _ => false
theorem eqAt_V {A : Around} {s : Shared} {y x : V} {u v : Value} (ry : RelV y u) (rx : RelV x v) (fy : flatV y = true) (fx : flatV x = true) : SeqAt.EqAt A s u v (eqV y x) := by
  cases y with
  | non =>
    cases ry
    cases x with
    | non => cases rx; exact SeqAt.EqAt.same _
    | bl b => cases rx; exact SeqAt.EqAt.none_bool b
    | int b => obtain ⟨t, rfl⟩ := rx; exact SeqAt.EqAt.none_int b t
    | str b => obtain ⟨t, rfl⟩ := rx; exact SeqAt.EqAt.none_str b t
    | _ => exact absurd (show false = true from fx) Bool.false_ne_true
  | bl a =>
    cases ry
    cases x with
    | non => cases rx; exact SeqAt.EqAt.bool_none a
    | bl b => cases rx; exact SeqAt.EqAt.bool_bool a b
    | int b => obtain ⟨t, rfl⟩ := rx; exact SeqAt.EqAt.bool_int a b t
    | str b => obtain ⟨t, rfl⟩ := rx; exact SeqAt.EqAt.bool_str a b t
    | _ => exact absurd (show false = true from fx) Bool.false_ne_true
  | int a =>
    obtain ⟨t', rfl⟩ := ry
    cases x with
    | non => cases rx; exact SeqAt.EqAt.int_none a t'
    | bl b => cases rx; exact SeqAt.EqAt.int_bool a t' b
    | int b => obtain ⟨t, rfl⟩ := rx; exact SeqAt.EqAt.int_int a t' b t
    | str b => obtain ⟨t, rfl⟩ := rx; exact SeqAt.EqAt.int_str a t' b t
    | _ => exact absurd (show false = true from fx) Bool.false_ne_true
  | str a =>
    obtain ⟨t', rfl⟩ := ry
    cases x with
    | non => cases rx; exact SeqAt.EqAt.str_none a t'
    | bl b => cases rx; exact SeqAt.EqAt.str_bool a t' b
    | int b => obtain ⟨t, rfl⟩ := rx; exact SeqAt.EqAt.str_int a t' b t
    | str b => obtain ⟨t, rfl⟩ := rx; exact SeqAt.EqAt.str_str a t' b t
    | _ => exact absurd (show false = true from fx) Bool.false_ne_true
  | _ => exact absurd (show false = true from fy) Bool.false_ne_true
def eqU (x : V) (u : Value) : Bool := match u with
  | .none => eqV .non x
  | .bool b => eqV (.bl b) x
  | .int i _ => eqV (.int i) x
  | .str z _ => eqV (.str z) x
  | _ => false
theorem eqU_of {x y : V} {u : Value} (r : RelV y u) (f : flatV y = true) : eqU x u = eqV y x := by
  cases y with
  | non => cases r; rfl
  | bl b => cases r; rfl
  | int i => obtain ⟨t, rfl⟩ := r; rfl
  | str z => obtain ⟨t, rfl⟩ := r; rfl
  | _ => exact absurd (show false = true from f) Bool.false_ne_true
theorem any_eqU {x : V} : ∀ {xs : List V} {us : List Value}, Vals xs us → xs.all flatV = true → us.any (eqU x) = xs.any fun y => eqV y x
  | _, _, .nil, _ => rfl
  | y :: xs, u :: us, .cons r t, f => by
    rw [List.all_cons, Bool.and_eq_true] at f
    rw [List.any_cons, List.any_cons, eqU_of r f.1, any_eqU t f.2]
theorem mem_eqAt {A : Around} {s : Shared} {x : V} {v : Value} (rx : RelV x v) (fx : flatV x = true) : ∀ {xs : List V} {us : List Value}, Vals xs us → xs.all flatV = true → ∀ u ∈ us, SeqAt.EqAt A s u v (eqU x u)
  | _, _, .nil, _ => fun u hu => by cases hu
  | y :: xs, u :: us, .cons r t, f => fun u' hu => by
    rw [List.all_cons, Bool.and_eq_true] at f
    rcases List.mem_cons.mp hu with rfl | hu
    · rw [eqU_of r f.1]; exact eqAt_V r rx f.1 fx
    · exact mem_eqAt rx fx t f.2 u' hu
def inV (x : V) (xs : List V) : Bool := xs.any fun y => eqV y x
def rIn (K : PySem.W.Frag) (neg : Bool) : R2 := fun x y H Q => ∃ p xs, y = .ref p ∧ (SqL K H p xs ∨ SqT K H p xs) ∧ flatV x = true ∧ xs.all flatV = true ∧ Q (.bl (if neg then !inV x xs else inV x xs)) H
theorem op_notIn_seq : OpR X (compareOp .NotIn) (rIn X.K true) := by
  intro pins s σ H x y v u Q I rx ry h
  obtain ⟨p, xs, rfl, hq, fx, fs, q⟩ := h
  cases ry
  rcases hq with hq | hq
  · obtain ⟨its, r, pl, hz⟩ := I.list hq
    refine SeqAt.notIn_listAt (eqU x) pl.isList (fun w hw => mem_eqAt rx fx r fs w (by simpa using hw)) ⟨.bl _, H, I, rfl, ?_⟩
    rw [show its.toArray.any (eqU x) = its.any (eqU x) by simp, any_eqU r fs]
    exact q
  · obtain ⟨its, r, pl, hz⟩ := I.tuple hq
    refine SeqAt.notIn_tupleAt (eqU x) pl (fun w hw => mem_eqAt rx fx r fs w (by simpa using hw)) ⟨.bl _, H, I, rfl, ?_⟩
    rw [show its.toArray.any (eqU x) = its.any (eqU x) by simp, any_eqU r fs]
    exact q
theorem CallR.or {f : Value} {r r' : List V → Hp → VK → Prop} (h : CallR X f r) (h' : CallR X f r') : CallR X f (fun xs H Q => r xs H Q ∨ r' xs H Q) := by
  intro pins s σ H xs us Q I rs q
  rcases q with q | q
  · exact h pins s σ H xs us Q I rs q
  · exact h' pins s σ H xs us Q I rs q
def tyV (K : PySem.W.Frag) (T : String) (x : V) (H : Hp) : Prop := match x with
  | .str _ => T = "str"
  | .int _ => T = "int"
  | .ref p => (T = "list" ∧ ∃ xs, SqL K H p xs) ∨ (T = "tuple" ∧ ∃ o, K.lookup p = some o ∧ o.cls = .type "tuple" ∧ o.dict = none) ∨
      (T = "dict" ∧ ((∃ kvs, H p = some (.dK kvs)) ∨ ∃ kvs, H p = some (.dT kvs))) ∨ (T = "set" ∧ ∃ S n, H p = some (.set S n))
  | _ => False
theorem tyV_is {pins : List (Addr × Obj)} {σ : St} {H : Hp} {s : Shared} {T : String} {x : V} {v : Value} (I : Inv X pins σ H s) (r : RelV x v) (ty : tyV X.K T x H) :
    s.TypeIs v T ∧ ∀ a, v = .ref a → ∃ ob, s.heap.get? a = some ob ∧ ob.dict = none := by
  cases x with
  | str z =>
    obtain ⟨t, rfl⟩ := r
    cases (show T = "str" from ty)
    exact ⟨typeIs_str s z t, fun _ e => nomatch e⟩
  | int i =>
    obtain ⟨t, rfl⟩ := r
    cases (show T = "int" from ty)
    exact ⟨typeIs_int s i t, fun _ e => nomatch e⟩
  | ref p =>
    cases r
    rcases ty with ⟨rfl, xs, hq⟩ | ⟨rfl, o, hk, hc, hd⟩ | ⟨rfl, hk⟩ | ⟨rfl, S, n, hk⟩
    · obtain ⟨its, _, pl, _⟩ := I.list hq
      refine ⟨pl.isList.typeIs, fun a e => ?_⟩
      cases e
      obtain ⟨o, n, e, c, hd, _⟩ := pl
      exact ⟨o, e, hd⟩
    · refine ⟨⟨o, I.kIn p o hk, hc⟩, fun a e => ?_⟩
      cases e
      exact ⟨o, I.kIn _ o hk, hd⟩
    · have z : ∃ o, s.heap.get? p = some o ∧ o.ExactDict := by
        rcases hk with ⟨kvs, hk⟩ | ⟨kvs, hk⟩
        · obtain ⟨_, _, _, _, o, _, _, e, ex, _⟩ := I.hok p _ hk
          exact ⟨o, e, ex⟩
        · obtain ⟨_, _, _, _, o, _, _, e, ex, _⟩ := I.hok p _ hk
          exact ⟨o, e, ex⟩
      obtain ⟨o, e, ex⟩ := z
      refine ⟨⟨o, e, ex.1⟩, fun a e2 => ?_⟩
      cases e2
      exact ⟨o, e, ex.2.1⟩
    · obtain ⟨o, _, _, _, e, ex, _⟩ := I.hok p _ hk
      refine ⟨⟨o, e, ex.1⟩, fun a e2 => ?_⟩
      cases e2
      exact ⟨o, e, ex.2.1⟩
  | _ => exact False.elim ty
def tBM (K : PySem.W.Frag) (T : String) (r : V → List V → Hp → VK → Prop) (to : TE) (t : TA) : TE := fun σ H Q => to σ H fun x H1 => tyV K T x H1 ∧ t σ H1 fun xs H2 => r x xs H2 Q
variable {o e : Expr} {es : List Expr} {to : TE} {t : TA} {name : Str} {apos cpos : Pos} {T id : String} {r : V → List V → Hp → VK → Prop}
theorem pe_bm (pa : PlainAttrs T) (slot : Slot T name id) (hty : typeOf (.builtin id) = pure (.type "method_descriptor")) (hm : MtR X id r) (ho : PE X o to) (ha : PA X (e :: es) t)
    (hbase : attributeBase o name X.env (eval o X.env) = eval o X.env := by rfl)
    (hfew : ((backTo cpos (starEach (e :: es) X.env)).all (fun x => !x.1) && (backToKw cpos (keywordEach [] X.env)).all (fun x => x.1.isSome)
      && decide ((e :: es).length + ([] : List Keyword).length + (if ([] : List Keyword).isEmpty then 0 else 1) < 30)) = true := by rfl)
    (hline : (apos.endLine == cpos.line) = true := by rfl) (hs : starEach (e :: es) X.env = (false, eval e X.env) :: starEach es X.env := by rfl) (hplain : (backTo cpos (starEach es X.env)).any (·.1) = false := by rfl) :
    PE X (.Call (.Attribute o name apos) (e :: es) [] cpos) (tBM X.K T r to t) := by
  intro pins s σ H Q I h
  refine wpAny_Call_method_late hbase hfew hline rfl (thn (ho pins s σ H _ I h) fun v s1 ⟨x, H1, I1, r1, ty, q1⟩ => ?_)
  obtain ⟨h1, h2⟩ := tyV_is I1 r1 ty
  refine ⟨T, id, pa, slot, hty, h1, h2, ?_⟩
  have hA := ha cpos pins s1 σ H1 _ I1 q1
  rw [hs] at hA ⊢
  refine Calls.callWith_builtin (by show (false || (backTo cpos (starEach es X.env)).any (·.1)) = false; rw [hplain] <;> rfl) (Calls.evalArgs_plain ?_)
  exact thn hA fun us s2 ⟨vs, H2, I2, r2, q2⟩ => hm pins s2 σ H2 x vs v us Q I2 r1 r2 q2
end
end L2
namespace L2
open PySem PySem.Spec PyProof.Rows
def MtM (X : Cx) (id : String) (r : V → List V → Hp → VK → Prop) : Prop :=
  ∀ (pins : List (Addr × Obj)) (s : Shared) (σ : St) (H : Hp) (x : V) (xs : List V) (v : Value) (us : List Value) (Q : VK), Inv X pins σ H s → RelV x v → Vals xs us → r x xs H Q →
    wpAny (model X.prog X.w) X.A (call (.builtin id) (v :: us)) (EP X pins σ Q) X.xe s
theorem Vals.one : ∀ {x : V} {us : List Value}, Vals [x] us → ∃ u, us = [u] ∧ RelV x u
  | _, _, .cons r .nil => ⟨_, rfl, r⟩
theorem Vals.zero : ∀ {us : List Value}, Vals [] us → us = []
  | _, .nil => rfl
theorem Vals.reverse {xs : List V} {us : List Value} (h : Vals xs us) : Vals xs.reverse us.reverse := by
  induction h with
  | nil => exact .nil
  | cons r t ih => rw [List.reverse_cons, List.reverse_cons]; exact Vals.append ih (.cons r .nil)
theorem Vals.rep {xs : List V} {us : List Value} (h : Vals xs us) : ∀ k : Nat, Vals (List.replicate k xs).flatten (List.replicate k us).flatten
  | 0 => .nil
  | k + 1 => by
    rw [List.replicate_succ, List.replicate_succ, List.flatten_cons, List.flatten_cons]
    exact Vals.append h (Vals.rep h k)
theorem foldl_rep (its : List Value) : ∀ (k : Nat) (acc : List Value),
    List.foldl (fun x1 x2 => x1 ++ x2) acc.toArray (List.replicate k its.toArray) = (acc ++ (List.replicate k its).flatten).toArray
  | 0, acc => by simp
  | k + 1, acc => by
    have e : acc.toArray ++ its.toArray = (acc ++ its).toArray := by simp
    have e2 : (acc ++ its) ++ (List.replicate k its).flatten = acc ++ (List.replicate (k + 1) its).flatten := by
      rw [List.replicate_succ, List.flatten_cons, List.append_assoc]
    rw [← e2, ← foldl_rep its k (acc ++ its), ← e, List.replicate_succ, List.foldl_cons]
section
variable {X : Cx} {pins : List (Addr × Obj)} {σ : St} {H : Hp} {s : Shared} {l b : Addr} {xs ys zs : List V}
theorem Inv.lset {its its' : List Value} {n : Nat} {f : Array Value → Array Value} {t' : Nat} (I : Inv X pins σ H s) (hH : H l = some (.lst xs))
    (e : s.heap.get? l = some { cls := .type "list", data := .seq its.toArray n }) (hf : f its.toArray = its'.toArray) (hv : Vals ys its') (hz : ys.length ≤ sizeLine) :
    Inv X pins σ (upd H l (.lst ys)) { s with heap := s.heap.update l (Obj.mapSeq f), toks := t' } := by
  have q := PySem.IsL.update e f
  rw [hf] at q
  refine I.write (x := l) (e := l) (by rw [hH]; exact trivial) (.inl rfl) (fun b' u hb hu => (Heap.get?_update_other s.heap (Obj.mapSeq f) (Ne.symm hb)).trans hu) ⟨_, q⟩ ?_
  exact ⟨hz, its', _, hv, q⟩
theorem Inv.lnew {its : List Value} {t' : Nat} (I : Inv X pins σ H s) (hv : Vals ys its) (hz : ys.length ≤ sizeLine) :
    Inv X pins σ (upd H s.heap.objs.size (.lst ys)) { s with heap := s.heap.push { cls := .type "list", data := .seq its.toArray }, toks := t' } :=
  I.laid (fun _ _ q => Heap.get?_push_of_some _ q) (Nat.le_refl _) ⟨hz, its, 0, hv, Heap.get?_push_size _ rfl⟩
theorem Inv.fresh (I : Inv X pins σ H s) : H s.heap.objs.size = none := I.hok.fresh (Nat.le_refl _)
theorem Inv.lstM (I : Inv X pins σ H s) (hH : H l = some (.lst xs)) : xs.length ≤ sizeLine ∧ ∃ (its : List Value) (n : Nat), Vals xs its ∧ xs.length = its.length ∧ s.heap.get? l = some { cls := .type "list", data := .seq its.toArray n } := by
  obtain ⟨z, its, n, r, e⟩ := I.hok l _ hH
  exact ⟨z, its, n, r, r.length, e⟩
theorem notLongL {n : Nat} (h : n ≤ sizeLine) : Builtin.List.listTooLong n = false := by
  unfold Builtin.List.listTooLong
  exact decide_eq_false (by omega)
end
section
variable {X : Cx}
def rAppend : V → List V → Hp → VK → Prop := fun x vs H Q => ∃ l xs y, x = .ref l ∧ vs = [y] ∧ H l = some (.lst xs) ∧ xs.length < sizeLine ∧ Q .non (upd H l (.lst (xs ++ [y])))
theorem mt_append : MtM X "list.append" rAppend := by
  intro pins s σ H x vs v us Q I rx rv h
  obtain ⟨l, xs, y, rfl, rfl, hH, hz, q⟩ := h
  cases rx
  obtain ⟨u, rfl, ru⟩ := rv.one
  obtain ⟨z, its, n, r, hl, e⟩ := I.lstM hH
  refine call_meets F.slot_list_append ⟨_, e, rfl⟩ F.entry_list_append (F.args_list_append_2 _ _) (PySem.list_append l its.toArray n u (by rw [List.size_toArray]; omega)) ⟨e, ?_⟩
  refine ⟨.non, _, I.lset (its' := its ++ [u]) hH e (by simp) (r.append (.cons ru .nil)) ?_, rfl, q⟩
  rw [List.length_append, List.length_singleton]
  omega
theorem len_rep {α : Type} (xs : List α) (k : Nat) : (List.replicate k xs).flatten.length = k * xs.length := by
  induction k with
  | zero => simp
  | succ k ih => rw [List.replicate_succ, List.flatten_cons, List.length_append, ih, Nat.succ_mul, Nat.add_comm]
end
section
variable {prog : Program} {w : World} {A : Around} {E : Value → Shared → Prop} {s : Shared}
theorem bounds_run {a c n : Nat} (hac : a ≤ c) (hc : c ≤ n) : sliceBounds (some (a : Int)) (some (c : Int)) none n = ((a : Int), (c : Int), 1) := by
  simp only [sliceBounds, Option.getD_none]
  have h1 : ¬ ((a : Int) < 0) := by omega
  have h2 : ¬ ((c : Int) < 0) := by omega
  simp only [h1, h2, if_false, show (1 : Int) > 0 by decide, if_true]
  congr 1
  · omega
  · congr 1; omega
set_option maxRecDepth 100000 in
theorem setItem_slice {l b sl : Addr} {items new : Array Value} {n n2 : Nat} {vl vu : Value} {a c : Nat} {Q : Unit → Shared → Prop}
    (e : s.heap.get? l = some { cls := .type "list", data := .seq items n }) (e2 : s.heap.get? b = some { cls := .type "list", data := .seq new n2 }) (hne : l ≠ b)
    (hs : s.heap.IsSliceOf sl vl vu .none) (pl : IsPart vl (some (a : Int))) (pu : IsPart vu (some (c : Int))) (hac : a ≤ c) (hc : c ≤ items.size)
    (hsz : items.size + new.size ≤ sizeLine) (h : Q () { s with heap := s.heap.update l (Obj.mapSeq fun xs => xs.extract 0 a ++ new ++ xs.extract c xs.size) }) :
    wpAny (model prog w) A (setItem (.ref l) (.ref sl) (.ref b)) Q E s := by
  have hl : s.heap.IsList l items := PySem.IsL.isList e
  have hb : s.heap.IsList b new := PySem.IsL.isList e2
  obtain ⟨os, hos, hcs, hds⟩ := id hs
  have hTs : s.TypeIs (.ref sl) "slice" := ⟨os, hos, hcs⟩
  have hstep : ¬ ((rawPart none == rawInt 0) = true) := Bool.false_ne_true
  have hsame : Builtin.List.listSameRef (.ref l) (.ref b) = false := by
    unfold Builtin.List.listSameRef
    exact beq_eq_false_iff_ne.mpr hne
  have hmax : (max (a : Int) (c : Int)).toNat = c := by omega
  have hz' : ((fun xs : Array Value => xs.extract 0 a ++ new ++ xs.extract c xs.size) items).size ≤ sizeLine + 1 := by
    simp only [Array.size_append, Array.size_extract]
    omega
  unfold setItem
  try with_reducible refine wpAny_holding ?_
  first | refine wpAny_bind (wpAny_pure ?_) | skip
  refine wpAny_bind (wpAny_sequenceKey hl.typeIs (by decide) ?_)
  refine wpAny_bind (wpAny_callSpecial?_slot (name := Str.ofString "__setitem__") hl.typeIs slot_list_setitem
    (wpAny_call_entry slot_list_setitem hl.typeIs entry_list_setitem ?_ (args_list_setitem _ _ _)))
  show wpAny _ _ (Builtin.List.listSubscript? (.ref sl) >>= _) _ _ s
  refine wpAny_bind ?_
  unfold Builtin.List.listSubscript?
  refine wpAny_bind (wpAny_specialOf hTs slice_no_index ?_)
  simp only [Option.isNone_none, if_true]
  refine wpAny_pure ?_
  show wpAny _ _ (typeOf (.ref sl) >>= _) _ _ s
  refine wpAny_bind (wpAny_typeOf hTs ?_)
  first
    | rw [if_neg (by decide)]
    | refine PySem.W.KFB.if_not (by decide) ?_
  rw [listSliceParts_eq]
  refine wpAny_bind (wpAny_bind (wpAny_field hos hds (x := .none) rfl (wpAny_bind (wpAny_listPart .none ?_))))
  rw [if_neg hstep]
  refine wpAny_bind (wpAny_field hos hds (x := vl) rfl (wpAny_bind (wpAny_listPart pl ?_)))
  refine wpAny_bind (wpAny_field hos hds (x := vu) rfl (wpAny_bind (wpAny_listPart pu (wpAny_pure ?_))))
  first
    | simp only [hsame, Bool.false_eq_true, if_false]
    | refine PySem.W.KFB.if_not hsame ?_
    | (dsimp only
       rw [if_neg (by rw [hsame]; exact Bool.false_ne_true)])
  refine wpAny_bind (m := Builtin.List.listAllItems (.ref b) "must assign iterable to extended slice") ?_
  unfold Builtin.List.listAllItems
  refine wpAny_bind (wpAny_typeOf hb.typeIs ?_)
  first
    | refine PySem.W.KFB.if_so (by decide) ?_
    | rw [if_pos (by decide)]
    | simp only [beq_self_eq_true, Bool.true_or, if_true]
  unfold Builtin.List.listItems
  refine wpAny_bind (wpAny_seqItems e2 rfl (wpAny_pure ?_))
  refine wpAny_bind (wpAny_bind (wpAny_seqItems e rfl (wpAny_pure ?_)))
  refine wpAny_bind (wpAny_of_eq ((sliceIndices_raw (some (a : Int)) (some (c : Int)) none items.size (by simp)).trans (congrArg (pure : Int × Int × Int → Sem (Int × Int × Int)) (bounds_run hac hc))) ?_)
  show wpAny _ _ (if ((1 : Int) == 1) = true then _ else _) _ _ s
  rw [if_pos (by decide)]
  refine wpAny_bind (wpAny_rule ?_)
  first
    | simp only [notLongL hsz, Bool.false_eq_true, if_false]
    | refine PySem.W.KFB.if_not (notLongL hsz) ?_
  first | refine wpAny_bind (wpAny_pure ?_) | skip
  show wpAny _ _ (updateSeq l (fun xs => xs.extract 0 ((a : Int)).toNat ++ new ++ xs.extract (max (a : Int) (c : Int)).toNat xs.size) >>= _) _ _ s
  rw [hmax, Int.toNat_natCast]
  refine wpAny_bind (wpAny_updateSeq (hz := Nat.le_trans (Nat.le_add_right _ _) hsz) (_hz' := hz') e rfl ?_)
  refine wpAny_bind (wpAny_letGo ?_)
  first
    | exact wpAny_bind (wpAny_pure (wpAny_pure ⟨.none, rfl, wpAny_pure h⟩))
    | exact wpAny_pure ⟨.none, rfl, wpAny_pure h⟩
end
section
variable {X : Cx}
end
end L2
namespace Att
open PySem PySem.W PySem.Calls PyProof.Rows
theorem ints_of_wellAll {P : Params} {h : Heap} : ∀ (ns : List Int) (vs : List Value), WellAll P h vs (ns.map WData.int) → IntsAre vs ns := by
  intro ns
  induction ns with
  | nil =>
    intro vs w
    rw [List.map_nil] at w
    cases w
    exact .nil
  | cons n ns ih =>
    intro vs w
    rw [List.map_cons] at w
    cases w with
    | cons a b =>
      cases a
      exact .cons _ _ (ih _ b)
theorem script_of {l : OpenLaw} {n : Nat} (hn : l.most = some n) {P : Params} {h : Heap} {args : List WData} {vals : List Value}
    (hpre : l.row.toRowW.claim.pre args = true) (hwl : WellAll P h vals args) :
    ∃ a vs ns, vals = [Value.ref a] ∧ args = [WData.list (ns.map WData.int)] ∧ h.get? a = some { cls := .type "list", data := .seq vs.toArray } ∧ IntsAre vs ns ∧ ns.length ≤ n := by
  have hsh : WShape.hasAll [] args [.list .int] = true := (pre_splitW hpre).1
  have hc : l.pre.holds [] { args := args } = true := (pre_splitW hpre).2
  obtain ⟨d, r, rfl, h1, h2⟩ := hasAllW_cons hsh
  obtain rfl := hasAllW_nil h2
  obtain ⟨xs, rfl, h3⟩ := hasW_list h1
  obtain ⟨ns, rfl⟩ := items_int h3
  have hlen : ns.length ≤ n := by
    unfold OpenLaw.pre at hc
    have h4 : (WTm.not (.lt (.lit (.int (n : Int))) (.len (.arg 0)))).holds [] { args := [.list (ns.map .int)] } = true := by
      have h4 := (holds_andW hc).1
      rw [hn] at h4
      exact h4
    have h5 := condW_of h4 (w_not (w_lt w_lit (w_len_list (w_arg rfl))))
    rw [List.length_map] at h5
    refine Nat.le_of_not_lt fun q => ?_
    have q' : (n : Int) < ((ns.length : Nat) : Int) := by omega
    first
      | (rw [decide_eq_true q'] at h5; exact absurd h5 (by decide))
      | (simp at h5; omega)
  cases hwl with
  | cons w1 w2 =>
    cases w2
    cases w1 with
    | list ho hall => exact ⟨_, _, ns, rfl, rfl, ho, ints_of_wellAll ns _ hall, hlen⟩
theorem post_true (l : OpenLaw) (args : List WData) : l.row.toRowW.claim.post args (.bool true) args = true :=
  postW_of (r := l.row.toRowW) (X := (true == true))
    (show WShape.has [] (.bool true) .bool = true by first | rfl | decide | simp [WShape.has, WShape.arms, WShape.armsAll])
    (show (WTm.eq .res (.lit (.bool true))).value [] { args := args, res := some (.bool true), after := args } = some (.bool (true == true)) from w_eq_bool (w_res rfl) w_lit) rfl
theorem attach_call {l : OpenLaw} {n : Nat} {q : Program} {loose : List Str} {XP : (Str → Option Value) → Heap → Prop} {YP : World → Heap → Prop} {d : DefRec}
    (hn : l.most = some n) (hdf : d.params.defaults = [])
    (call : ∀ (w : World) (s₀ s₁ : Shared) (mg mb : Str → Option Value) (fa : Addr) (o : Obj) (pm cd doc : Value) (a : Addr) (vs : List Value) (ns : List Int),
      Ground q loose [] XP w s₀ mg mb s₁.heap → YP w s₁.heap →
      s₁.heap.get? fa = some o → o.data = .func (docDef d.name d.params d.body d.scope pm cd doc) → s₁.heap.CodeRec cd d.name → mg d.name = some (.ref fa) →
      s₁.heap.get? a = some { cls := .type "list", data := .seq vs.toArray } → IntsAre vs ns → ns.length ≤ n → s₁.gens = #[] →
      codeAny (model l.prog w) callerA (.call (.ref fa) ⟨[.ref a], []⟩) (fun r s' => r = .ok (.ret (.bool true)) ∧ OldK s₁.heap s'.heap ∧ s'.os = s₁.os ∧ AllBare s'.gens) s₁) :
    WalkO q loose XP YP l.row.toRowW d [] (fun f vs => PySem.call f vs) := by
  intro w s₀ s₁ mg mb G Y fa o pm cd doc dV kV ho hd hcd hD hmg hg args vals as hpre hlay hrd hwl hlo
  obtain rfl : dV = .none := Dflts.none hD hdf
  obtain rfl : kV = .none := Dflts.noKw hD
  obtain ⟨a, vs, ns, rfl, rfl, hobj, hints, hlen⟩ := script_of hn hpre hwl
  refine enter_call (codeAny_mono (call w s₀ s₁ mg mb fa o pm cd doc a vs ns G Y ho (fd_plain hd) hcd hmg hobj hints hlen hg) fun r s' hq => ?_)
  obtain ⟨rfl, h2, h3, h4⟩ := hq
  exact ⟨.inl ⟨.bool true, .bool true, [], rfl, fun _ => rfl, .bool true, post_true l _, fun _ => ⟨List.Pairwise.nil, fun _ hm => (nomatch hm)⟩⟩, h2, h3, h4⟩
section
variable {prog : Program} {w : World} {A : Around} {E : Value → Shared → Prop} {s : Shared} {K : Frag}
end
end Att
namespace L2
open PySem PySem.Spec PyProof.Rows
theorem vals_ints : ∀ {vs : List Value} {ns : List Int}, IntsAre vs ns → Vals (ns.map V.int) vs
  | _, _, .nil => .nil
  | _, _, .cons n t h => .cons ⟨t, rfl⟩ (vals_ints h)
def Only (H : Hp) : Prop := ∀ b, H b = none ∨ ∃ o xs, H b = some (.frz o (.lst xs))
theorem law_call {P : Program} {w : World} {K : PySem.W.Frag} {mg mb : Str → Option Value} {CX : CXT} {k : Nat} {fa a : Addr} {fd : FuncData} {x : Str} {sp : Sp} {s₁ : Shared} {vs : List Value} {ns : List Int}
    (KX : K.In s₁.heap) (hns : s₁.heap.Ns mainGlobals mg) (hb : s₁.heap.Ns builtinsNs mb) (hbb : ∀ x : Str, x ≠ "__name__" → mb x = bootBuiltins x) (hlim : s₁.heap.NoLimit) (hg : s₁.gens = #[])
    (ha : s₁.heap.get? a = some { cls := .type "list", data := .seq vs.toArray }) (hi : IntsAre vs ns) (hl : ns.length ≤ sizeLine) (hr : Room k callerA)
    (F : ∀ base : Heap, K.In base → base.Ns mainGlobals mg → FnOk P w K mg base CX k fa fd [x] sp) (hbind : ∀ (s : Shared) (u : Value), BindsTo s fd ⟨[u], []⟩ [(x, u)])
    (hsp : ∀ H : Hp, Only H → SqL K H a (ns.map V.int) → sp [.ref a] H (fun v _ => v = .bl true) fun _ _ _ => False)
    (hCX : ∀ H e s', CX [] H s₁ (fun _ _ _ => False) e s' → False) :
    codeAny (model P w) callerA (.call (.ref fa) ⟨[.ref a], []⟩) (fun r s' => r = .ok (.ret (.bool true)) ∧ OldK s₁.heap s'.heap ∧ s'.os = s₁.os ∧ AllBare s'.gens) s₁ := by
  have rv := vals_ints hi
  have lenV := hi.length
  have core : ∀ H : Hp, Only H → SqL K H a (ns.map V.int) → HOk P w H s₁.heap → (∀ b, H b ≠ none → b = a) → (H a ≠ none → K.lookup a = none) →
      codeAny (model P w) callerA (.call (.ref fa) ⟨[.ref a], []⟩) (fun r s' => r = .ok (.ret (.bool true)) ∧ OldK s₁.heap s'.heap ∧ s'.os = s₁.os ∧ AllBare s'.gens) s₁ := by
    intro H hO hS hok hA hK
    have base_of : ∀ {b : Addr} {o : Obj}, s₁.heap.get? b = some o → H b = none → (hidT s₁.heap H).get? b = some o := fun e n => hidT_get e n
    have noA : ∀ {b : Addr} {o : Obj} {es : Array DictEntry} {ep : Nat}, s₁.heap.get? b = some o → o.data = .dict es ep → H b = none := fun {b o es ep} e d => by
      cases q : H b with
      | none => rfl
      | some u =>
        have e' : b = a := hA b (by rw [q]; simp)
        subst e'
        rw [ha] at e; cases e
        have d' : Data.seq vs.toArray _ = Data.dict es ep := d
        cases d'
    have nsK : ∀ {b : Addr} {m : Str → Option Value}, s₁.heap.Ns b m → (hidT s₁.heap H).Ns b m := fun {b m} ⟨o, es, ep, e, d, r⟩ => ⟨o, es, ep, base_of e (noA e d), d, r⟩
    have hKb : K.In (hidT s₁.heap H) := fun b o e => base_of (KX b o e) (by
      cases q : H b with
      | none => rfl
      | some u =>
        have e' : b = a := hA b (by rw [q]; simp)
        subst e'
        rw [hK (by rw [q]; simp)] at e; cases e)
    have hM : Mod K mg (hidT s₁.heap H) := ⟨hKb, nsK hns, ⟨mb, nsK hb, hbb⟩, let ⟨mc, h1, h2⟩ := hlim; ⟨mc, nsK h1, h2⟩⟩
    have e0 : Env0 P w K mg (hidT s₁.heap H) callerA [] s₁ H := ⟨rfl, hM, fun b o e => of_hidT e, Nat.le_of_eq (hidT_size _ _), trivial, fun b hb => absurd (show b ∈ ([] : List Addr) from hb) (by simp), hok, .of_eq hg⟩
    refine codeAny_mono ((F _ hKb (nsK hns)).run callerA [] s₁ H ⟨[.ref a], []⟩ [.ref a] [.ref a] _ _ hr e0 (hbind s₁ (.ref a)) (.cons rfl .nil) (hsp H hO hS)) fun r s' h => ?_
    cases r with
    | error e => exact (hCX H e s' h).elim
    | ok fl =>
      cases fl with
      | next => exact False.elim h
      | brk => exact False.elim h
      | cont => exact False.elim h
      | ret u =>
        obtain ⟨v, H', os, bare, un, hok', r', q⟩ := h
        have q' : v = .bl true := q
        subst q'
        obtain rfl : u = Value.bool true := r'
        refine ⟨rfl, OldK.of_keep fun b o e => ?_, os, bare⟩
        cases q : H b with
        | none => exact un.keep b o e q (by intro z; exact absurd (show b ∈ ([] : List Addr) from z) (by simp)) (by simp)
        | some u =>
          rcases hO b with z | ⟨ob, xs, z⟩
          · rw [q] at z; cases z
          · have z2 := un.frzs b ob _ z
            obtain ⟨e1, _⟩ := hok b _ z
            obtain ⟨e2, _⟩ := hok' b _ z2
            rw [e] at e1; cases e1
            exact e2
  cases hk : K.lookup a with
  | some o =>
    have e := KX a o hk
    rw [ha] at e
    cases e
    refine core (fun _ => none) (fun _ => .inl rfl) (.inr ⟨_, vs.toArray, _, hk, rfl, rfl, rfl, by rw [List.size_toArray, lenV]; exact hl, by simpa using rv⟩) (fun b u z => by have z' : (none : Option HO) = some u := z; cases z') (fun b z => absurd rfl z) fun z => absurd rfl z
  | none =>
    refine core (fun b => if b = a then some (.frz { cls := .type "list", data := .seq vs.toArray } (.lst (ns.map V.int))) else none) (fun b => ?_) (.inl (.inr ⟨{ cls := .type "list", data := .seq vs.toArray }, if_pos rfl⟩)) (fun b u z => ?_) (fun b z => ?_) fun _ => hk
    · by_cases hb : b = a
      · exact .inr ⟨_, _, if_pos hb⟩
      · exact .inl (if_neg hb)
    · by_cases hb : b = a
      · have z' := (if_pos hb).symm.trans z
        cases z'
        subst hb
        exact ⟨ha, by rw [List.length_map]; exact hl, vs, _, rv, ha⟩
      · have z' := (if_neg hb).symm.trans z
        cases z'
    · by_cases hb : b = a
      · exact hb
      · exact absurd (if_neg hb) z
end L2
namespace L2
open PySem PySem.Spec PyProof.Rows
theorem walk_of {l : PySem.W.OpenLaw} {n k : Nat} {q : Program} {loose : List Str} {XP : (Str → Option Value) → Heap → Prop} {YP : World → Heap → Prop} {d : DefRec} {K : Params → PySem.W.Frag} {CX : World → CXT} {sp : World → Sp} {x : Str}
    (hn : l.most = some n) (hn2 : n ≤ sizeLine) (hdf : d.params.defaults = []) (hr : Room k callerA)
    (hY : ∀ (w : World) (h : Heap), YP w h → (K w.params).In h)
    (F : ∀ (w : World) (mg : Str → Option Value) (fa : Addr) (h : Heap), (K w.params).In h → h.Ns mainGlobals mg → mg d.name = some (.ref fa) →
      ∃ fd : FuncData, (∀ (s : Shared) (u : Value), BindsTo s fd ⟨[u], []⟩ [(x, u)]) ∧
        ∀ base : Heap, (K w.params).In base → base.Ns mainGlobals mg → FnOk l.prog w (K w.params) mg base (CX w) k fa fd [x] (sp w))
    (hsp : ∀ (w : World) (H : Hp) (a : Addr) (ns : List Int), ns.length ≤ n → Only H → SqL (K w.params) H a (ns.map V.int) → sp w [.ref a] H (fun v _ => v = .bl true) fun _ _ _ => False)
    (hCX : ∀ (w : World) (H : Hp) (s : Shared) (e : Value) (s' : Shared), CX w [] H s (fun _ _ _ => False) e s' → False) :
    PySem.W.WalkO q loose XP YP l.row.toRowW d [] (fun f vs => PySem.call f vs) := by
  refine Att.attach_call hn hdf fun w s₀ s₁ mg mb fa o pm cd doc a vs ns G Y ho hd hcd hmg hobj hints hlen hg => ?_
  have KX := hY w _ Y
  obtain ⟨fd, hb, hF⟩ := F w mg fa _ KX G.T.g hmg
  exact law_call KX G.T.g G.T.b G.T.builtins G.T.nolimit hg hobj hints (Nat.le_trans hlen hn2) hr hF hb (fun H hO hS => hsp w H a ns hlen hO hS) fun H e s' => hCX w H s₁ e s'
end L2
namespace L2
open PySem PySem.Spec PyProof.Rows
def defArgs (s : Stmt) : Arguments := match s with
  | .FunctionDef _ a _ _ _ _ _ _ _ _ => a
  | _ => { posonlyargs := [], args := [], vararg := none, kwonlyargs := [], kw_defaults := [], kwarg := none, defaults := [] }
def defBody (s : Stmt) : List Stmt := match s with
  | .FunctionDef _ _ b _ _ _ _ _ _ _ => b
  | _ => []
def defScope (s : Stmt) : Scope := match s with
  | .FunctionDef _ _ _ _ _ _ sc _ _ _ => sc
  | _ => { kind := .function, names := [], isGenerator := false, isCoroutine := false }
abbrev CX0 : CXT := fun _ _ _ _ _ _ => False
abbrev E0 : XK := fun _ _ _ => False
theorem pass0 {X : Cx} : Passes CX0 X E0 := fun _ _ _ _ _ _ _ h => h.elim
structure Fun (K : PySem.W.Frag) (x qual : Str) (st : Stmt) (f : Addr) (fd : FuncData) : Prop where
  ex : ∃ (oc : Value) (od : Option Addr) (kV doc pm : Value) (an : Option Addr) (cdv ct : Value) (osl : Array (Option Value)),
    fd = PySem.W.fnOf x qual (defArgs st) (defBody st) (defScope st) .none kV doc pm an cdv ct ∧ K.lookup f = some ⟨oc, od, .func fd, osl⟩ ∧ PySem.W.codeIn K cdv qual = true
  kp : PySem.W.keepIn K (.ref f) = true
section
variable {P : Program} {w : World} {K : PySem.W.Frag} {mg : Str → Option Value} {base : Heap}
theorem Fun.ok {x qual : Str} {st : Stmt} {f : Addr} {fd : FuncData} {N ps : List Str} {k : Nat} {sp : Sp} (F : Fun K x qual st f fd) (S : FnScope N ps (defScope st)) (len : ∀ vs H Q E, sp vs H Q E → vs.length = ps.length)
    (hbody : ∀ (cdv : Value) (A : Around) (outer : List Env) (s : Shared) (H : Hp) (vs : List V) (Q : VK) (E : XK), Room k (A.deeper (envOfC qual (defScope st) s.heap.objs.size f cdv)) → sp vs H Q E →
      ∃ t, PSs (cxOf CX0 P w K mg base N qual (defScope st) f cdv A outer s H E).nox (defBody st) t ∧ t { nx := fun _ H' => Q .non H', rt := Q } (start N vs) H) : FnOk P w K mg base CX0 (k + 1) f fd ps sp := by
  obtain ⟨oc, od, kV, doc, pm, an, cdv, ct, osl, rfl, lk, hcd⟩ := F.ex
  refine fn_of lk hcd S len fun A outer s H vs Q E hr hsp => ?_
  obtain ⟨t, h, q⟩ := hbody cdv A outer s H vs Q E hr hsp
  exact ⟨t, h.nox, q⟩
theorem Fun.binds {x qual : Str} {st : Stmt} {f : Addr} {fd : FuncData} {ps : List Str} (F : Fun K x qual st f fd)
    (h : ∀ (kV doc pm : Value) (an : Option Addr) (cdv ct : Value) (us : List Value), us.length = ps.length → bindArgs (PySem.W.fnOf x qual (defArgs st) (defBody st) (defScope st) .none kV doc pm an cdv ct) ⟨us, []⟩ = pure (ps.zip us)) : Binds K fd ps [] := by
  obtain ⟨oc, od, kV, doc, pm, an, cdv, ct, osl, rfl, lk, hcd⟩ := F.ex
  exact .all (h kV doc pm an cdv ct)
theorem fun_mk {x qual : Str} {st : Stmt} {f : Addr} {oc : Value} {od an : Option Addr} {osl : Array (Option Value)} {kV doc pm cdv ct : Value} (l : K.lookup f = some ⟨oc, od, .func (PySem.W.fnOf x qual (defArgs st) (defBody st) (defScope st) .none kV doc pm an cdv ct), osl⟩)
    (c : PySem.W.codeIn K cdv qual = true) (k : PySem.W.keepIn K (.ref f) = true) : Fun K x qual st f (PySem.W.fnOf x qual (defArgs st) (defBody st) (defScope st) .none kV doc pm an cdv ct) := ⟨⟨oc, od, kV, doc, pm, an, cdv, ct, osl, rfl, l, c⟩, k⟩
end
section
variable {X : Cx}
theorem pv (i : Nat) {x : Str} {pos : Pos} (hN : X.N[i]? = some x := by rfl) (hv : Vis X.env.scope x := by first | exact Or.inl rfl | exact Or.inr (Or.inl rfl) | exact Or.inr (Or.inr rfl)) (hd : (x == ("__debug__" : Str)) = false := by decide)
    (hcd : (x == ("__classdict__" : Str)) = false := by decide) : PE X (.Name x pos) (tVar i) := pe_var hN hv hd hcd
end
theorem iteF {A B : Prop} (h : B) : if false = true then A else B := by
  rw [if_neg Bool.false_ne_true]
  exact h
theorem iteT {A B : Prop} (h : A) : if true = true then A else B := by
  rw [if_pos rfl]
  exact h
def Same (H H' : Hp) : Prop := ∀ b o, H b = some o → H' b = some o
theorem Same.refl (H : Hp) : Same H H := fun _ _ h => h
theorem Same.trans {H H1 H2 : Hp} (a : Same H H1) (b : Same H1 H2) : Same H H2 := fun c o h => b c o (a c o h)
theorem Same.free {H H' : Hp} (e : Same H H') {l : Addr} (h : H' l = Option.none) : H l = Option.none := by
  cases q : H l with
  | none => rfl
  | some o =>
    rw [e l o q] at h
    cases h
theorem Same.seq {K : PySem.W.Frag} {H H' : Hp} {a : Addr} {xs : List V} (e : Same H H') (h : SqL K H a xs) : SqL K H' a xs := by
  rcases h with (h | ⟨o, h⟩) | h
  · exact .inl (.inl (e _ _ h))
  · exact .inl (.inr ⟨o, e _ _ h⟩)
  · exact .inr h
end L2
set_option maxHeartbeats 4000000
namespace L2
open PySem PySem.Spec PyProof.Rows
def clOf (env : Env) : List (Str × NameKind) → List (Str × Addr) → List (Str × Addr)
  | [], acc => acc
  | (n, k) :: r, acc => if (k == NameKind.free) = true then (match env.cells.lookup n with | some a => clOf env r ((n, a) :: acc) | none => clOf env r acc) else clOf env r acc
theorem clOf_sub {env : Env} : ∀ {names : List (Str × NameKind)} {acc : List (Str × Addr)}, (∀ x c, acc.lookup x = some c → env.cells.lookup x = some c) →
    ∀ x c, (clOf env names acc).lookup x = some c → env.cells.lookup x = some c
  | [], _, h => h
  | (n, k) :: r, acc, h => by
    intro x c e
    unfold clOf at e
    split at e
    · split at e
      · rename_i a ha
        refine clOf_sub (names := r) (acc := (n, a) :: acc) (fun y d q => ?_) x c e
        rw [List.lookup_cons] at q
        split at q
        · rename_i hy
          have : y = n := by simpa using hy
          subst this
          rw [ha]; exact q
        · exact h y d q
      · exact clOf_sub h x c e
    · exact clOf_sub h x c e
theorem clOf_keep {env : Env} : ∀ {names : List (Str × NameKind)} {acc : List (Str × Addr)} {x : Str}, (∃ c, acc.lookup x = some c) → ∃ c, (clOf env names acc).lookup x = some c
  | [], _, _, h => h
  | (n, k) :: r, acc, x, h => by
    unfold clOf
    split
    · split
      · rename_i a ha
        refine clOf_keep ?_
        rw [List.lookup_cons]
        split
        · exact ⟨_, rfl⟩
        · exact h
      · exact clOf_keep h
    · exact clOf_keep h
theorem clOf_has {env : Env} : ∀ {names : List (Str × NameKind)} {acc : List (Str × Addr)} {x : Str}, (x, NameKind.free) ∈ names → (∃ c, env.cells.lookup x = some c) → ∃ c, (clOf env names acc).lookup x = some c
  | (n, k) :: r, acc, x, hm, hc => by
    rcases List.mem_cons.mp hm with e | e
    · cases e
      obtain ⟨c, hc⟩ := hc
      unfold clOf
      rw [if_pos (by rfl), hc]
      exact clOf_keep ⟨c, by rw [List.lookup_cons]; simp⟩
    · unfold clOf
      split
      · split
        · exact clOf_has e hc
        · exact clOf_has e hc
      · exact clOf_has e hc
theorem clos_run {env : Env} : ∀ (names : List (Str × NameKind)) (acc : List (Str × Addr)), (∀ x ∈ names, x.2 = .free → ∃ c, env.cells.lookup x.1 = some c) →
    (forIn names acc (fun (x : Str × NameKind) (r : List (Str × Addr)) => (match x with
      | (name, kind) => if (kind == NameKind.free) = true then do
          let a ← cellOf env name
          pure (ForInStep.yield ((name, a) :: r))
        else pure (ForInStep.yield r))) : Sem (List (Str × Addr))) = pure (clOf env names acc) := by
  intro names
  induction names with
  | nil => intro acc _; rfl
  | cons y r ih =>
    intro acc h
    obtain ⟨n, k⟩ := y
    have ih' := fun acc => ih acc fun x hx => h x (List.mem_cons_of_mem _ hx)
    rw [List.forIn_cons]
    unfold clOf
    by_cases hk : (k == NameKind.free) = true
    · have hk' : k = .free := by simpa using hk
      obtain ⟨c, hc⟩ := h (n, k) List.mem_cons_self hk'
      simp only [hk, if_true, cellOf, hc]
      exact ih' _
    · simp only [hk, Bool.false_eq_true, if_false]
      exact ih' _
theorem closureFor_eq {scope : Scope} {env : Env} (h : ∀ x ∈ scope.names, x.2 = .free → ∃ c, env.cells.lookup x.1 = some c) : closureFor scope env = pure (clOf env scope.names []) := by
  have e := clos_run scope.names [] h
  unfold closureFor
  dsimp only
  rw [e]
  rfl
structure BA where
  fp : List Addr
  pins : List (Addr × Obj)
  s : Shared
  H : Hp
  C : Addr
def blk (X : Cx) (N : List Str) (sc : Scope) (b : BA) : Cx :=
  { prog := X.prog, w := X.w, K := X.K, mg := X.mg, base := X.base, A := X.A, N := N, s₀ := b.s, H₀ := b.H, env := compEnvC sc (clOf X.env sc.names []) b.C X.env,
    outer := X.stack, stack := X.stack, ex := b.fp, fn := fun _ => false, calm := X.calm, pn := X.pn ++ b.pins, xe := fun _ _ => False }
structure Blk (X : Cx) (N : List Str) (sel : List (Option Nat)) (sc : Scope) : Prop where
  kind : sc.kind = .function
  nocell : (sc.names.all fun y => y.2 != .cell) = true
  free : (sc.names.all fun y => y.2 != .free || (X.env.kindOf y.1 == some .cell || X.env.kindOf y.1 == some .free)) = true
  names : (sc.names.all fun y => y.2 != .local || sc.names.lookup y.1 == some .local) = true
  len : sel.length = N.length
  sel : ((N.zip sel).all fun y => match y.2 with | none => true | some j => (X.N[j]? == some y.1) && (sc.names.lookup y.1 == some NameKind.free)) = true
def capt (σ : St) (sel : List (Option Nat)) : St := sel.map fun o => match o with | none => none | some j => (σ[j]?).join
theorem lookup_relabel_kind {env : Env} {k : NameKind} : ∀ {names : List (Str × NameKind)} {x : Str},
    (names.map fun (n, k) => if (k == NameKind.free && env.scope.kind == .function && env.kindOf n == some .cell) then (n, NameKind.cell) else (n, k)).lookup x = some k →
    ∃ k', names.lookup x = some k' ∧ (k' = k ∨ (k' = .free ∧ k = .cell))
  | [], _, h => by simp at h
  | (n, k0) :: r, x, h => by
    have ih := @lookup_relabel_kind env k r x
    have h : List.lookup x ((if (k0 == NameKind.free && env.scope.kind == .function && env.kindOf n == some .cell) = true then (n, NameKind.cell) else (n, k0)) :: _) = some k := h
    by_cases hc : (k0 == NameKind.free && env.scope.kind == .function && env.kindOf n == some .cell) = true
    · rw [if_pos hc, List.lookup_cons] at h
      rw [List.lookup_cons]
      cases hx : x == n with
      | true =>
        rw [hx] at h
        simp only at h
        cases h
        have : k0 = .free := by
          simp only [Bool.and_eq_true, beq_iff_eq] at hc
          exact hc.1.1
        subst this
        exact ⟨_, rfl, .inr ⟨rfl, rfl⟩⟩
      | false =>
        rw [hx] at h
        exact ih h
    · rw [if_neg hc, List.lookup_cons] at h
      rw [List.lookup_cons]
      cases hx : x == n with
      | true =>
        rw [hx] at h
        simp only at h
        cases h
        exact ⟨_, rfl, .inl rfl⟩
      | false =>
        rw [hx] at h
        exact ih h
section
variable {X : Cx} {pins : List (Addr × Obj)} {σ : St} {H : Hp} {s : Shared} {N : List Str} {sel : List (Option Nat)} {sc : Scope} {fp : List Addr}
theorem Blk.freeAt (B : Blk X N sel sc) : ∀ y ∈ sc.names, y.2 = .free → (X.env.kindOf y.1 = some .cell ∨ X.env.kindOf y.1 = some .free) := fun y hy hf => by
  have h := List.all_eq_true.mp B.free y hy
  rw [hf] at h
  simpa using h
theorem Blk.has (B : Blk X N sel sc) (ok : X.Ok) : ∀ y ∈ sc.names, y.2 = .free → ∃ c, X.env.cells.lookup y.1 = some c := fun y hy hf => ok.has _ (B.freeAt y hy hf)
theorem Blk.sub (_ : Blk X N sel sc) : ∀ x c, (clOf X.env sc.names []).lookup x = some c → X.env.cells.lookup x = some c := clOf_sub fun _ _ e => by simp at e
theorem mem_lookup {names : List (Str × NameKind)} {x : Str} {k : NameKind} (h : names.lookup x = some k) : (x, k) ∈ names := PySem.mem_of_lookup h
theorem blk_start (B : Blk X N sel sc) (I : Inv X pins σ H s) (hfp : ∀ x ∈ fp, FpOk X pins H x) (hobj : ∀ x ∈ fp, ∃ o, s.heap.get? x = some o) {h' : Heap} {tk : Nat} {d : Obj}
    (hn : h'.Ns s.heap.objs.size fun _ => none) (sb : Heap.SameBut s.heap.objs.size (s.heap.push d) h') :
    Inv (blk X N sc ⟨fp, pins, s, H, s.heap.objs.size⟩) [] (capt σ sel) H { s with heap := h', toks := tk } := by
  have kept : ∀ b o, s.heap.get? b = some o → h'.get? b = some o := fun b o e => (sb.2 b (Nat.ne_of_lt (Heap.lt_size e))).trans (Heap.get?_push_of_some _ e)
  have hasb : ∀ x, ((relabel sc X.env).names.lookup x = some .cell ∨ (relabel sc X.env).names.lookup x = some .free) → (x, NameKind.free) ∈ sc.names := fun x hx => by
    have nocell : ∀ z, sc.names.lookup z ≠ some .cell := fun z e => by
      have := List.all_eq_true.mp B.nocell _ (mem_lookup e)
      simp at this
    rcases hx with hx | hx
    · obtain ⟨k', e, q | ⟨q, _⟩⟩ := lookup_relabel_kind hx
      · subst q; exact absurd e (nocell x)
      · subst q; exact mem_lookup e
    · obtain ⟨k', e, q | ⟨_, q⟩⟩ := lookup_relabel_kind hx
      · subst q; exact mem_lookup e
      · cases q
  refine ⟨⟨I.ok.mod, B.kind, I.ok.glob, I.ok.blt, Nat.le_refl _, fun x y c h1 h2 => I.ok.inj x y c (B.sub x c h1) (B.sub y c h2), fun x hx => ?_, fun x c hf _ => (by cases hf), I.ok.hd, I.ok.frames, .inl rfl, fun b hb => ?_, I.bs, Nat.le_trans I.ok.bsz I.sz, fun b o e hb => ?_, fun b hb hs => ?_, I.stack, I.stkFree⟩,
    rfl, I.bare, Un.kept kept, ⟨_, hn, fun i x v h1 h2 h3 => ?_⟩, fun x c e => ?_, I.fresh, fun x c e => I.freeC x c (B.sub x c e), fun p hp => ?_, I.hok.kept kept, ?_⟩
  · have hm := hasb x hx
    exact clOf_has hm (B.has I.ok _ hm rfl)
  · obtain ⟨o, e⟩ := hobj b hb
    exact ⟨Nat.ne_of_lt (Heap.lt_size e), fun x c hc => (hfp b hb).2.2.2.2.1 x c (B.sub x c hc)⟩
  · rcases (hfp b hb).2.2.2.1 with z | z
    · exact I.ok.noex b o e z
    · exact absurd (Nat.lt_of_lt_of_le (Heap.lt_size (I.ok.bs b o e).1) z) (Nat.lt_irrefl _)
  · have := I.stkSub b hs
    rcases List.mem_cons.mp this with z | z
    · exact (hfp b hb).2.1 z
    · exact (hfp b hb).2.2.1 z
  ·
    have h1 : N[i]? = some x := h1
    unfold capt at h2
    rw [List.getElem?_map] at h2
    cases hs : sel[i]? with
    | none => rw [hs] at h2; cases h2
    | some o =>
      rw [hs] at h2
      cases o with
      | none => cases h2
      | some j =>
        have h2 : (σ[j]?).join = some v := Option.some.inj h2
        have hz : (x, some j) ∈ N.zip sel := by
          rw [List.mem_iff_getElem?]
          exact ⟨i, by rw [List.getElem?_zip_eq_some]; exact ⟨h1, hs⟩⟩
        have hq := List.all_eq_true.mp B.sel _ hz
        simp only [Bool.and_eq_true, beq_iff_eq] at hq
        obtain ⟨hj, hlk⟩ := hq
        have hm := mem_lookup hlk
        have hσ : σ[j]? = some (some v) := by
          cases e : σ[j]? with
          | none => rw [e] at h2; cases h2
          | some a => rw [e] at h2; cases a with
            | none => cases h2
            | some a => exact congrArg some h2
        have hk := B.freeAt _ hm rfl
        obtain ⟨m, _, hl⟩ := I.loc
        obtain ⟨u, r, lk⟩ := hl j x v hj hσ (hk.elim (fun e => .inr (.inl e)) fun e => .inr (.inr e))
        refine ⟨u, r, .inr ⟨?_, ?_⟩⟩
        · have h3 : (relabel sc X.env).names.lookup x = some .local ∨ (relabel sc X.env).names.lookup x = some .cell ∨ (relabel sc X.env).names.lookup x = some .free := h3
          rcases h3 with h3 | h3 | h3
          · obtain ⟨k', e, q | ⟨_, q⟩⟩ := lookup_relabel_kind h3
            · subst q
              rw [hlk] at e
              cases e
            · cases q
          · exact .inl h3
          · exact .inr h3
        · rcases lk with ⟨k, _⟩ | ⟨_, c, e, z⟩
          · rcases hk with q | q <;> (rw [q] at k; cases k)
          · obtain ⟨c', e'⟩ := clOf_has (acc := []) hm ⟨c, e⟩
            have : c' = c := Option.some.inj ((B.sub x c' e').symm.trans e)
            subst this
            exact ⟨c', e', z.keeps kept⟩
  · obtain ⟨v, z⟩ := I.cell x c (B.sub x c e)
    exact ⟨v, z.keeps kept⟩
  · have hp : p ∈ X.pn ++ pins := by simpa [blk] using hp
    obtain ⟨e, n, ne, nf, d⟩ := I.pin p hp
    refine ⟨kept _ _ e, n, Nat.ne_of_lt (Heap.lt_size e), fun z => ?_, d⟩
    rcases List.mem_cons.mp (I.stkSub _ z) with q | q
    · exact ne q
    · exact nf q
  · unfold capt
    rw [List.length_map]
    exact B.len
theorem blk_end {b : BA} {σ' : St} {H5 : Hp} {s5 : Shared} {h' : Heap} (I3 : Inv X b.pins σ b.H b.s) (hfp : ∀ x ∈ b.fp, FpOk X b.pins b.H x) (I5 : Inv (blk X N sc b) [] σ' H5 s5)
    (sb : Heap.SameBut b.C s5.heap h') : Inv X b.pins σ H5 { s5 with heap := h' } := by
  have hC : b.s.heap.objs.size ≤ b.C := I5.ok.above
  have ne : ∀ c o, b.s.heap.get? c = some o → c ≠ b.C := fun c o e => Nat.ne_of_lt (Nat.lt_of_lt_of_le (Heap.lt_size e) hC)
  have u : Un (frs X.stack) b.fp b.H H5 b.s.heap s5.heap := I5.base
  have hn : H5 b.C = none := I5.free
  refine I3.call' (s' := { s5 with heap := h' }) (ch := b.fp) I5.os ⟨fun c o e n hb hx => (sb.2 c (ne c o e)).trans (u.keep c o e n hb hx), fun c o e n hb hx => ?_, u.free, fun c o e hx => ?_, u.tups, u.frzs, u.tbls⟩ (fun a o e => ?_) I5.bare
    fun x hx => ⟨(hfp x hx).2.2.2.1, (hfp x hx).2.1, (hfp x hx).2.2.2.2.1, (hfp x hx).2.2.2.2.2⟩
  · obtain ⟨sl, q⟩ := u.slot c o e n hb hx
    exact ⟨sl, (sb.2 c (ne c o e)).trans q⟩
  · obtain ⟨o', q⟩ := u.there c o e hx
    exact ⟨o', (sb.2 c (ne c o e)).trans q⟩
  · refine (I5.hok a o e).stay (fun c w' hc q => (sb.2 c ?_).trans q) (fun _ q => q) fun _ _ q => q
    rintro rfl
    rcases hc with z | z
    · rw [← z, hn] at e; cases e
    · rw [hn] at z; cases z
end
def PTs (X : Cx) (ifs : List Expr) (t : TT) : Prop :=
  ∀ (pins : List (Addr × Obj)) (s : Shared) (σ : St) (H : Hp) (Q : Bool → Hp → Prop), Inv X pins σ H s → t σ H Q →
    wpAny (model X.prog X.w) X.A (forIn ifs true fun c r => if r = true then do let ok ← isTrue c X.env (eval c X.env); pure (ForInStep.yield ok) else pure (ForInStep.yield r)) (TP X pins σ Q) X.xe s
def tTrue : TT := fun _ H Q => Q true H
theorem pts_nil {X : Cx} : PTs X [] tTrue := fun pins s σ H Q I h => wpAny_tests_nil ⟨H, I, h⟩
def tLC (wi : TI) (g : TG) (ts : TT) (te : TE) (sel : List (Option Nat)) : TE := fun σ H Q => wi σ H fun J H1 => ∀ acc, H1 acc = none →
  ∃ W : Nat → Nat → St → Hp → Prop, (∃ m, W 0 m (capt σ sel) (upd H1 acc (.lst []))) ∧ ∀ i m σ H, W i m σ H →
    (J.stop i H ∧ Q (.ref acc) H) ∨ (J.go i H ∧ ∃ N : St → Hp → Prop, (∀ σ' H', N σ' H' → ∃ m', m' < m ∧ W (i + 1) m' σ' H') ∧ ∀ x H', J.yld i H x H' → g x σ H' fun σ2 H2 =>
      ts σ2 H2 fun c H3 => if c = true then te σ2 H3 fun v H4 => ∃ ys, H4 acc = some (.lst ys) ∧ ys.length < sizeLine ∧ N σ2 (upd H4 acc (.lst (ys ++ [v]))) else N σ2 H3)
section
variable {X : Cx} {tg iter elt : Expr} {ifs : List Expr} {sc : Scope} {pos : Pos} {wi : TI} {g : TG} {ts : TT} {te : TE} {N : List Str} {sel : List (Option Nat)}
theorem thnF {α : Type} {t : Sem α} {Q Q' : α → Shared → Prop} {M : Model} {A : Around} {E : Value → Shared → Prop} {s : Shared} (h : wpAny M A t Q (fun _ _ => False) s) (hQ : ∀ a s, Q a s → Q' a s) : wpAny M A t Q' E s :=
  wpAny_mono h hQ fun _ _ f => f.elim
theorem comp_blk {pins : List (Addr × Obj)} {σ : St} {H3 : Hp} {s3 : Shared} {acc it : Addr} {fp : List Addr} {tn : Nat → Heap → Prop} {J : It} {RR : Addr → Result → Shared → Prop} {QQ : Hp → Prop} {W : Nat → Nat → St → Hp → Prop} {m0 : Nat} (B : Blk X N sel sc) (hc : X.calm = true)
    (hg : ∀ b, PG (blk X N sc b) tg g) (ht : ∀ b, PTs (blk X N sc b) ifs ts) (he : ∀ b, PE (blk X N sc b) elt te) (I3 : Inv X pins σ H3 s3) (T : Turn X.prog X.w X.K tg J fp it tn) (st3 : tn 0 s3.heap) (f3 : ∀ b ∈ fp, FpOk X pins H3 b)
    (w0 : W 0 m0 (capt σ sel) H3)
    (turn : ∀ i m σ H, W i m σ H → (J.stop i H ∧ QQ H) ∨ (J.go i H ∧ ∃ N : St → Hp → Prop, (∀ σ' H', N σ' H' → ∃ m', m' < m ∧ W (i + 1) m' σ' H') ∧ ∀ x H', J.yld i H x H' → g x σ H' fun σ2 H2 =>
      ts σ2 H2 fun c H3 => if c = true then te σ2 H3 fun v H4 => ∃ ys, H4 acc = some (.lst ys) ∧ ys.length < sizeLine ∧ N σ2 (upd H4 acc (.lst (ys ++ [v]))) else N σ2 H3))
    (hRR : ∀ C H5 s5 m, s5.heap.Ns C m → (∀ h', Heap.SameBut C s5.heap h' → Inv X pins σ H5 { s5 with heap := h' }) → H5 C = none → C ≠ X.env.locals → (∀ x c, X.env.cells.lookup x = some c → c ≠ C) → X.s₀.heap.objs.size ≤ C → (∀ p ∈ X.pn ++ pins, p.1 ≠ C) → QQ H5 → RR C (.ok .next) s5) :
    wpAny (model X.prog X.w) X.A (newFunctionEnv sc X.env.globals (clOf X.env sc.names []) [] X.env.qual none .none (some X.env)) (fun cenv s4 =>
        codeAny (model X.prog X.w) X.A (.compStart (.ListComp elt [⟨tg, iter, ifs, 0⟩] sc pos) 0 (.ref it) (.ref acc) { cenv with scope := relabel sc X.env }) (RR cenv.locals) s4) X.xe s3 := by
  refine wpAny_newFunctionEnv (fun y hy z => ?_) (by intro y hy; simp at hy) (fun h4 hn4 sb4 => ?_) B.kind
  · have := List.all_eq_true.mp B.nocell y hy
    rw [z] at this
    simp at this
  have ob3 : ∀ b ∈ fp, ∃ o, s3.heap.get? b = some o := fun b hb => by
    obtain ⟨o, e, _⟩ := T.obj _ _ st3 b hb
    exact ⟨o, e⟩
  have kept : ∀ b o, s3.heap.get? b = some o → h4.get? b = some o := fun b o e => (sb4.2 b (Nat.ne_of_lt (Heap.lt_size e))).trans (Heap.get?_push_of_some _ e)
  have st4 : tn 0 h4 := T.keep _ _ _ st3 fun b hb o e => kept b o e
  have I4 := blk_start (tk := s3.toks + ([] : List (Str × Value)).length) B I3 f3 ob3 (by simpa using hn4) sb4
  generalize hb : (⟨fp, pins, s3, H3, s3.heap.objs.size⟩ : BA) = b at I4
  have bfp : b.fp = fp := by rw [← hb]
  have bpins : b.pins = pins := by rw [← hb]
  have bs : b.s = s3 := by rw [← hb]
  have bH : b.H = H3 := by rw [← hb]
  have bC : b.C = s3.heap.objs.size := by rw [← hb]
  have fpb : ∀ {H' : Hp}, (∀ x ∈ fp, H' x = none) → ∀ x ∈ fp, FpOk (blk X N sc b) [] H' x := fun {H'} hn x hx => by
    refine ⟨hn x hx, ?_, fun z => ?_, .inl ?_, fun y c e => (f3 x hx).2.2.2.2.1 y c (B.sub y c e), fun p hp => ?_⟩
    · show x ≠ b.C
      rw [bC]
      obtain ⟨o, e⟩ := ob3 x hx
      exact Nat.ne_of_lt (Heap.lt_size e)
    · rcases List.mem_cons.mp (I3.stkSub x z) with q | q
      · exact (f3 x hx).2.1 q
      · exact (f3 x hx).2.2.1 q
    · show x ∈ b.fp
      rw [bfp]; exact hx
    · have hp : p ∈ X.pn ++ b.pins := by simpa [blk] using hp
      rw [bpins] at hp
      exact (f3 x hx).2.2.2.2.2 p hp
  have loop : ∀ s5 : Shared, s5 = { s3 with heap := h4, toks := s3.toks + ([] : List (Str × Value)).length } →
      codeAny (model X.prog X.w) X.A (.compLoop (.ListComp elt [⟨tg, iter, ifs, 0⟩] sc pos) 0 (.ref it) (.ref acc) (blk X N sc b).env) (RR s3.heap.objs.size) s5 := by
    rintro s5 rfl
    refine codeAny_loop rfl (fun n s' => ∃ i σ' H', Inv (blk X N sc b) [] σ' H' s' ∧ tn i s'.heap ∧ (∀ x ∈ fp, H' x = none) ∧ W i n σ' H') (fun n s6 hI => ?_) m0 ⟨0, _, _, I4, st4, fun x hx => (f3 x hx).1, w0⟩
    obtain ⟨i, σ6, H6, I6, st6, fr6, w6⟩ := hI
    show wpAny _ X.A ((compTurn (.ListComp elt [⟨tg, iter, ifs, 0⟩] sc pos) 0 (.ref it) (.ref acc) (blk X N sc b).env).onRaise (fun x => do noteFrame x (blk X N sc b).env; theTreesLotGoes x)) _ _ s6
    refine wpAny_noted ?_
    rw [compTurn_list]
    rcases turn i n σ6 H6 w6 with ⟨stop, qn⟩ | ⟨go, NN, hNN, step⟩
    · refine wpAny_bind (wpAny_standAt (wpAny_bind (thnF (T.done (blk X N sc b) rfl rfl rfl hc i [] s6 σ6 H6 _ I6 (fpb fr6) st6 stop) fun r s7 ⟨hr, I7⟩ => ?_)))
      subst hr
      refine wpAny_pure ?_
      obtain ⟨m7, hn7, _⟩ := I7.loc
      have hn7 : s7.heap.Ns b.C m7 := hn7
      have I3' : Inv X b.pins σ b.H b.s := by rw [bpins, bH, bs]; exact I3
      refine hRR _ H6 s7 m7 (by rw [← bC]; exact hn7) (fun h' sb => ?_) (by rw [← bC]; exact I7.free) ?_ (fun x c e z => ?_) I3.sz (fun p hp => Nat.ne_of_lt (Heap.lt_size (I3.pin p hp).1)) qn
      · rw [← bC] at sb
        have := blk_end (b := b) I3' (fun x hx => by rw [bfp] at hx; rw [bpins, bH]; exact f3 x hx) I7 sb
        rw [bpins] at this
        exact this
      · exact Ne.symm (Nat.ne_of_lt I3.lt)
      · obtain ⟨v, o, ho, _⟩ := I3.cell x c e
        rw [z] at ho
        exact absurd (Heap.lt_size ho) (Nat.lt_irrefl _)
    · refine wpAny_bind (wpAny_standAt (wpAny_bind (thnF (T.item (blk X N sc b) rfl rfl rfl hc i [] s6 σ6 H6 _ I6 (fpb fr6) st6 go) fun r s7 ⟨u, hr, h7⟩ => ?_)))
      subst hr
      refine wpAny_bind (thnF h7 fun _ s8 ⟨x, H8, I8, r8, y8, st8, fr8⟩ => ?_)
      have I8' := I8.pinned (fpb fr8) (T.obj _ _ st8)
      refine wpAny_bind (thnF (hg b _ s8 σ6 H8 x u _ I8' r8 (step x H8 y8)) fun _ s9 ⟨σ9, H9, I9, q9⟩ => ?_)
      refine wpAny_bind (thnF (ht b _ s9 σ9 H9 _ I9 q9) fun ok s10 ⟨H10, I10, q10⟩ => ?_)
      have again : ∀ {sA : Shared} {σ7 : St} {H7 : Hp}, Inv (blk X N sc b) ([] ++ pinsAt fp s8.heap) σ7 H7 sA → NN σ7 H7 → ∃ m, m < n ∧ ∃ i σ' H', Inv (blk X N sc b) [] σ' H' sA ∧ tn i sA.heap ∧ (∀ x ∈ fp, H' x = none) ∧ W i m σ' H' := fun {sA σ7 H7} I7 n7 => by
        obtain ⟨m', hm, w7⟩ := hNN σ7 H7 n7
        refine ⟨m', hm, i + 1, σ7, H7, I7.unpinned, T.keep _ _ _ st8 fun b hb o e => (I7.pin (b, o) (List.mem_append_right _ (List.mem_append_right _ (mem_pinsAt hb e)))).1, fun b hb => ?_, w7⟩
        obtain ⟨o, e, d⟩ := T.obj _ _ st8 b hb
        exact (I7.pin (b, o) (List.mem_append_right _ (List.mem_append_right _ (mem_pinsAt hb e)))).2.1
      cases ok with
      | false =>
        exact wpAny_pure ⟨rfl, again I10 q10⟩
      | true =>
        have q10 : te σ9 H10 _ := q10
        refine wpAny_bind (wpAny_bind (thnF (he b _ s10 σ9 H10 _ I10 q10) fun u' s11 ⟨v, H11, I11, r11, ys, ha, hz, nn⟩ => ?_))
        refine wpAny_bind (thnF (mt_append (X := blk X N sc b) _ s11 σ9 H11 (.ref acc) [v] (.ref acc) [u'] (fun _ H12 => NN σ9 H12) I11 rfl (.cons r11 .nil) ⟨_, ys, v, rfl, rfl, ha, hz, nn⟩) fun _ s12 ⟨_, H12, I12, _, n12⟩ => ?_)
        exact wpAny_pure (wpAny_pure ⟨rfl, again I12 n12⟩)
  have env_eq : (blk X N sc b).env = compEnvC sc (clOf X.env sc.names []) s3.heap.objs.size X.env := by
    show compEnvC sc (clOf X.env sc.names []) b.C X.env = _
    rw [bC]
  show codeAny (model X.prog X.w) X.A (.compStart (.ListComp elt [⟨tg, iter, ifs, 0⟩] sc pos) 0 (.ref it) (.ref acc) (compEnvC sc (clOf X.env sc.names []) s3.heap.objs.size X.env)) (RR s3.heap.objs.size) _
  rw [← env_eq]
  exact codeAny_compStart_list (loop _ rfl) (T.self _ _ _ _ _ st4 (loop _ rfl))
theorem comp_run {pins : List (Addr × Obj)} {s : Shared} {σ : St} {H : Hp} {Q : VK} {RR : Value → Addr → Result → Shared → Prop} (B : Blk X N sel sc) (hc : X.calm = true)
    (hi : PI X tg iter wi) (hg : ∀ b, PG (blk X N sc b) tg g) (ht : ∀ b, PTs (blk X N sc b) ifs ts) (he : ∀ b, PE (blk X N sc b) elt te) (I : Inv X pins σ H s) (h : tLC wi g ts te sel σ H Q)
    (hRR : ∀ acc C H5 s5 m, s5.heap.Ns C m → (∀ h', Heap.SameBut C s5.heap h' → Inv X pins σ H5 { s5 with heap := h' }) → H5 C = none → C ≠ X.env.locals → (∀ x c, X.env.cells.lookup x = some c → c ≠ C) → X.s₀.heap.objs.size ≤ C → (∀ p ∈ X.pn ++ pins, p.1 ≠ C) → Q (.ref acc) H5 → RR (.ref acc) C (.ok .next) s5) :
    wpAny (model X.prog X.w) X.A (eval iter X.env) (fun v s1 => wpAny (model X.prog X.w) X.A (pyIter v) (fun it s2 => wpAny (model X.prog X.w) X.A (newList []) (fun acc s3 =>
      wpAny (model X.prog X.w) X.A (newFunctionEnv sc X.env.globals (clOf X.env sc.names []) [] X.env.qual none .none (some X.env)) (fun cenv s4 =>
        codeAny (model X.prog X.w) X.A (.compStart (.ListComp elt [⟨tg, iter, ifs, 0⟩] sc pos) 0 it acc { cenv with scope := relabel sc X.env }) (RR acc cenv.locals) s4) X.xe s3) X.xe s2) X.xe s1) X.xe s := by
  refine thn (hi pins s σ H _ I h) fun v s1 h1 => thn h1 fun itv s2 h2 => ?_
  obtain ⟨it, fp, tn, J, H2, e, I2, T, st2, f2, q⟩ := h2
  subst e
  obtain ⟨W, ⟨m0, w0⟩, turn⟩ := q _ I2.fresh
  have I3 : Inv X pins σ (upd H2 s2.heap.objs.size (.lst [])) { s2 with heap := s2.heap.push { cls := .type "list", data := .seq ([] : List Value).toArray }, toks := s2.toks } := I2.lnew (ys := []) (its := []) (t' := s2.toks) .nil (Nat.zero_le _)
  have fne : ∀ b ∈ fp, b ≠ s2.heap.objs.size := fun b hb => by
    obtain ⟨o, e, _⟩ := T.obj _ _ st2 b hb
    exact Nat.ne_of_lt (Heap.lt_size e)
  have f3 : ∀ b ∈ fp, FpOk X pins (upd H2 s2.heap.objs.size (.lst [])) b := fun b hb => ⟨by rw [upd_ne (fne b hb)]; exact (f2 b hb).1, (f2 b hb).2⟩
  refine wpAny_newObj_type ?_
  exact comp_blk (QQ := Q (.ref s2.heap.objs.size)) (RR := fun C => RR (.ref s2.heap.objs.size) C) B hc hg ht he I3 T (T.keep _ _ _ st2 fun b hb o e => Heap.get?_push_of_some _ e) f3 w0 turn fun C H5 s5 m => hRR _ C H5 s5 m
theorem pe_lc (B : Blk X N sel sc) (hc : X.calm = true) (hi : PI X tg iter wi) (hg : ∀ b, PG (blk X N sc b) tg g) (ht : ∀ b, PTs (blk X N sc b) ifs ts) (he : ∀ b, PE (blk X N sc b) elt te)
    (hs : ∀ x, foldedSetIterable iter X.env x = pure x := by intro _; rfl) : PE X (.ListComp elt [⟨tg, iter, ifs, 0⟩] sc pos) (tLC wi g ts te sel) := by
  intro pins s σ H Q I h
  rw [eval_ListComp]
  refine wpAny_comprehension_free (use := none) (cl := clOf X.env sc.names []) rfl hs (closureFor_eq (B.has I.ok)) B.kind (fun y hy hl => ?_) ?_
  · have := List.all_eq_true.mp B.names y hy
    rw [hl] at this
    simpa using this
  · refine comp_run (RR := fun acc C => compPost (model X.prog X.w) X.A X.xe none (EP X pins σ Q) acc C) B hc hi hg ht he I h ?_
    intro acc C H5 s5 m hn hI _ _ _ _ _ q
    exact ⟨m, hn, fun h' sb => ⟨.ref acc, H5, hI h' sb, rfl, q⟩⟩
end
end L2
namespace L2
open PySem PySem.Spec PyProof.Rows
def excP (C a : Addr) : Heap → Prop := fun h => ∃ o, h.get? a = some o ∧ o.cls = .ref C
end L2
namespace DL
open PySem PySem.Spec PyProof.Rows L2
abbrev St := L2.St
inductive D where
  | non | bl (b : Bool) | int (i : Int) | str (x : Str) | tup (xs : List D) | lst (xs : List D)
  | scr (ns : List Int)
  | exc (c : Str)
inductive Sl where
  | no | sh (d : D) | ow (ds : List D)
  | nw (xss : List (List D))
abbrev DSt := List Sl
inductive DV where
  | val (d : D) | slot (i : Nat) | own (ds : List D)
inductive Rs (α : Type) where
  | un | er (c : Str) | ok (a : α) (δ : DSt)
abbrev DM (α : Type) := DSt → Rs α
def DM.ret {α : Type} (a : α) : DM α := fun δ => .ok a δ
def DM.bd {α β : Type} (f : DM α) (g : α → DM β) : DM β := fun δ => match f δ with | .un => .un | .er c => .er c | .ok a δ' => g a δ'
abbrev Om := Addr → Option Nat
def ShL (H : Hp) (Ω : Om) (a : Addr) (xs : List V) : Prop := Rd H a (.lst xs) ∧ Ω a = none
def KL (K : PySem.W.Frag) (H : Hp) (a : Addr) (xs : List V) : Prop := (∃ o, H a = some (.frz o (.lst xs))) ∨
  ∃ (o : Obj) (its : Array Value) (n : Nat), K.lookup a = some o ∧ o.cls = .type "list" ∧ o.dict = none ∧ o.data = .seq its n ∧ its.size ≤ sizeLine ∧ Vals xs its.toList
theorem KL.sq {K : PySem.W.Frag} {H : Hp} {a : Addr} {xs : List V} (h : KL K H a xs) : SqL K H a xs := h.elim (fun ⟨o, z⟩ => .inl (.inr ⟨o, z⟩)) .inr
mutual
def Rep (K : PySem.W.Frag) (H : Hp) (Ω : Om) : D → V → Prop
  | .non, v => v = .non
  | .bl b, v => v = .bl b
  | .int i, v => v = .int i
  | .str x, v => v = .str x
  | .tup ds, v => ∃ a vs, v = .ref a ∧ SqT K H a vs ∧ Reps K H Ω ds vs
  | .lst ds, v => ∃ a vs, v = .ref a ∧ ShL H Ω a vs ∧ Reps K H Ω ds vs
  | .scr ns, v => ∃ a, v = .ref a ∧ KL K H a (ns.map V.int)
  | .exc c, v => ∃ a C, v = .ref a ∧ PySem.W.nsIn K mainGlobals c = some (some (.ref C)) ∧ H a = some (.ext (excP C a))
def Reps (K : PySem.W.Frag) (H : Hp) (Ω : Om) : List D → List V → Prop
  | [], vs => vs = []
  | d :: ds, vs => ∃ v r, vs = v :: r ∧ Rep K H Ω d v ∧ Reps K H Ω ds r
end
structure Ext (H : Hp) (Ω : Om) (H' : Hp) (Ω' : Om) : Prop where
  keep : ∀ b o, H b = some o → ((∀ vs, o ≠ .lst vs) ∨ Ω b = none ∨ Ω b = some 0) → H' b = some o
  new : ∀ b, Ω b = none → H b ≠ none → Ω' b = none
  fr : ∀ b, Ω b = some 0 ↔ Ω' b = some 0
  live : ∀ b, H' b = none → H b = none
section
variable {K : PySem.W.Frag} {H H1 H2 H' : Hp} {Ω Ω1 Ω2 Ω' : Om}
theorem Ext.refl : Ext H Ω H Ω := ⟨fun _ _ e _ => e, fun _ e _ => e, fun _ => Iff.rfl, fun _ e => e⟩
theorem Ext.trans (a : Ext H Ω H1 Ω1) (b : Ext H1 Ω1 H2 Ω2) : Ext H Ω H2 Ω2 where
  keep := fun x o e h => b.keep x o (a.keep x o e h) (h.imp_right fun z => z.imp (fun z => a.new x z (by rw [e]; exact Option.some_ne_none _)) fun z => (a.fr x).mp z)
  new := fun x e h => b.new x (a.new x e h) fun z => h (a.live x z)
  fr := fun x => (a.fr x).trans (b.fr x)
  live := fun x e => a.live x (b.live x e)
theorem Rd.ext {a : Addr} {u : HO} (e : Ext H Ω H' Ω') (h : Rd H a u) (hq : (∀ vs, u ≠ .lst vs) ∨ Ω a = none) : Rd H' a u := by
  rcases h with h | ⟨o, h⟩
  · exact .inl (e.keep a _ h (hq.imp_right .inl))
  · exact .inr ⟨o, e.keep a _ h (.inl fun vs z => by cases z)⟩
theorem SqT.ext {a : Addr} {xs : List V} (e : Ext H Ω H' Ω') (h : SqT K H a xs) : SqT K H' a xs :=
  h.imp (fun z => Rd.ext e z (.inl fun vs z => by cases z)) id
theorem Rd.some {a : Addr} {u : HO} (h : Rd H a u) : H a ≠ none := by
  rcases h with h | ⟨o, h⟩ <;> rw [h] <;> exact Option.some_ne_none _
theorem ShL.ext {a : Addr} {xs : List V} (e : Ext H Ω H' Ω') (h : ShL H Ω a xs) : ShL H' Ω' a xs :=
  ⟨Rd.ext e h.1 (.inr h.2), e.new a h.2 (Rd.some h.1)⟩
mutual
theorem Rep.ext (e : Ext H Ω H' Ω') : ∀ {d : D} {v : V}, Rep K H Ω d v → Rep K H' Ω' d v
  | .non, _, h => h
  | .bl _, _, h => h
  | .int _, _, h => h
  | .str _, _, h => h
  | .tup _, _, h => by
    obtain ⟨a, vs, e1, e2, e3⟩ := (show ∃ a vs, _ from h)
    exact (show ∃ a vs, _ from ⟨a, vs, e1, SqT.ext e e2, Reps.ext e e3⟩)
  | .lst _, _, h => by
    obtain ⟨a, vs, e1, e2, e3⟩ := (show ∃ a vs, _ from h)
    exact (show ∃ a vs, _ from ⟨a, vs, e1, ShL.ext e e2, Reps.ext e e3⟩)
  | .scr _, _, h => by
    obtain ⟨a, e1, e2⟩ := (show ∃ a, _ from h)
    exact (show ∃ a, _ from ⟨a, e1, e2.imp (fun ⟨o, z⟩ => ⟨o, e.keep a _ z (.inl fun vs q => by cases q)⟩) id⟩)
  | .exc _, _, h => by
    obtain ⟨a, C, e1, e2, e3⟩ := (show ∃ a C, _ from h)
    exact (show ∃ a C, _ from ⟨a, C, e1, e2, e.keep a _ e3 (.inl fun vs q => by cases q)⟩)
theorem Reps.ext (e : Ext H Ω H' Ω') : ∀ {ds : List D} {vs : List V}, Reps K H Ω ds vs → Reps K H' Ω' ds vs
  | [], _, h => h
  | _ :: _, _, h => by
    obtain ⟨v, r, e1, e2, e3⟩ := (show ∃ v r, _ from h)
    exact (show ∃ v r, _ from ⟨v, r, e1, Rep.ext e e2, Reps.ext e e3⟩)
end
theorem Reps.length : ∀ {ds : List D} {vs : List V}, Reps K H Ω ds vs → ds.length = vs.length
  | [], _, h => by cases (show _ = [] from h); rfl
  | _ :: _, _, h => by
    obtain ⟨v, r, e1, e2, e3⟩ := (show ∃ v r, _ from h)
    subst e1
    rw [List.length_cons, List.length_cons, Reps.length e3]
theorem Reps.nil : Reps K H Ω [] [] := rfl
theorem Reps.cons {d : D} {ds : List D} {v : V} {vs : List V} (h : Rep K H Ω d v) (r : Reps K H Ω ds vs) : Reps K H Ω (d :: ds) (v :: vs) := ⟨v, vs, rfl, h, r⟩
theorem Reps.get : ∀ {ds : List D} {vs : List V} {i : Nat} {d : D}, Reps K H Ω ds vs → ds[i]? = some d → ∃ v, vs[i]? = some v ∧ Rep K H Ω d v
  | [], _, _, _, _, e => by simp at e
  | d :: ds, _, 0, d', h, e => by
    obtain ⟨v, r, e1, e2, e3⟩ := (show ∃ v r, _ from h)
    subst e1
    have : d = d' := by simpa using e
    subst this
    exact ⟨v, rfl, e2⟩
  | _ :: ds, _, i + 1, d', h, e => by
    obtain ⟨v, r, e1, e2, e3⟩ := (show ∃ v r, _ from h)
    subst e1
    obtain ⟨w, q1, q2⟩ := Reps.get (i := i) e3 (by simpa using e)
    exact ⟨w, by simpa using q1, q2⟩
theorem Reps.append : ∀ {ds es : List D} {vs ws : List V}, Reps K H Ω ds vs → Reps K H Ω es ws → Reps K H Ω (ds ++ es) (vs ++ ws)
  | [], _, _, _, h, q => by cases (show _ = [] from h); exact q
  | _ :: _, _, _, _, h, q => by
    obtain ⟨v, r, e1, e2, e3⟩ := (show ∃ v r, _ from h)
    subst e1
    exact .cons e2 (Reps.append e3 q)
theorem Reps.drop : ∀ {ds : List D} {vs : List V} (n : Nat), Reps K H Ω ds vs → Reps K H Ω (ds.drop n) (vs.drop n)
  | _, _, 0, h => h
  | [], _, _ + 1, h => by cases (show _ = [] from h); exact .nil
  | _ :: _, _, n + 1, h => by
    obtain ⟨v, r, e1, e2, e3⟩ := (show ∃ v r, _ from h)
    subst e1
    exact Reps.drop n e3
theorem Reps.take : ∀ {ds : List D} {vs : List V} (n : Nat), Reps K H Ω ds vs → Reps K H Ω (ds.take n) (vs.take n)
  | _, _, 0, _ => .nil
  | [], _, _ + 1, h => by cases (show _ = [] from h); exact .nil
  | _ :: _, _, n + 1, h => by
    obtain ⟨v, r, e1, e2, e3⟩ := (show ∃ v r, _ from h)
    subst e1
    exact .cons e2 (Reps.take n e3)
theorem Reps.reverse : ∀ {ds : List D} {vs : List V}, Reps K H Ω ds vs → Reps K H Ω ds.reverse vs.reverse
  | [], _, h => by cases (show _ = [] from h); exact .nil
  | _ :: _, _, h => by
    obtain ⟨v, r, e1, e2, e3⟩ := (show ∃ v r, _ from h)
    subst e1
    rw [List.reverse_cons, List.reverse_cons]
    exact (Reps.reverse e3).append (.cons e2 .nil)
theorem Reps.set {d : D} {v : V} (h1 : Rep K H Ω d v) : ∀ {ds : List D} {vs : List V} (n : Nat), Reps K H Ω ds vs → Reps K H Ω (ds.set n d) (vs.set n v)
  | [], _, _, h => by cases (show _ = [] from h); exact .nil
  | _ :: _, _, 0, h => by
    obtain ⟨v, r, e1, e2, e3⟩ := (show ∃ v r, _ from h)
    subst e1
    exact .cons h1 e3
  | _ :: _, _, n + 1, h => by
    obtain ⟨v, r, e1, e2, e3⟩ := (show ∃ v r, _ from h)
    subst e1
    exact .cons e2 (Reps.set h1 n e3)
end
def Nst (K : PySem.W.Frag) (H : Hp) (Ω : Om) (k : Nat) (xss : List (List D)) (bs : List Addr) : Prop := ∀ (j : Nat) b xs, bs[j]? = some b → xss[j]? = some xs → ∃ ws, H b = some (.lst ws) ∧ Ω b = some k ∧ Reps K H Ω xs ws
def RepSl (K : PySem.W.Frag) (H : Hp) (Ω : Om) (i : Nat) : Sl → Option V → Prop
  | .no, _ => True
  | .sh d, o => ∃ v, o = some v ∧ Rep K H Ω d v
  | .ow ds, o => ∃ a vs, o = some (.ref a) ∧ H a = some (.lst vs) ∧ Ω a = some (i + 2) ∧ Reps K H Ω ds vs
  | .nw xss, o => ∃ (a : Addr) (bs : List Addr), o = some (.ref a) ∧ H a = some (.lst (bs.map V.ref)) ∧ Ω a = some (i + 2) ∧ (a :: bs).Nodup ∧ bs.length = xss.length ∧ Nst K H Ω (i + 2) xss bs
structure RepS (K : PySem.W.Frag) (H : Hp) (Ω : Om) (σ : St) (δ : DSt) : Prop where
  len : δ.length = σ.length
  sl : ∀ (i : Nat) s, δ[i]? = some s → RepSl K H Ω i s (σ[i]?).join
  trk : ∀ a k, Ω a = some k → ∃ vs, H a = some (.lst vs)
def RepDV (K : PySem.W.Frag) (H : Hp) (Ω : Om) (σ : St) : DV → V → Prop
  | .val d, v => Rep K H Ω d v
  | .slot i, v => σ[i]? = some (some v)
  | .own ds, v => ∃ a vs, v = .ref a ∧ H a = some (.lst vs) ∧ Ω a = some 1 ∧ Reps K H Ω ds vs
def Trk (H : Hp) (Ω : Om) : Prop := ∀ a k, Ω a = some k → ∃ vs, H a = some (.lst vs)
def Wg {α : Type} (E : Str → Hp → Prop) (H : Hp) (Ω : Om) (P : α → DSt → Hp → Om → Prop) (r : Rs α) : Prop := match r with
  | .un => False
  | .er c => ∀ H' Ω', Ext H Ω H' Ω' → Trk H' Ω' → E c H'
  | .ok a δ' => ∀ H' Ω', Ext H Ω H' Ω' → P a δ' H' Ω'
def RepDVs (K : PySem.W.Frag) (H : Hp) (Ω : Om) (σ : St) : List DV → List V → Prop
  | [], vs => vs = []
  | a :: as, vs => ∃ v r, vs = v :: r ∧ RepDV K H Ω σ a v ∧ RepDVs K H Ω σ as r
def DV.st : DV → Bool
  | .own _ => false
  | _ => true
abbrev PV (K : PySem.W.Frag) (σ : St) (Q : VK) : DV → DSt → Hp → Om → Prop := fun a δ' H' Ω' => RepS K H' Ω' σ δ' → ∀ v, RepDV K H' Ω' σ a v → Q v H'
abbrev PB (K : PySem.W.Frag) (σ : St) (Q : Bool → Hp → Prop) : Bool → DSt → Hp → Om → Prop := fun b δ' H' Ω' => RepS K H' Ω' σ δ' → Q b H'
abbrev PVs (K : PySem.W.Frag) (σ : St) (Q : List V → Hp → Prop) : List DV → DSt → Hp → Om → Prop := fun as δ' H' Ω' => RepS K H' Ω' σ δ' → ∀ vs, RepDVs K H' Ω' σ as vs → (∀ a ∈ as, a.st = true) → Q vs H'
inductive Fl where
  | nx | bk | ct | rt (d : D) | rto (ds : List D)
def FlQ (K : PySem.W.Frag) (H : Hp) (Ω : Om) (σ : St) (B : Ends) : Fl → Prop
  | .nx => B.nx σ H
  | .bk => B.bk σ H
  | .ct => B.ct σ H
  | .rt d => ∀ v, Rep K H Ω d v → B.rt v H
  | .rto ds => ∀ v, RepDV K H Ω σ (.own ds) v → B.rt v H
abbrev PF (K : PySem.W.Frag) (mp : List Nat) (σ : St) (B : Ends) : Fl → DSt → Hp → Om → Prop := fun fl δ' H' Ω' => ∀ σ', RepS K H' Ω' σ' δ' → (∀ j ∈ mp, σ'[j]? = σ[j]?) → FlQ K H' Ω' σ' B fl
def DE (K : PySem.W.Frag) (E : Str → Hp → Prop) (te : TE) (f : DM DV) : Prop := ∀ σ H δ Ω, RepS K H Ω σ δ → ∀ Q, Wg E H Ω (PV K σ Q) (f δ) → te σ H Q
def DT (K : PySem.W.Frag) (E : Str → Hp → Prop) (tt : TT) (f : DM Bool) : Prop := ∀ σ H δ Ω, RepS K H Ω σ δ → ∀ Q, Wg E H Ω (PB K σ Q) (f δ) → tt σ H Q
def DA (K : PySem.W.Frag) (E : Str → Hp → Prop) (ta : TA) (f : DM (List DV)) : Prop := ∀ σ H δ Ω, RepS K H Ω σ δ → ∀ Q, Wg E H Ω (PVs K σ Q) (f δ) → ta σ H Q
def DS (K : PySem.W.Frag) (E : Str → Hp → Prop) (mp : List Nat) (ts : TS) (f : DM Fl) : Prop := ∀ σ H δ Ω, RepS K H Ω σ δ → ∀ B, Wg E H Ω (PF K mp σ B) (f δ) → ts B σ H
section
variable {K : PySem.W.Frag} {E : Str → Hp → Prop} {H H1 H2 H' : Hp} {Ω Ω1 Ω2 Ω' : Om} {σ : St} {δ : DSt}
theorem Wg.ext {α : Type} {P : α → DSt → Hp → Om → Prop} {r : Rs α} (h : Wg E H Ω P r) (e : Ext H Ω H' Ω') : Wg E H' Ω' P r := by
  cases r with
  | un => exact h
  | er c => exact fun H2 Ω2 e2 => h H2 Ω2 (e.trans e2)
  | ok a δ' => exact fun H2 Ω2 e2 => h H2 Ω2 (e.trans e2)
theorem Wg.imp {α : Type} {P P' : α → DSt → Hp → Om → Prop} {r : Rs α} (h : Wg E H Ω P r) (hp : ∀ a δ' H' Ω', Ext H Ω H' Ω' → P a δ' H' Ω' → P' a δ' H' Ω') : Wg E H Ω P' r := by
  cases r with
  | un => exact h
  | er c => exact h
  | ok a δ' => exact fun H2 Ω2 e2 => hp _ _ _ _ e2 (h H2 Ω2 e2)
theorem Wg.bd {α β : Type} {f : DM α} {g : α → DM β} {P : β → DSt → Hp → Om → Prop} (h : Wg E H Ω P (f.bd g δ)) {P1 : α → DSt → Hp → Om → Prop}
    (k : ∀ a δ' H' Ω', Ext H Ω H' Ω' → Wg E H' Ω' P (g a δ') → P1 a δ' H' Ω') : Wg E H Ω P1 (f δ) := by
  unfold DM.bd at h
  cases e : f δ with
  | un => rw [e] at h; exact h
  | er c => rw [e] at h; exact h
  | ok a δ' => rw [e] at h; exact fun H' Ω' ex => k a δ' H' Ω' ex (Wg.ext h ex)
theorem RepDV.ext {a : DV} {v : V} (h : RepDV K H Ω σ a v) (ha : a.st = true) (e : Ext H Ω H' Ω') : RepDV K H' Ω' σ a v := by
  cases a with
  | val d => exact Rep.ext e h
  | slot i => exact h
  | own ds => cases ha
theorem RepDVs.ext : ∀ {as : List DV} {vs : List V}, RepDVs K H Ω σ as vs → (∀ a ∈ as, a.st = true) → Ext H Ω H' Ω' → RepDVs K H' Ω' σ as vs
  | [], _, h, _, _ => h
  | _ :: _, _, h, ha, e => by
    obtain ⟨v, r, e1, e2, e3⟩ := h
    exact ⟨v, r, e1, e2.ext (ha _ List.mem_cons_self) e, e3.ext (fun a q => ha a (List.mem_cons_of_mem _ q)) e⟩
theorem Wg.now {d : DV} {v : V} {Q : VK} (h : Wg E H Ω (PV K σ Q) (.ok d δ)) (R : RepS K H Ω σ δ) (r : RepDV K H Ω σ d v) : Q v H := h H Ω .refl R v r
theorem Wg.nowB {b : Bool} {Q : Bool → Hp → Prop} (h : Wg E H Ω (PB K σ Q) (.ok b δ)) (R : RepS K H Ω σ δ) : Q b H := h H Ω .refl R
def own1 (Ω : Om) (p : Addr) : Om := fun b => if b = p then some 1 else Ω b
def freed (Ω : Om) (p : Addr) : Om := fun b => if b = p then none else Ω b
theorem Ext.alloc {p : Addr} {o : HO} (hp : H p = none) (trk : ∀ a k, Ω a = some k → ∃ vs, H a = some (.lst vs)) : Ext H Ω (upd H p o) Ω where
  keep := fun b o' e _ => by rw [upd_ne (ne_of_none e hp)]; exact e
  new := fun _ e _ => e
  fr := fun _ => Iff.rfl
  live := fun b e => by
    unfold upd at e
    split at e
    · cases e
    · exact e
theorem Ext.alloc1 {p : Addr} {xs : List V} (hp : H p = none) (trk : ∀ a k, Ω a = some k → ∃ vs, H a = some (.lst vs)) : Ext H Ω (upd H p (.lst xs)) (own1 Ω p) where
  keep := fun b o' e _ => by rw [upd_ne (ne_of_none e hp)]; exact e
  new := fun b e h => by
    unfold own1
    rw [if_neg (fun z => h (by rw [z]; exact hp))]
    exact e
  fr := fun b => by
    unfold own1
    split
    · rename_i z
      subst z
      constructor
      · intro q
        obtain ⟨vs, e⟩ := trk _ _ q
        rw [hp] at e; cases e
      · intro q; cases q
    · exact Iff.rfl
  live := fun b e => by
    unfold upd at e
    split at e
    · cases e
    · exact e
theorem Ext.free {p : Addr} {k : Nat} (hp : Ω p = some (k + 1)) : Ext H Ω H (freed Ω p) where
  keep := fun b o' e _ => e
  new := fun b e h => by unfold freed; split <;> first | rfl | exact e
  fr := fun b => by
    unfold freed
    split
    · rename_i z
      subst z
      rw [hp]
      constructor <;> intro q <;> cases q
    · exact Iff.rfl
  live := fun b e => e
theorem ShL.less {a : Addr} {xs : List V} (h : ShL H Ω a xs) (hl : ∀ b, Ω b = none → Ω' b = none) : ShL H Ω' a xs := ⟨h.1, hl a h.2⟩
mutual
theorem Rep.less (hl : ∀ b, Ω b = none → Ω' b = none) : ∀ {d : D} {v : V}, Rep K H Ω d v → Rep K H Ω' d v
  | .non, _, h => h
  | .bl _, _, h => h
  | .int _, _, h => h
  | .str _, _, h => h
  | .tup _, _, h => by
    obtain ⟨a, vs, e1, e2, e3⟩ := (show ∃ a vs, _ from h)
    exact (show ∃ a vs, _ from ⟨a, vs, e1, e2, Reps.less hl e3⟩)
  | .lst _, _, h => by
    obtain ⟨a, vs, e1, e2, e3⟩ := (show ∃ a vs, _ from h)
    exact (show ∃ a vs, _ from ⟨a, vs, e1, e2.less hl, Reps.less hl e3⟩)
  | .scr _, _, h => h
  | .exc _, _, h => h
theorem Reps.less (hl : ∀ b, Ω b = none → Ω' b = none) : ∀ {ds : List D} {vs : List V}, Reps K H Ω ds vs → Reps K H Ω' ds vs
  | [], _, h => h
  | _ :: _, _, h => by
    obtain ⟨v, r, e1, e2, e3⟩ := (show ∃ v r, _ from h)
    exact (show ∃ v r, _ from ⟨v, r, e1, Rep.less hl e2, Reps.less hl e3⟩)
end
theorem freed_less {p : Addr} : ∀ b, Ω b = none → freed Ω p b = none := fun b e => by unfold freed; split <;> first | rfl | exact e
theorem RepSl.mv {i : Nat} {s : Sl} {o : Option V} (h : RepSl K H Ω i s o) (h1 : ∀ d v, Rep K H Ω d v → Rep K H' Ω' d v) (h2 : ∀ ds vs, Reps K H Ω ds vs → Reps K H' Ω' ds vs)
    (hk : ∀ b vs, Ω b = some (i + 2) → H b = some (.lst vs) → H' b = some (.lst vs) ∧ Ω' b = some (i + 2)) : RepSl K H' Ω' i s o := by
  cases s with
  | no => trivial
  | sh d => obtain ⟨v, e1, e2⟩ := h; exact ⟨v, e1, h1 _ _ e2⟩
  | ow ds =>
    obtain ⟨a, vs, e1, e2, e3, e4⟩ := h
    obtain ⟨q1, q2⟩ := hk a vs e3 e2
    exact ⟨a, vs, e1, q1, q2, h2 _ _ e4⟩
  | nw xss =>
    obtain ⟨a, bs, e1, e2, e3, e4, e5, e6⟩ := h
    obtain ⟨q1, q2⟩ := hk a _ e3 e2
    refine ⟨a, bs, e1, q1, q2, e4, e5, fun j b xs z1 z2 => ?_⟩
    obtain ⟨ws, w1, w2, w3⟩ := e6 j b xs z1 z2
    obtain ⟨y1, y2⟩ := hk b ws w2 w1
    exact ⟨ws, y1, y2, h2 _ _ w3⟩
theorem RepSl.ext {i : Nat} {s : Sl} {o : Option V} (h : RepSl K H Ω i s o) (e : Ext H Ω H' Ω') (hk : ∀ b vs, Ω b = some (i + 2) → H b = some (.lst vs) → H' b = some (.lst vs) ∧ Ω' b = some (i + 2)) : RepSl K H' Ω' i s o := h.mv (fun _ _ => Rep.ext e) (fun _ _ => Reps.ext e) hk
theorem RepS.ext (R : RepS K H Ω σ δ) (e : Ext H Ω H' Ω') (hk : ∀ b k vs, Ω b = some (k + 2) → H b = some (.lst vs) → H' b = some (.lst vs) ∧ Ω' b = some (k + 2)) (ht : ∀ a k, Ω' a = some k → ∃ vs, H' a = some (.lst vs)) : RepS K H' Ω' σ δ :=
  ⟨R.len, fun i s h => (R.sl i s h).ext e fun b vs q1 q2 => hk b i vs q1 q2, ht⟩
theorem RepS.alloc {p : Addr} {o : HO} (R : RepS K H Ω σ δ) (hp : H p = none) : RepS K (upd H p o) Ω σ δ :=
  R.ext (.alloc hp R.trk) (fun b k vs q1 q2 => ⟨by rw [upd_ne (ne_of_none q2 hp)]; exact q2, q1⟩) fun a k q => by
    obtain ⟨vs, e⟩ := R.trk a k q
    exact ⟨vs, by rw [upd_ne (ne_of_none e hp)]; exact e⟩
theorem RepS.alloc1 {p : Addr} {xs : List V} (R : RepS K H Ω σ δ) (hp : H p = none) : RepS K (upd H p (.lst xs)) (own1 Ω p) σ δ :=
  R.ext (.alloc1 hp R.trk) (fun b k vs q1 q2 => by
    have : b ≠ p := ne_of_none q2 hp
    exact ⟨by rw [upd_ne this]; exact q2, by unfold own1; rw [if_neg this]; exact q1⟩) fun a k q => by
    by_cases h : a = p
    · subst h; exact ⟨xs, upd_same⟩
    · unfold own1 at q
      rw [if_neg h] at q
      obtain ⟨vs, e⟩ := R.trk a k q
      exact ⟨vs, by rw [upd_ne h]; exact e⟩
theorem RepS.free1 {p : Addr} (R : RepS K H Ω σ δ) (hp : Ω p = some 1) : RepS K H (freed Ω p) σ δ :=
  R.ext (.free (k := 0) hp) (fun b k vs q1 q2 => ⟨q2, by
    unfold freed
    rw [if_neg]
    · exact q1
    · rintro rfl; rw [hp] at q1; cases q1⟩) fun a k q => by
    unfold freed at q
    split at q
    · cases q
    · exact R.trk a k q
theorem Wg.alloc1 {p : Addr} {ds : List D} {xs : List V} {Q : VK} (h : Wg E H Ω (PV K σ Q) (.ok (.own ds) δ)) (R : RepS K H Ω σ δ) (hp : H p = none) (r : Reps K H Ω ds xs) : Q (.ref p) (upd H p (.lst xs)) :=
  h _ (own1 Ω p) (.alloc1 hp R.trk) (R.alloc1 hp) _ ⟨p, xs, rfl, upd_same, by unfold own1; rw [if_pos rfl], r.ext (.alloc1 hp R.trk)⟩
theorem Wg.allocT {p : Addr} {ds : List D} {xs : List V} {Q : VK} (h : Wg E H Ω (PV K σ Q) (.ok (.val (.tup ds)) δ)) (R : RepS K H Ω σ δ) (hp : H p = none) (r : Reps K H Ω ds xs) : Q (.ref p) (upd H p (.tup xs)) :=
  h _ Ω (.alloc hp R.trk) (R.alloc hp) _ (show ∃ a vs, _ from ⟨p, xs, rfl, SqT.of upd_same, r.ext (.alloc hp R.trk)⟩)
def norm : DV → DV
  | .own ds => .val (.lst ds)
  | a => a
def fN (f : DM DV) : DM DV := f.bd fun a => .ret (norm a)
theorem norm_st (a : DV) : (norm a).st = true := by cases a <;> rfl
theorem RepDV.norm {a : DV} {v : V} (R : RepS K H Ω σ δ) (h : RepDV K H Ω σ a v) : ∃ Ω', RepS K H Ω' σ δ ∧ RepDV K H Ω' σ (norm a) v ∧ Ext H Ω H Ω' := by
  cases a with
  | val d => exact ⟨Ω, R, h, .refl⟩
  | slot i => exact ⟨Ω, R, h, .refl⟩
  | own ds =>
    obtain ⟨a, vs, e1, e2, e3, e4⟩ := h
    refine ⟨freed Ω a, R.free1 e3, (show ∃ a vs, _ from ⟨a, vs, e1, .intro (.inl e2) (by unfold freed; rw [if_pos rfl]), e4.less freed_less⟩), .free (k := 0) e3⟩
theorem DE.use {β : Type} {ta : TE} {f : DM DV} {g : DV → DM β} {P : β → DSt → Hp → Om → Prop} {T : V → Hp → Prop} (ha : DE K E ta f) (R : RepS K H Ω σ δ) (h : Wg E H Ω P ((fN f).bd g δ))
    (k : ∀ a x δ' H' Ω', Ext H Ω H' Ω' → a.st = true → RepS K H' Ω' σ δ' → RepDV K H' Ω' σ a x → Wg E H' Ω' P (g a δ') → T x H') : ta σ H T := by
  refine ha σ H δ Ω R T (Wg.bd (f := f) (g := fun a => g (norm a)) (P := P) ?_ fun a δ' H' Ω' ex h' R' v rv => ?_)
  · unfold fN DM.bd DM.ret at h
    unfold DM.bd
    cases e : f δ with
    | un => rw [e] at h; exact h
    | er c => rw [e] at h; exact h
    | ok a δ' => rw [e] at h; exact h
  · obtain ⟨Ω2, R2, r2, x2⟩ := rv.norm R'
    exact k (norm a) v δ' H' Ω2 (ex.trans x2) (norm_st a) R2 r2 (Wg.ext h' x2)
theorem DE.norm {ta : TE} {f : DM DV} (ha : DE K E ta f) : DE K E ta (fN f) := by
  intro σ H δ Ω R Q h
  refine ha.use (g := .ret) R (P := PV K σ Q) ?_ fun a x δ' H' Ω' _ _ R' r' h' => h'.now R' r'
  unfold fN DM.bd DM.ret at h ⊢
  cases e : f δ with
  | un => rw [e] at h; exact h
  | er c => rw [e] at h; exact h
  | ok a δ' => rw [e] at h; exact h
theorem DT.use {β : Type} {ta : TT} {f : DM Bool} {g : Bool → DM β} {P : β → DSt → Hp → Om → Prop} {T : Bool → Hp → Prop} (ha : DT K E ta f) (R : RepS K H Ω σ δ) (h : Wg E H Ω P (f.bd g δ))
    (k : ∀ b δ' H' Ω', Ext H Ω H' Ω' → RepS K H' Ω' σ δ' → Wg E H' Ω' P (g b δ') → T b H') : ta σ H T :=
  ha σ H δ Ω R T (Wg.bd h fun b δ' H' Ω' ex h' R' => k b δ' H' Ω' ex R' h')
theorem DA.use {β : Type} {ta : TA} {f : DM (List DV)} {g : List DV → DM β} {P : β → DSt → Hp → Om → Prop} {T : List V → Hp → Prop} (ha : DA K E ta f) (R : RepS K H Ω σ δ) (h : Wg E H Ω P (f.bd g δ))
    (k : ∀ as vs δ' H' Ω', Ext H Ω H' Ω' → (∀ a ∈ as, a.st = true) → RepS K H' Ω' σ δ' → RepDVs K H' Ω' σ as vs → Wg E H' Ω' P (g as δ') → T vs H') : ta σ H T :=
  ha σ H δ Ω R T (Wg.bd h fun as δ' H' Ω' ex h' R' vs rv hs => k as vs δ' H' Ω' ex hs R' rv h')
def RepB (K : PySem.W.Frag) (H : Hp) (Ω : Om) : D → V → Prop
  | .lst ds, v => ∃ a vs, v = .ref a ∧ Rd H a (.lst vs) ∧ Reps K H Ω ds vs
  | d, v => Rep K H Ω d v
theorem Rep.b {d : D} {v : V} (h : Rep K H Ω d v) : RepB K H Ω d v := by
  cases d with
  | lst ds => obtain ⟨a, vs, e1, e2, e3⟩ := (show ∃ a vs, _ from h); exact ⟨a, vs, e1, e2.1, e3⟩
  | _ => exact h
def res (δ : DSt) : DV → Option D
  | .val d => some d
  | .own ds => some (.lst ds)
  | .slot i => match δ[i]? with | some (.sh d) => some d | some (.ow ds) => some (.lst ds) | _ => none
theorem RepDV.res {a : DV} {x : V} {d : D} (R : RepS K H Ω σ δ) (h : RepDV K H Ω σ a x) (e : res δ a = some d) : RepB K H Ω d x := by
  cases a with
  | val d' => cases e; exact Rep.b h
  | own ds => cases e; obtain ⟨a, vs, e1, e2, e3, e4⟩ := h; exact ⟨a, vs, e1, .inl e2, e4⟩
  | slot i =>
    have h : σ[i]? = some (some x) := h
    unfold DL.res at e
    simp only at e
    split at e
    · rename_i d' hd
      cases e
      obtain ⟨v, e1, e2⟩ := R.sl i _ hd
      rw [h] at e1
      cases e1
      exact e2.b
    · rename_i ds hd
      cases e
      obtain ⟨a, vs, e1, e2, e3, e4⟩ := R.sl i _ hd
      rw [h] at e1
      cases e1
      exact ⟨a, vs, rfl, .inl e2, e4⟩
    · cases e
end
end DL
namespace DL
open PySem PySem.Spec PyProof.Rows L2
def PED (X : Cx) (E : Str → Hp → Prop) (e : Expr) (f : DM DV) : Prop := ∃ te, PE X e te ∧ DE X.K E te f
def PTD (X : Cx) (E : Str → Hp → Prop) (e : Expr) (f : DM Bool) : Prop := ∃ tt, PT X e tt ∧ DT X.K E tt f
def PWD (X : Cx) (E : Str → Hp → Prop) (e : Expr) (f : DM Bool) : Prop := ∃ tt, PW X e tt ∧ DT X.K E tt f
def PAD (X : Cx) (E : Str → Hp → Prop) (es : List Expr) (f : DM (List DV)) : Prop := ∃ ta, PA X es ta ∧ DA X.K E ta f
def PSD (X : Cx) (E : Str → Hp → Prop) (mp : List Nat) (st : Stmt) (f : DM Fl) : Prop := ∃ ts, PS X st ts ∧ DS X.K E mp ts f
def PSsD (X : Cx) (E : Str → Hp → Prop) (mp : List Nat) (st : List Stmt) (f : DM Fl) : Prop := ∃ ts, PSs X st ts ∧ DS X.K E mp ts f
section
variable {K : PySem.W.Frag} {E : Str → Hp → Prop} {H H1 H2 H' : Hp} {Ω Ω1 Ω2 Ω' : Om} {σ : St} {δ : DSt}
theorem join_some {α : Type} {o : Option (Option α)} {v : α} (h : o.join = some v) : o = some (some v) := by
  cases o with
  | none => cases h
  | some a => cases a with
    | none => cases h
    | some b => exact congrArg some h
def fVar (i : Nat) : DM DV := fun δ => match δ[i]? with
  | some (.sh d) => .ok (.val d) δ
  | some (.ow _) => .ok (.slot i) δ
  | _ => .un
theorem de_var {i : Nat} : DE K E (tVar i) (fVar i) := by
  intro σ H δ Ω R Q h
  unfold fVar at h
  split at h
  · rename_i d hd
    obtain ⟨v, e1, e2⟩ := R.sl i _ hd
    exact ⟨v, join_some e1, h.now R e2⟩
  · rename_i ds hd
    obtain ⟨a, vs, e1, e2, e3, e4⟩ := R.sl i _ hd
    exact ⟨.ref a, join_some e1, h.now R (join_some e1)⟩
  · exact h.elim
def fC (d : D) : DM DV := .ret (.val d)
theorem de_c {d : D} {v : V} (hd : ∀ H Ω, Rep K H Ω d v) : DE K E (tC v) (fC d) := fun σ H δ Ω R Q h => Wg.now h R (hd H Ω)
def fBin (f1 f2 : DM DV) (g : D → D → Option DV) : DM DV := (fN f1).bd fun a1 => (fN f2).bd fun a2 => fun δ => match res δ a1, res δ a2 with
  | some d1, some d2 => (match g d1 d2 with | some r => .ok r δ | none => .un)
  | _, _ => .un
def DR (K : PySem.W.Frag) (r : R2) (g : D → D → Option DV) : Prop :=
  ∀ {E : Str → Hp → Prop} {σ : St} {H : Hp} {δ : DSt} {Ω : Om} {x y : V} {d1 d2 : D} {z : DV} {Q : VK}, RepS K H Ω σ δ → RepB K H Ω d1 x → RepB K H Ω d2 y → g d1 d2 = some z → Wg E H Ω (PV K σ Q) (.ok z δ) → r x y H Q
theorem de_bin {r : R2} {g : D → D → Option DV} {ta tb : TE} {f1 f2 : DM DV} (hr : DR K r g) (ha : DE K E ta f1) (hb : DE K E tb f2) : DE K E (tOp r ta tb) (fBin f1 f2 g) := by
  intro σ H δ Ω R Q h
  refine ha.use R h fun a1 x δ1 H1 Ω1 _ s1 R1 r1 h1 => ?_
  refine hb.use R1 h1 fun a2 y δ2 H2 Ω2 e2 s2 R2 r2 h2 => ?_
  have r1 := r1.ext s1 e2
  cases q1 : res δ2 a1 with
  | none => rw [q1] at h2; exact h2.elim
  | some d1 =>
    cases q2 : res δ2 a2 with
    | none => rw [q1, q2] at h2; exact h2.elim
    | some d2 =>
      rw [q1, q2] at h2
      simp only at h2
      cases q3 : g d1 d2 with
      | none => rw [q3] at h2; exact h2.elim
      | some z =>
        rw [q3] at h2
        exact hr R2 (r1.res R2 q1) (r2.res R2 q2) q3 h2
def fUn (f1 : DM DV) (g : D → Option DV) : DM DV := (fN f1).bd fun a1 => fun δ => match res δ a1 with
  | some d1 => (match g d1 with | some r => .ok r δ | none => .un)
  | _ => .un
def fTest (f : DM DV) : DM Bool := (fN f).bd fun a δ => match res δ a with
  | some (.bl b) => .ok b δ
  | _ => .un
theorem dt_test {t : TE} {f : DM DV} (ha : DE K E t f) : DT K E (tTest t) (fTest f) := by
  intro σ H δ Ω R Q h
  refine ha.use R h fun a x δ1 H1 Ω1 _ s1 R1 r1 h1 => ?_
  cases q1 : res δ1 a with
  | none => rw [q1] at h1; exact h1.elim
  | some d =>
    rw [q1] at h1
    cases d with
    | bl b => exact ⟨b, (show x = .bl b from r1.res R1 q1), Wg.nowB h1 R1⟩
    | _ => exact h1.elim
theorem dt_tB {t : TE} {f : DM DV} (ha : DE K E t f) : DT K E (tB t) (fTest f) := dt_test ha
def fAndT (f g : DM Bool) : DM Bool := f.bd fun b => if b then g else .ret false
def fOrT (f g : DM Bool) : DM Bool := f.bd fun b => if b then .ret true else g
def fNotT (f : DM Bool) : DM Bool := f.bd fun b => .ret (!b)
theorem dt_or {t u : TT} {f g : DM Bool} (ha : DT K E t f) (hb : DT K E u g) : DT K E (tOr t u) (fOrT f g) := by
  intro σ H δ Ω R Q h
  refine ha.use R h fun b δ1 H1 Ω1 _ R1 h1 => ?_
  cases b with
  | true => exact iteT (Wg.nowB h1 R1)
  | false => exact iteF (hb σ H1 δ1 Ω1 R1 Q h1)
theorem dt_not {t : TT} {f : DM Bool} (ha : DT K E t f) : DT K E (tNot t) (fNotT f) := by
  intro σ H δ Ω R Q h
  exact ha.use R h fun b δ1 H1 Ω1 _ R1 h1 => Wg.nowB h1 R1
def fBool (f : DM DV) (g : Bool → DM DV) : DM DV := (fN f).bd fun a δ => match res δ a with
  | some (.bl b) => g b δ
  | _ => .un
def fAndV (f g : DM DV) : DM DV := fBool f fun b => if b then g else fC (.bl false)
def fOrV (f g : DM DV) : DM DV := fBool f fun b => if b then fC (.bl true) else g
def fNotV (f : DM DV) : DM DV := fBool f fun b => fC (.bl (!b))
theorem de_bool {ta : TE} {f : DM DV} {g : Bool → DM DV} {T : Bool → TE} (ha : DE K E ta f) (hg : ∀ b, DE K E (T b) (g b)) : DE K E (fun σ H Q => ta σ H fun x H1 => ∃ c, x = .bl c ∧ T c σ H1 Q) (fBool f g) := by
  intro σ H δ Ω R Q h
  refine ha.use R h fun a x δ1 H1 Ω1 _ s1 R1 r1 h1 => ?_
  cases q1 : res δ1 a with
  | none => rw [q1] at h1; exact h1.elim
  | some d =>
    rw [q1] at h1
    cases d with
    | bl b => exact ⟨b, (show x = .bl b from r1.res R1 q1), hg b σ H1 δ1 Ω1 R1 Q h1⟩
    | _ => exact h1.elim
theorem de_and {ta tb : TE} {f g : DM DV} (ha : DE K E ta f) (hb : DE K E tb g) : DE K E (tAndV ta tb) (fAndV f g) :=
  de_bool (T := fun c σ H1 Q => if c = true then tb σ H1 Q else Q (.bl false) H1) ha fun b => by
    cases b with
    | true => exact fun σ H δ Ω R Q h => iteT (hb σ H δ Ω R Q h)
    | false => exact fun σ H δ Ω R Q h => iteF (Wg.now h R rfl)
theorem de_not {ta : TE} {f : DM DV} (ha : DE K E ta f) : DE K E (tNotV ta) (fNotV f) :=
  de_bool (T := fun c _ H1 Q => Q (.bl (!c)) H1) ha fun _ σ H δ Ω R Q h => Wg.now h R rfl
def fIfE (c : DM Bool) (f g : DM DV) : DM DV := c.bd fun b => if b then f else g
def fNil : DM (List DV) := .ret []
def fCons (f : DM DV) (r : DM (List DV)) : DM (List DV) := (fN f).bd fun a => r.bd fun as => .ret (a :: as)
theorem da_nil : DA K E tNil fNil := fun σ H δ Ω R Q h => h H Ω .refl R [] rfl (fun _ z => nomatch z)
theorem da_cons {ta : TE} {tr : TA} {f : DM DV} {r : DM (List DV)} (ha : DE K E ta f) (hr : DA K E tr r) : DA K E (tCons ta tr) (fCons f r) := by
  intro σ H δ Ω R Q h
  refine ha.use R h fun a x δ1 H1 Ω1 _ s1 R1 r1 h1 => ?_
  refine hr.use R1 h1 fun as vs δ2 H2 Ω2 e2 s2 R2 r2 h2 => ?_
  exact h2 H2 Ω2 .refl R2 (x :: vs) ⟨x, vs, rfl, r1.ext s1 e2, r2⟩ fun b hb => by
    rcases List.mem_cons.mp hb with z | z
    · rw [z]; exact s1
    · exact s2 b z
def valsOf : List DV → Option (List D)
  | [] => some []
  | .val d :: r => match valsOf r with | some ds => some (d :: ds) | none => none
  | _ :: _ => none
theorem RepDVs.vals : ∀ {as : List DV} {vs : List V} {ds : List D}, RepDVs K H Ω σ as vs → valsOf as = some ds → Reps K H Ω ds vs
  | [], _, _, h, e => by cases e; exact h
  | .val d :: r, _, ds, h, e => by
    obtain ⟨v, q, e1, e2, e3⟩ := h
    unfold valsOf at e
    cases q' : valsOf r with
    | none => rw [q'] at e; cases e
    | some es => rw [q'] at e; cases e; subst e1; exact .cons e2 (RepDVs.vals e3 q')
  | .slot _ :: _, _, _, _, e => by cases e
  | .own _ :: _, _, _, _, e => by cases e
def resAll (δ : DSt) : List DV → Option (List D)
  | [] => some []
  | a :: r => match res δ a, resAll δ r with | some d, some ds => some (d :: ds) | _, _ => none
def RepBs (K : PySem.W.Frag) (H : Hp) (Ω : Om) : List D → List V → Prop
  | [], vs => vs = []
  | d :: ds, vs => ∃ v r, vs = v :: r ∧ RepB K H Ω d v ∧ RepBs K H Ω ds r
theorem RepDVs.all (R : RepS K H Ω σ δ) : ∀ {as : List DV} {vs : List V} {ds : List D}, RepDVs K H Ω σ as vs → resAll δ as = some ds → RepBs K H Ω ds vs
  | [], _, _, h, e => by cases e; exact h
  | a :: r, _, ds, h, e => by
    obtain ⟨v, q, e1, e2, e3⟩ := h
    unfold resAll at e
    split at e
    · rename_i d es q1 q2
      cases e
      exact ⟨v, q, e1, e2.res R q1, RepDVs.all R e3 q2⟩
    · cases e
def fCB (fa : DM (List DV)) (g : List D → Option DV) : DM DV := fa.bd fun as => fun δ => match resAll δ as with
  | some ds => (match g ds with | some r => .ok r δ | none => .un)
  | none => .un
def DC (K : PySem.W.Frag) (r : List V → Hp → VK → Prop) (g : List D → Option DV) : Prop :=
  ∀ {E : Str → Hp → Prop} {σ : St} {H : Hp} {δ : DSt} {Ω : Om} {vs : List V} {ds : List D} {z : DV} {Q : VK}, RepS K H Ω σ δ → RepBs K H Ω ds vs → g ds = some z → Wg E H Ω (PV K σ Q) (.ok z δ) → r vs H Q
theorem de_cb {r : List V → Hp → VK → Prop} {g : List D → Option DV} {t : TA} {fa : DM (List DV)} (hr : DC K r g) (ha : DA K E t fa) : DE K E (tCB r t) (fCB fa g) := by
  intro σ H δ Ω R Q h
  refine ha.use R h fun as vs δ1 H1 Ω1 _ s1 R1 r1 h1 => ?_
  cases q1 : resAll δ1 as with
  | none => rw [q1] at h1; exact h1.elim
  | some ds =>
    rw [q1] at h1
    simp only at h1
    cases q3 : g ds with
    | none => rw [q3] at h1; exact h1.elim
    | some z =>
      rw [q3] at h1
      exact hr R1 (r1.all R1 q1) q3 h1
def fTup (fa : DM (List DV)) : DM DV := fa.bd fun as δ => match valsOf as with
  | some ds => if ds.length ≤ sizeLine then .ok (.val (.tup ds)) δ else .un
  | none => .un
def fLst (fa : DM (List DV)) : DM DV := fa.bd fun as δ => match valsOf as with
  | some ds => if ds.length ≤ sizeLine then .ok (.own ds) δ else .un
  | none => .un
theorem de_tup {t : TA} {fa : DM (List DV)} (ha : DA K E t fa) : DE K E (tTup t) (fTup fa) := by
  intro σ H δ Ω R Q h
  refine ha.use R h fun as vs δ1 H1 Ω1 _ s1 R1 r1 h1 => ?_
  cases q1 : valsOf as with
  | none => rw [q1] at h1; exact h1.elim
  | some ds =>
    rw [q1] at h1
    simp only at h1
    split at h1
    · rename_i hz
      have r := r1.vals q1
      exact ⟨by rw [← r.length]; exact hz, fun p hp => Wg.allocT h1 R1 hp r⟩
    · exact h1.elim
theorem de_lst {t : TA} {fa : DM (List DV)} (ha : DA K E t fa) : DE K E (tLst t) (fLst fa) := by
  intro σ H δ Ω R Q h
  refine ha.use R h fun as vs δ1 H1 Ω1 _ s1 R1 r1 h1 => ?_
  cases q1 : valsOf as with
  | none => rw [q1] at h1; exact h1.elim
  | some ds =>
    rw [q1] at h1
    simp only at h1
    split at h1
    · rename_i hz
      have r := r1.vals q1
      exact ⟨by rw [← r.length]; exact hz, fun p hp => Wg.alloc1 h1 R1 hp r⟩
    · exact h1.elim
def fNext : DM Fl := .ret .nx
def fSeq (f g : DM Fl) : DM Fl := fun δ => match f δ with
  | .ok .nx δ' => g δ'
  | r => r
variable {mp : List Nat}
theorem ds_next : DS K E mp tNext fNext := fun σ H δ Ω R B h => h H Ω .refl σ R fun _ _ => rfl
theorem PF.same {B : Ends} {σ' : St} {fl : Fl} {δ' : DSt} (h : PF K mp σ B fl δ' H Ω) (hm : ∀ j ∈ mp, σ'[j]? = σ[j]?) : PF K mp σ' B fl δ' H Ω := fun σ2 R2 m2 => h σ2 R2 fun j hj => (m2 j hj).trans (hm j hj)
theorem Wg.same {B : Ends} {σ' : St} {r : Rs Fl} (h : Wg E H Ω (PF K mp σ B) r) (hm : ∀ j ∈ mp, σ'[j]? = σ[j]?) : Wg E H Ω (PF K mp σ' B) r := h.imp fun _ _ _ _ _ q => PF.same q hm
theorem ds_seq {t u : TS} {f g : DM Fl} (hf : DS K E mp t f) (hg : DS K E mp u g) : DS K E mp (tSeq t u) (fSeq f g) := by
  intro σ H δ Ω R B h
  refine hf σ H δ Ω R _ ?_
  unfold fSeq at h
  cases e : f δ with
  | un => rw [e] at h; exact h
  | er c => rw [e] at h; exact h
  | ok a δ' =>
    rw [e] at h
    cases a with
    | nx => exact fun H' Ω' ex σ' R' m' => hg σ' H' δ' Ω' R' B ((Wg.ext h ex).same m')
    | bk => exact h
    | ct => exact h
    | rt d => exact h
    | rto ds => exact h
def fIf (c : DM Bool) (f g : DM Fl) : DM Fl := c.bd fun b => if b then f else g
theorem ds_if {c : TT} {t u : TS} {fc : DM Bool} {f g : DM Fl} (hc : DT K E c fc) (hf : DS K E mp t f) (hg : DS K E mp u g) : DS K E mp (tIfS c t u) (fIf fc f g) := by
  intro σ H δ Ω R B h
  refine hc.use R h fun b δ1 H1 Ω1 _ R1 h1 => ?_
  cases b with
  | true => exact iteT (hf σ H1 δ1 Ω1 R1 B h1)
  | false => exact iteF (hg σ H1 δ1 Ω1 R1 B h1)
theorem RepS.set {i : Nat} {s : Sl} {v : V} (R : RepS K H Ω σ δ) (r : RepSl K H Ω i s (some v)) : RepS K H Ω (σ.set i (some v)) (δ.set i s) := by
  refine ⟨by rw [List.length_set, List.length_set]; exact R.len, fun j t h => ?_, R.trk⟩
  by_cases hj : i = j
  · subst hj
    have hl : i < δ.length := by
      have := (List.getElem?_eq_some_iff.mp h).1
      rwa [List.length_set] at this
    rw [List.getElem?_set_self hl] at h
    cases h
    rw [List.getElem?_set_self (by rw [← R.len]; exact hl)]
    exact r
  · rw [List.getElem?_set_ne hj] at h
    rw [List.getElem?_set_ne hj]
    exact R.sl j t h
theorem RepS.forget {i : Nat} (R : RepS K H Ω σ δ) : RepS K H Ω σ (δ.set i .no) := by
  refine ⟨by rw [List.length_set]; exact R.len, fun j t h => ?_, R.trk⟩
  by_cases hj : i = j
  · subst hj
    have hl : i < δ.length := by
      have := (List.getElem?_eq_some_iff.mp h).1
      rwa [List.length_set] at this
    rw [List.getElem?_set_self hl] at h
    cases h
    trivial
  · rw [List.getElem?_set_ne hj] at h
    exact R.sl j t h
theorem set_same {i : Nat} {o : Option V} (hi : i ∉ mp) : ∀ j ∈ mp, (σ.set i o)[j]? = σ[j]? := fun j hj => List.getElem?_set_ne fun z => hi (by rw [z]; exact hj)
def fSet (i : Nat) (f : DM DV) : DM Fl := (fN f).bd fun a δ => match a with
  | .val d => .ok .nx (δ.set i (.sh d))
  | _ => .un
theorem ds_set {i : Nat} {te : TE} {f : DM DV} (hi : i ∉ mp) (ha : DE K E te f) : DS K E mp (tAsg te (gName i)) (fSet i f) := by
  intro σ H δ Ω R B h
  refine ha.use R h fun a x δ1 H1 Ω1 _ s1 R1 r1 h1 => ?_
  cases a with
  | val d => exact h1 H1 Ω1 .refl _ (R1.set ⟨x, rfl, r1⟩) (set_same hi)
  | slot j => exact h1.elim
  | own ds => exact h1.elim
def ownTo (Ω : Om) (p : Addr) (k : Nat) : Om := fun b => if b = p then some k else Ω b
theorem Ext.own {p : Addr} {k k' : Nat} (hp : Ω p = some (k' + 1)) : Ext H Ω H (ownTo Ω p (k + 1)) where
  keep := fun b o' e _ => e
  new := fun b e h => by
    unfold ownTo
    rw [if_neg]
    · exact e
    · rintro rfl; rw [hp] at e; cases e
  fr := fun b => by
    unfold ownTo
    split
    · rename_i z
      subst z
      rw [hp]
      constructor <;> intro q <;> cases q
    · exact Iff.rfl
  live := fun b e => e
theorem RepS.ownTo {p : Addr} {k k' : Nat} (R : RepS K H Ω σ δ) (hp : Ω p = some (k' + 1)) (hs : ∀ i s, δ[i]? = some s → s = .no ∨ i + 2 ≠ k' + 1) : RepS K H (DL.ownTo Ω p (k + 1)) σ δ := by
  refine ⟨R.len, fun i s h => ?_, fun a j q => ?_⟩
  · rcases hs i s h with z | z
    · subst z; trivial
    refine (R.sl i s h).mv (fun _ _ => .ext (.own hp)) (fun _ _ => .ext (.own hp)) fun b vs e3 e2 => ⟨e2, ?_⟩
    unfold DL.ownTo
    rw [if_neg]
    · exact e3
    · rintro rfl
      rw [hp] at e3
      exact z (Option.some.inj e3).symm
  · unfold DL.ownTo at q
    split at q
    · rename_i z; subst z; exact R.trk _ _ hp
    · exact R.trk a j q
def fSetO (i : Nat) (f : DM DV) : DM Fl := f.bd fun a δ => match a with
  | .own ds => .ok .nx (δ.set i (.ow ds))
  | _ => .un
theorem ds_setO {i : Nat} {te : TE} {f : DM DV} (hi : i ∉ mp) (ha : DE K E te f) : DS K E mp (tAsg te (gName i)) (fSetO i f) := by
  intro σ H δ Ω R B h
  refine ha σ H δ Ω R _ (Wg.bd h fun a δ1 H1 Ω1 ex h1 R1 x r1 => ?_)
  cases a with
  | val d => exact h1.elim
  | slot j => exact h1.elim
  | own ds =>
    obtain ⟨a, vs, e1, e2, e3, e4⟩ := r1
    subst e1
    have R2 := R1.ownTo (k := i + 1) (k' := 0) e3 fun j _ _ => .inr (by omega)
    exact h1 H1 (DL.ownTo Ω1 a (i + 1 + 1)) (.own (k' := 0) e3) _ (R2.set ⟨a, vs, rfl, e2, by unfold DL.ownTo; rw [if_pos rfl], e4.ext (.own (k' := 0) e3)⟩) (set_same hi)
def frz (i : Nat) (δ : DSt) : DSt := match δ[i]? with
  | some (.ow ds) => δ.set i (.sh (.lst ds))
  | _ => δ
def fRet (f : DM DV) : DM Fl := f.bd fun a δ => match a with
  | .val d => .ok (.rt d) δ
  | .own ds => .ok (.rto ds) δ
  | .slot i => (match δ[i]? with | some (.ow ds) => .ok (.rto ds) (δ.set i .no) | _ => .un)
theorem ds_ret {te : TE} {f : DM DV} (ha : DE K E te f) : DS K E mp (tRet te) (fRet f) := by
  intro σ H δ Ω R B h
  refine ha σ H δ Ω R _ (Wg.bd h fun a δ1 H1 Ω1 ex h1 R1 x r1 => ?_)
  cases a with
  | val d => exact h1 H1 Ω1 .refl σ R1 (fun _ _ => rfl) x r1
  | own ds => exact h1 H1 Ω1 .refl σ R1 (fun _ _ => rfl) x r1
  | slot i =>
    simp only at h1
    split at h1
    · rename_i ds hd
      obtain ⟨a, vs, e1, e2, e3, e4⟩ := R1.sl i _ hd
      have r1 : σ[i]? = some (some x) := r1
      rw [r1] at e1
      cases e1
      have hl : i < δ1.length := (List.getElem?_eq_some_iff.mp hd).1
      have R2 := (R1.forget (i := i)).ownTo (k := 0) (k' := i + 1) e3 fun j s q => by
        by_cases z : j = i
        · subst z
          rw [List.getElem?_set_self hl] at q
          exact .inl (Option.some.inj q).symm
        · exact .inr (by omega)
      exact h1 H1 (DL.ownTo Ω1 a (0 + 1)) (.own (k' := i + 1) e3) σ R2 (fun _ _ => rfl) _ ⟨a, vs, rfl, e2, by unfold DL.ownTo; rw [if_pos rfl], e4.ext (.own (k' := i + 1) e3)⟩
    · exact h1.elim
end
end DL
namespace DL
open PySem PySem.Spec PyProof.Rows L2
structure Yl (K : PySem.W.Frag) (J : It) (H : Hp) (Ω : Om) (ds : List D) : Prop where
  go : ∀ i H' Ω', Ext H Ω H' Ω' → i < ds.length → J.go i H'
  yld : ∀ i d H' Ω' x H'', Ext H Ω H' Ω' → ds[i]? = some d → J.yld i H' x H'' → Rep K H'' Ω' d x ∧ (H'' = H' ∨ ∃ p xs, H' p = none ∧ H'' = upd H' p (.tup xs))
  stop : ∀ H' Ω', Ext H Ω H' Ω' → J.stop ds.length H'
def DI (K : PySem.W.Frag) (E : Str → Hp → Prop) (wi : TI) (f : DM (List D)) : Prop := ∀ σ H δ Ω, RepS K H Ω σ δ → ∀ R : It → Hp → Prop,
  Wg E H Ω (fun ds δ' H' Ω' => RepS K H' Ω' σ δ' → ∀ J, (∀ Ω2 : Om, (∀ b, Ω' b = none → Ω2 b = none) → Yl K J H' Ω2 ds) → R J H') (f δ) → wi σ H R
def DG (K : PySem.W.Frag) (mp : List Nat) (g : TG) (t : D → DSt → Option DSt) : Prop := ∀ σ H δ Ω d x δ', RepS K H Ω σ δ → Rep K H Ω d x → t d δ = some δ' →
  ∀ Q : St → Hp → Prop, (∀ σ', RepS K H Ω σ' δ' → (∀ j ∈ mp, σ'[j]? = σ[j]?) → Q σ' H) → g x σ H Q
section
variable {K : PySem.W.Frag} {E : Str → Hp → Prop} {H H1 H2 H' : Hp} {Ω Ω1 Ω2 Ω' : Om} {σ : St} {δ : DSt} {mp : List Nat}
def sName (i : Nat) : D → DSt → Option DSt := fun d δ => some (δ.set i (.sh d))
theorem dg_name {i : Nat} (hi : i ∉ mp) : DG K mp (gName i) (sName i) := by
  intro σ H δ Ω d x δ' R r e Q h
  cases e
  exact h _ (R.set ⟨x, rfl, r⟩) (set_same hi)
def loopD (t : D → DSt → Option DSt) (body : DM Fl) : List D → DM Fl
  | [], δ => .ok .nx δ
  | d :: ds, δ => match t d δ with
    | none => .un
    | some δ1 => match body δ1 with
      | .un => .un
      | .er c => .er c
      | .ok .nx δ2 => loopD t body ds δ2
      | .ok .ct δ2 => loopD t body ds δ2
      | .ok .bk δ2 => .ok .nx δ2
      | .ok (.rt d) δ2 => .ok (.rt d) δ2
      | .ok (.rto d) δ2 => .ok (.rto d) δ2
def fFor (fi : DM (List D)) (t : D → DSt → Option DSt) (body : DM Fl) : DM Fl := fi.bd fun ds => loopD t body ds
theorem drop_cons {α : Type} {l : List α} {i : Nat} {a : α} (h : l[i]? = some a) : l.drop i = a :: l.drop (i + 1) := by
  obtain ⟨hi, e⟩ := List.getElem?_eq_some_iff.mp h
  rw [List.drop_eq_getElem_cons hi, e]
theorem ds_for {wi : TI} {g : TG} {tb : TS} {fi : DM (List D)} {t : D → DSt → Option DSt} {fb : DM Fl} (hi : DI K E wi fi) (hg : DG K mp g t) (hb : DS K E mp tb fb) : DS K E mp (tFor wi g tb) (fFor fi t fb) := by
  intro σ H δ Ω R B h
  refine hi σ H δ Ω R _ (Wg.bd h fun ds δ1 H1 Ω1 _ h1 R1 J YY => ?_)
  have Y := YY Ω1 fun _ z => z
  refine ⟨fun i m σ' H' => m = ds.length - i ∧ i ≤ ds.length ∧ ∃ δ' Ω', RepS K H' Ω' σ' δ' ∧ Ext H1 Ω1 H' Ω' ∧ Wg E H' Ω' (PF K mp σ' B) (loopD t fb (ds.drop i) δ'), ⟨_, rfl, Nat.zero_le _, δ1, Ω1, R1, .refl, h1⟩, ?_⟩
  rintro i m σ' H' ⟨rfl, hl, δ', Ω', R', e', w⟩
  by_cases hlt : i < ds.length
  · refine .inr ⟨Y.go i H' Ω' e' hlt, fun σ2 H2 => ∃ δ2 Ω2, RepS K H2 Ω2 σ2 δ2 ∧ Ext H1 Ω1 H2 Ω2 ∧ Wg E H2 Ω2 (PF K mp σ2 B) (loopD t fb (ds.drop (i + 1)) δ2), fun σ2 H2 ⟨δ2, Ω2, R2, e2, w2⟩ => ⟨_, by omega, rfl, hlt, δ2, Ω2, R2, e2, w2⟩, fun x H2 hy => ?_⟩
    obtain ⟨d, hd⟩ : ∃ d, ds[i]? = some d := ⟨ds[i], List.getElem?_eq_getElem hlt⟩
    obtain ⟨rx, hH⟩ := Y.yld i d H' Ω' x H2 e' hd hy
    have R2 : RepS K H2 Ω' σ' δ' := by
      rcases hH with z | ⟨p, xs, hp, z⟩
      · rw [z]; exact R'
      · rw [z]; exact R'.alloc hp
    have e2 : Ext H' Ω' H2 Ω' := by
      rcases hH with z | ⟨p, xs, hp, z⟩
      · rw [z]; exact .refl
      · rw [z]; exact .alloc hp R'.trk
    rw [drop_cons hd] at w
    unfold loopD at w
    cases q : t d δ' with
    | none => rw [q] at w; exact w.elim
    | some δ3 =>
      rw [q] at w
      simp only at w
      refine hg σ' H2 δ' Ω' d x δ3 R2 rx q _ fun σ3 R3 m3 => ?_
      refine hb σ3 H2 δ3 Ω' R3 _ ?_
      cases q4 : fb δ3 with
      | un => rw [q4] at w; exact w
      | er c => rw [q4] at w; exact Wg.ext (P := PF K mp σ' B) (r := .er c) w e2
      | ok fl δ4 =>
        rw [q4] at w
        cases fl with
        | nx => exact fun H4 Ω4 e4 σ4 R4 m4 => ⟨δ4, Ω4, R4, e'.trans (e2.trans e4), (Wg.ext w (e2.trans e4)).same fun j hj => (m4 j hj).trans (m3 j hj)⟩
        | ct => exact fun H4 Ω4 e4 σ4 R4 m4 => ⟨δ4, Ω4, R4, e'.trans (e2.trans e4), (Wg.ext w (e2.trans e4)).same fun j hj => (m4 j hj).trans (m3 j hj)⟩
        | bk => exact fun H4 Ω4 e4 σ4 R4 m4 => w H4 Ω4 (e2.trans e4) σ4 R4 fun j hj => (m4 j hj).trans (m3 j hj)
        | rt d => exact fun H4 Ω4 e4 σ4 R4 m4 => w H4 Ω4 (e2.trans e4) σ4 R4 fun j hj => (m4 j hj).trans (m3 j hj)
        | rto d => exact fun H4 Ω4 e4 σ4 R4 m4 => w H4 Ω4 (e2.trans e4) σ4 R4 fun j hj => (m4 j hj).trans (m3 j hj)
  · have hil : i = ds.length := by omega
    subst hil
    rw [List.drop_length] at w
    exact .inl ⟨Y.stop H' Ω' e', w H' Ω' .refl σ' R' fun _ _ => rfl⟩
def whileD (c : DM Bool) (body : DM Fl) : Nat → DM Fl
  | 0 => fun _ => .un
  | n + 1 => c.bd fun b => if b then (fun δ => match body δ with
      | .un => .un
      | .er c => .er c
      | .ok .nx δ2 => whileD c body n δ2
      | .ok .ct δ2 => whileD c body n δ2
      | .ok .bk δ2 => .ok .nx δ2
      | .ok (.rt d) δ2 => .ok (.rt d) δ2
      | .ok (.rto d) δ2 => .ok (.rto d) δ2) else .ret .nx
def fIt (f : DM DV) (g : D → Option (List D)) : DM (List D) := (fN f).bd fun a δ => match a with
  | .val d => (match g d with | some ds => .ok ds δ | none => .un)
  | _ => .un
def gLstItems : D → Option (List D)
  | .lst ds => some ds
  | _ => none
theorem yl_list {a : Addr} {vs : List V} {ds : List D} (h : ShL H Ω a vs) (r : Reps K H Ω ds vs) : Yl K (Itl K a) H Ω ds where
  go := fun i H' Ω' e hi => by
    obtain ⟨v, q, _⟩ := r.get (List.getElem?_eq_getElem hi)
    exact ⟨vs, v, (.inl (h.ext e).1), q⟩
  yld := fun i d H' Ω' x H'' e hd hy => by
    obtain ⟨z, hy⟩ := hy
    subst z
    obtain ⟨v, q, rv⟩ := (r.ext e).get hd
    have := hy vs (.inl (h.ext e).1)
    rw [q] at this
    cases this
    exact ⟨rv, .inl rfl⟩
  stop := fun H' Ω' e => ⟨vs, (.inl (h.ext e).1), by rw [r.length]; exact Nat.le_refl _⟩
def rangeD (lo : Int) (n : Nat) : List D := (List.range n).map fun (k : Nat) => D.int (lo + (k : Int))
theorem yl_range (lo : Int) (n : Nat) : Yl K (Itr lo n) H Ω (rangeD lo n) where
  go := fun i H' Ω' e hi => by
    unfold rangeD at hi
    rw [List.length_map, List.length_range] at hi
    exact hi
  yld := fun i d H' Ω' x H'' e hd hy => by
    obtain ⟨z, hy⟩ := hy
    subst z
    unfold rangeD at hd
    rw [List.getElem?_map] at hd
    cases q : (List.range n)[i]? with
    | none => rw [q] at hd; cases hd
    | some k =>
      rw [q] at hd
      have hk : k = i := by
        obtain ⟨h1, h2⟩ := List.getElem?_eq_some_iff.mp q
        rw [List.getElem_range] at h2
        exact h2.symm
      subst hk
      cases hd
      exact ⟨hy, .inl rfl⟩
  stop := fun H' Ω' e => by
    unfold rangeD
    rw [List.length_map, List.length_range]
    exact Nat.le_refl n
theorem di_list {te : TE} {f : DM DV} (ha : DE K E te f) : DI K E (iList K te) (fIt f gLstItems) := by
  intro σ H δ Ω R Q h
  refine ha.use R h fun a x δ1 H1 Ω1 _ s1 R1 r1 h1 => ?_
  cases a with
  | val d =>
    cases d with
    | lst ds =>
      obtain ⟨b, vs, e1, e2, e3⟩ := (show ∃ a vs, _ from r1)
      exact ⟨b, e1, ⟨vs, .inl e2.1⟩, h1 H1 Ω1 .refl R1 _ fun Ω2 z => yl_list (e2.less z) (e3.less z)⟩
    | _ => exact h1.elim
  | slot i => exact h1.elim
  | own ds => exact h1.elim
def small62 (j : Int) : Bool := decide (-(2 ^ 62) ≤ j) && decide (j < 2 ^ 62)
def fRng1 (fa : DM (List DV)) : DM (List D) := fa.bd fun as δ => match as with
  | [.val (.int j)] => if small62 j then .ok (rangeD 0 j.toNat) δ else .un
  | _ => .un
def fRng2 (fa : DM (List DV)) : DM (List D) := fa.bd fun as δ => match as with
  | [.val (.int i), .val (.int j)] => if small62 i && small62 j then .ok (rangeD i (j - i).toNat) δ else .un
  | _ => .un
theorem di_rng1 {t : TA} {fa : DM (List DV)} (ha : DA K E t fa) : DI K E (iRng1 t) (fRng1 fa) := by
  intro σ H δ Ω R Q h
  refine ha.use R h fun as vs δ1 H1 Ω1 _ s1 R1 r1 h1 => ?_
  (try dsimp only at h1)
  split at h1
  · rename_i j
    split at h1
    · rename_i hj
      unfold small62 at hj
      simp only [Bool.and_eq_true, decide_eq_true_eq] at hj
      obtain ⟨v, q, e1, e2, e3⟩ := r1
      cases (show q = [] from e3)
      cases (show v = .int j from e2)
      exact ⟨j, e1, hj.1, hj.2, h1 H1 Ω1 .refl R1 _ fun Ω2 z => yl_range 0 _⟩
    · exact h1.elim
  · exact h1.elim
theorem di_rng2 {t : TA} {fa : DM (List DV)} (ha : DA K E t fa) : DI K E (iRng2 t) (fRng2 fa) := by
  intro σ H δ Ω R Q h
  refine ha.use R h fun as vs δ1 H1 Ω1 _ s1 R1 r1 h1 => ?_
  (try dsimp only at h1)
  split at h1
  · rename_i i j
    split at h1
    · rename_i hj
      unfold small62 at hj
      simp only [Bool.and_eq_true, decide_eq_true_eq] at hj
      obtain ⟨v, q, e1, e2, e3⟩ := r1
      obtain ⟨v', q', e1', e2', e3'⟩ := e3
      cases (show q' = [] from e3')
      cases (show v = .int i from e2)
      cases (show v' = .int j from e2')
      subst e1'
      exact ⟨i, j, e1, ⟨hj.1.1, hj.1.2, hj.2.1, hj.2.2⟩, h1 H1 Ω1 .refl R1 _ fun Ω2 z => yl_range i _⟩
    · exact h1.elim
  · exact h1.elim
def under (Ω : Om) : Om := fun b => (Ω b).map fun _ => 0
def back (Ω Ω' : Om) : Om := fun b => match Ω' b with
  | some 0 => Ω b
  | some 1 => some 1
  | _ => none
theorem under_none {b : Addr} (h : Ω b = none) : under Ω b = none := by unfold under; rw [h]; rfl
theorem under_some {b : Addr} {k : Nat} (h : Ω b = some k) : under Ω b = some 0 := by unfold under; rw [h]; rfl
theorem back_none (b : Addr) (h : Ω' b = none) : back Ω Ω' b = none := by unfold back; rw [h]
theorem back_zero {b : Addr} (h : Ω' b = some 0) : back Ω Ω' b = Ω b := by unfold back; rw [h] <;> rfl
theorem back_one {b : Addr} (h : Ω' b = some 1) : back Ω Ω' b = some 1 := by unfold back; rw [h] <;> rfl
theorem Ext.back (e : Ext H (under Ω) H' Ω') : Ext H Ω H' (back Ω Ω') where
  keep := fun b o q h => e.keep b o q (h.imp_right fun z => z.imp under_none under_some)
  new := fun b q h => back_none b (e.new b (under_none q) h)
  fr := fun b => by
    constructor
    · intro h
      rw [back_zero ((e.fr b).mp (under_some h))]
      exact h
    · intro h
      unfold DL.back at h
      split at h
      · exact h
      · cases h
      · cases h
  live := e.live
theorem RepS.back (R : RepS K H Ω σ δ) (e : Ext H (under Ω) H' Ω') (ht : ∀ a k, Ω' a = some k → ∃ vs, H' a = some (.lst vs)) : RepS K H' (back Ω Ω') σ δ := by
  refine R.ext e.back (fun b k vs q1 q2 => ⟨e.keep b _ q2 (.inr (.inr (under_some q1))), by rw [back_zero ((e.fr b).mp (under_some q1))]; exact q1⟩) fun a k q => ?_
  unfold DL.back at q
  split at q
  · rename_i z; exact ht a _ z
  · rename_i z; exact ht a _ z
  · cases q
inductive Ro where
  | un | er (c : Str) | ok (d : D) | own (ds : List D)
def RoQ (K : PySem.W.Frag) (E : Str → Hp → Prop) (H : Hp) (Ω : Om) (Q : VK) : Ro → Prop
  | .un => False
  | .er c => ∀ H' Ω', Ext H Ω H' Ω' → Trk H' Ω' → E c H'
  | .ok d => ∀ H' Ω', Ext H Ω H' Ω' → Trk H' Ω' → ∀ v, Rep K H' Ω' d v → Q v H'
  | .own ds => ∀ H' Ω', Ext H Ω H' Ω' → Trk H' Ω' → ∀ v, RepDV K H' Ω' [] (.own ds) v → Q v H'
def spP (K : PySem.W.Frag) (ce : Str → Value) (n : Nat) (M : List D → Ro) : Sp := fun vs H Q E => vs.length = n ∧ ∃ Ω ds, Trk H Ω ∧ (∀ b k, Ω b = some k → k = 0) ∧ Reps K H Ω ds vs ∧ RoQ K (fun c H' => E (ce c) none H') H Ω Q (M ds)
def fCall (n : Nat) (fa : DM (List DV)) (M : List D → Ro) : DM DV := fa.bd fun as δ => match valsOf as with
  | none => .un
  | some ds => if ds.length = n then (match M ds with
    | .un => .un
    | .er c => .er c
    | .ok d => .ok (.val d) δ
    | .own ds => .ok (.own ds) δ) else .un
theorem trk_under (t : Trk H Ω) : Trk H (under Ω) := fun a k q => by
  unfold under at q
  cases e : Ω a with
  | none => rw [e] at q; cases q
  | some j => exact t a j e
theorem under_zero : ∀ b k, under Ω b = some k → k = 0 := fun b k q => by
  unfold under at q
  cases e : Ω b with
  | none => rw [e] at q; cases q
  | some j => rw [e] at q; cases q; rfl
theorem de_call {ce : Str → Value} {n : Nat} {M : List D → Ro} {Ex : XK} {t : TA} {fa : DM (List DV)} (hE : ∀ c H', E c H' → Ex (ce c) none H') (ha : DA K E t fa) : DE K E (tCall (spP K ce n M) [] Ex t) (fCall n fa M) := by
  intro σ H δ Ω R Q h
  refine ha.use R h fun as vs δ1 H1 Ω1 _ s1 R1 r1 h1 => ?_
  (try dsimp only at h1)
  cases q1 : valsOf as with
  | none => rw [q1] at h1; exact h1.elim
  | some ds =>
    rw [q1] at h1
    dsimp only at h1
    split at h1
    · rename_i hn
      have r := r1.vals q1
      show spP K ce n M (vs ++ []) H1 Q Ex
      rw [List.append_nil]
      refine ⟨by rw [← r.length]; exact hn, under Ω1, ds, trk_under R1.trk, under_zero, r.less fun b q => under_none q, ?_⟩
      cases q3 : M ds with
      | un => rw [q3] at h1; exact h1
      | er c => rw [q3] at h1; exact fun H' Ω' e' t' => hE c H' (h1 H' _ e'.back (R1.back e' t').trk)
      | ok d => rw [q3] at h1; exact fun H' Ω' e' t' v rv => h1 H' _ e'.back (R1.back e' t') v (Rep.less back_none rv)
      | own es =>
        rw [q3] at h1
        intro H' Ω' e' t' v ⟨a, ws, z1, z2, z3, z4⟩
        exact h1 H' _ e'.back (R1.back e' t') v ⟨a, ws, z1, z2, back_one z3, z4.less back_none⟩
    · exact h1.elim
def captD (δ : DSt) (sel : List (Option Nat)) : DSt := sel.map fun o => match o with
  | none => .no
  | some j => match δ[j]? with | some (.sh d) => .sh d | _ => .no
def compD (t : D → DSt → Option DSt) (fc : DM Bool) (fe : DM DV) : List D → DSt → List D → Option (List D)
  | [], _, out => some out
  | d :: ds, δ, out => match t d δ with
    | none => none
    | some δ1 => match fc δ1 with
      | .ok true δ2 => (match fN fe δ2 with
        | .ok (.val v) δ3 => if out.length < sizeLine then compD t fc fe ds δ3 (out ++ [v]) else none
        | _ => none)
      | .ok false δ2 => compD t fc fe ds δ2 out
      | _ => none
def fLC (fi : DM (List D)) (t : D → DSt → Option DSt) (fc : DM Bool) (fe : DM DV) (sel : List (Option Nat)) : DM DV := fi.bd fun ds δ => match compD t fc fe ds (captD δ sel) [] with
  | some out => .ok (.own out) δ
  | none => .un
def EN : Str → Hp → Prop := fun _ _ => False
theorem RepS.capt (R : RepS K H Ω σ δ) (sel : List (Option Nat)) (hl : ∀ b, Ω b = none → Ω' b = none) (ht : Trk H Ω') : RepS K H Ω' (capt σ sel) (captD δ sel) := by
  refine ⟨by unfold L2.capt captD; rw [List.length_map, List.length_map], fun i s h => ?_, ht⟩
  unfold captD at h
  rw [List.getElem?_map] at h
  cases q : sel[i]? with
  | none => rw [q] at h; cases h
  | some o =>
    rw [q] at h
    cases o with
    | none => cases h; trivial
    | some j =>
      have h : (match δ[j]? with | some (.sh d) => Sl.sh d | _ => .no) = s := Option.some.inj h
      have e : (L2.capt σ sel)[i]? = some ((σ[j]?).join) := by unfold L2.capt; rw [List.getElem?_map, q]; rfl
      rw [e]
      split at h
      · rename_i d hd
        subst h
        obtain ⟨v, e1, e2⟩ := R.sl j _ hd
        exact ⟨v, e1, Rep.less hl e2⟩
      · subst h; trivial
theorem Ext.hide {p : Addr} (e : Ext H Ω H' Ω') (hp : Ω p = some 0) (hl : ∃ vs, H p = some (.lst vs)) : Ext H (ownTo Ω p 1) H' (ownTo Ω' p 1) where
  keep := fun b o q h => by
    by_cases hb : b = p
    · subst hb
      exact e.keep b o q (.inr (.inr hp))
    · refine e.keep b o q ?_
      unfold ownTo at h
      rw [if_neg hb] at h
      exact h
  new := fun b q h => by
    unfold ownTo at q ⊢
    split at q
    · cases q
    · rename_i hb
      rw [if_neg hb]
      exact e.new b q h
  fr := fun b => by
    unfold ownTo
    split
    · constructor <;> intro q <;> cases q
    · exact e.fr b
  live := e.live
theorem Ext.put {p : Addr} {o : HO} (hl : ∃ vs, H p = some (.lst vs)) (hp : Ω p = some 1) : Ext H Ω (upd H p o) Ω where
  keep := fun b o' q h => by
    have hb : b ≠ p := by
      rintro rfl
      obtain ⟨vs, e⟩ := hl
      rw [e] at q
      cases q
      rcases h with h | h | h
      · exact h vs rfl
      · rw [hp] at h; cases h
      · rw [hp] at h; cases h
    rw [upd_ne hb]
    exact q
  new := fun _ q _ => q
  fr := fun _ => Iff.rfl
  live := fun b q => by
    unfold upd at q
    split at q
    · cases q
    · exact q
theorem put_ext {p : Addr} {xs : List V} (hl : ∃ vs, H p = some (.lst vs)) : Ext H (ownTo Ω p 1) (upd H p (.lst xs)) (ownTo Ω p 1) := .put hl (by unfold ownTo; rw [if_pos rfl])
theorem own_of_none {p : Addr} (hp : Ω p ≠ none) : ∀ b, Ω b = none → ownTo Ω p 1 b = none := fun b q => by
  unfold ownTo
  rw [if_neg]
  · exact q
  · rintro rfl; exact hp q
theorem none_of_own {p : Addr} : ∀ b, ownTo Ω p 1 b = none → Ω b = none := fun b q => by
  unfold ownTo at q
  split at q
  · cases q
  · exact q
theorem Rep.put {p : Addr} {xs : List V} {d : D} {v : V} (h : Rep K H Ω d v) (hl : ∃ vs, H p = some (.lst vs)) (hp : Ω p ≠ none) : Rep K (upd H p (.lst xs)) Ω d v :=
  Rep.less none_of_own ((Rep.less (own_of_none hp) h).ext (put_ext hl))
theorem Reps.put {p : Addr} {xs : List V} {ds : List D} {vs : List V} (h : Reps K H Ω ds vs) (hl : ∃ vs, H p = some (.lst vs)) (hp : Ω p ≠ none) : Reps K (upd H p (.lst xs)) Ω ds vs :=
  Reps.less none_of_own ((Reps.less (own_of_none hp) h).ext (put_ext hl))
theorem RepS.put {p : Addr} {xs : List V} (R : RepS K H Ω σ δ) (hp : Ω p = some 0 ∨ Ω p = some 1) : RepS K (upd H p (.lst xs)) Ω σ δ := by
  have hl : ∃ vs, H p = some (.lst vs) := hp.elim (R.trk p 0) (R.trk p 1)
  have hp' : Ω p ≠ none := by rcases hp with z | z <;> (rw [z]; exact Option.some_ne_none _)
  refine ⟨R.len, fun i s h => ?_, fun a k q => ?_⟩
  · refine (R.sl i s h).mv (fun _ _ z => z.put hl hp') (fun _ _ z => z.put hl hp') fun a ws e3 e2 => ?_
    have ha : a ≠ p := by rintro rfl; rcases hp with z | z <;> (rw [z] at e3; cases e3)
    exact ⟨by rw [upd_ne ha]; exact e2, e3⟩
  · by_cases ha : a = p
    · subst ha; exact ⟨xs, upd_same⟩
    · obtain ⟨ws, e⟩ := R.trk a k q
      exact ⟨ws, by rw [upd_ne ha]; exact e⟩
theorem RepS.relabel (R : RepS K H Ω σ δ) (h0 : ∀ b, Ω b = none → Ω' b = none) (h2 : ∀ b k, Ω b = some (k + 2) → Ω' b = some (k + 2)) (ht : Trk H Ω') : RepS K H Ω' σ δ :=
  ⟨R.len, fun i s h => (R.sl i s h).mv (fun _ _ => Rep.less h0) (fun _ _ => Reps.less h0) fun a ws e3 e2 => ⟨e2, h2 a i e3⟩, ht⟩
theorem trk_own {p : Addr} {k : Nat} (t : Trk H Ω) (hl : ∃ vs, H p = some (.lst vs)) : Trk H (ownTo Ω p k) := fun a j q => by
  by_cases ha : a = p
  · subst ha; exact hl
  · unfold ownTo at q
    rw [if_neg ha] at q
    exact t a j q
theorem de_lc {wi : TI} {g : TG} {ts : TT} {te : TE} {sel : List (Option Nat)} {fi : DM (List D)} {t : D → DSt → Option DSt} {fc : DM Bool} {fe : DM DV} (hi : DI K E wi fi) (hg : DG K [] g t) (hc : DT K EN ts fc) (he : DE K EN te fe) :
    DE K E (tLC wi g ts te sel) (fLC fi t fc fe sel) := by
  intro σ H δ Ω R Q h
  refine hi σ H δ Ω R _ (Wg.bd h fun ds δ1 H1 Ω1 _ h1 R1 J YY p hp => ?_)
  have Y := YY (under Ω1) fun _ z => under_none z
  have he := he.norm
  (try dsimp only at h1)
  cases hres : compD t fc fe ds (captD δ1 sel) [] with
  | none => rw [hres] at h1; exact h1.elim
  | some rs =>
    rw [hres] at h1
    have R0 : RepS K (upd H1 p (.lst [])) (ownTo (own1 (under Ω1) p) p 0) (capt σ sel) (captD δ1 sel) := by
      have r1 := (R1.capt sel (Ω' := under Ω1) (fun b q => under_none q) (trk_under R1.trk)).alloc1 (xs := []) hp
      refine r1.relabel (fun b q => ?_) (fun b k q => ?_) (trk_own r1.trk ⟨_, upd_same⟩)
      · unfold ownTo
        rw [if_neg]
        · exact q
        · rintro rfl
          unfold own1 at q
          rw [if_pos rfl] at q
          cases q
      · unfold ownTo
        rw [if_neg]
        · exact q
        · rintro rfl
          unfold own1 at q
          rw [if_pos rfl] at q
          cases q
    have o0 : ownTo (own1 (under Ω1) p) p 0 p = some 0 := by unfold ownTo; rw [if_pos rfl]
    have e0 : Ext H1 (under Ω1) (upd H1 p (.lst [])) (ownTo (ownTo (own1 (under Ω1) p) p 0) p 1) := by
      have q : ownTo (ownTo (own1 (under Ω1) p) p 0) p 1 = own1 (under Ω1) p := by
        funext b
        unfold ownTo own1
        split <;> rfl
      rw [q]
      exact .alloc1 hp (trk_under R1.trk)
    refine ⟨fun i m σ' H' => m = ds.length - i ∧ i ≤ ds.length ∧ ∃ δ' Ω' out ws, RepS K H' Ω' σ' δ' ∧ Ω' p = some 0 ∧ H' p = some (.lst ws) ∧ Reps K H' Ω' out ws ∧ Ext H1 (under Ω1) H' (ownTo Ω' p 1) ∧ compD t fc fe (ds.drop i) δ' out = some rs,
      ⟨_, rfl, Nat.zero_le _, _, _, [], [], R0, o0, upd_same, .nil, e0, hres⟩, ?_⟩
    rintro i m σ' H' ⟨rfl, hl, δ', Ω', out, ws, R', op, hw, rw', e', w⟩
    have t' : Trk H' (ownTo Ω' p 1) := trk_own R'.trk ⟨_, hw⟩
    have np : ∀ b, Ω' b = none → ownTo Ω' p 1 b = none := own_of_none (by rw [op]; exact Option.some_ne_none _)
    by_cases hlt : i < ds.length
    · refine .inr ⟨Y.go i H' _ e' hlt, fun σ2 H2 => ∃ δ' Ω' out ws, RepS K H2 Ω' σ2 δ' ∧ Ω' p = some 0 ∧ H2 p = some (.lst ws) ∧ Reps K H2 Ω' out ws ∧ Ext H1 (under Ω1) H2 (ownTo Ω' p 1) ∧ compD t fc fe (ds.drop (i + 1)) δ' out = some rs,
        fun σ2 H2 h2 => ⟨_, by omega, rfl, hlt, h2⟩, fun x H2 hy => ?_⟩
      obtain ⟨d, hd⟩ : ∃ d, ds[i]? = some d := ⟨ds[i], List.getElem?_eq_getElem hlt⟩
      obtain ⟨rx, hH⟩ := Y.yld i d H' _ x H2 e' hd hy
      have R2 : RepS K H2 Ω' σ' δ' := by
        rcases hH with z | ⟨q, xs, hq, z⟩
        · rw [z]; exact R'
        · rw [z]; exact R'.alloc hq
      have e2 : Ext H' Ω' H2 Ω' := by
        rcases hH with z | ⟨q, xs, hq, z⟩
        · rw [z]; exact .refl
        · rw [z]; exact .alloc hq R'.trk
      rw [drop_cons hd] at w
      unfold compD at w
      cases q : t d δ' with
      | none => rw [q] at w; cases w
      | some δ3 =>
        rw [q] at w
        dsimp only at w
        refine hg σ' H2 δ' Ω' d x δ3 R2 (Rep.less none_of_own rx) q _ fun σ3 R3 _ => ?_
        refine hc σ3 H2 δ3 Ω' R3 _ ?_
        cases q4 : fc δ3 with
        | un => rw [q4] at w; cases w
        | er c => rw [q4] at w; cases w
        | ok b δ4 =>
          rw [q4] at w
          intro H4 Ω4 e4 R4
          have e24 := e2.trans e4
          have op4 : Ω4 p = some 0 := (e24.fr p).mp op
          have hw4 : H4 p = some (.lst ws) := e24.keep p _ hw (.inr (.inr op))
          cases b with
          | false =>
            refine iteF ?_
            exact ⟨δ4, Ω4, out, ws, R4, op4, hw4, rw'.ext e24, e'.trans (e24.hide op ⟨_, hw⟩), w⟩
          | true =>
            refine iteT ?_
            dsimp only at w
            refine he σ3 H4 δ4 Ω4 R4 _ ?_
            cases q5 : fN fe δ4 with
            | un => rw [q5] at w; cases w
            | er c => rw [q5] at w; cases w
            | ok z δ5 =>
              rw [q5] at w
              cases z with
              | slot j => cases w
              | own es => cases w
              | val v =>
                dsimp only at w
                split at w
                · rename_i hz
                  intro H5 Ω5 e5 R5 x5 r5
                  have e25 := e24.trans e5
                  have op5 : Ω5 p = some 0 := (e25.fr p).mp op
                  have hw5 : H5 p = some (.lst ws) := e25.keep p _ hw (.inr (.inr op))
                  have hn5 : Ω5 p ≠ none := by rw [op5]; exact Option.some_ne_none _
                  refine ⟨ws, hw5, by rw [← rw'.length]; exact hz, δ5, Ω5, out ++ [v], ws ++ [x5], R5.put (.inl op5), op5, upd_same, ?_, ?_, w⟩
                  · exact (((rw'.ext e25).append (.cons r5 .nil))).put ⟨_, hw5⟩ hn5
                  · exact (e'.trans (e25.hide op ⟨_, hw⟩)).trans (put_ext ⟨_, hw5⟩)
                · cases w
    · have hil : i = ds.length := by omega
      subst hil
      rw [List.drop_length] at w
      cases w
      refine .inl ⟨Y.stop H' _ e', h1 H' _ e'.back (R1.back e' t') _ ⟨p, ws, rfl, hw, back_one (by unfold ownTo; rw [if_pos rfl]), rw'.less fun b q => back_none b (np b q)⟩⟩
end
end DL
namespace L2
open PySem PySem.Spec PyProof.Rows
section
variable {X : Cx}
def rCatS : R2 := fun x y H Q => ∃ l b xs zs, x = .ref l ∧ y = .ref b ∧ Rd H l (.lst xs) ∧ Rd H b (.lst zs) ∧ xs.length + zs.length ≤ sizeLine ∧ ∀ p, H p = none → Q (.ref p) (upd H p (.lst (xs ++ zs)))
theorem Inv.plain {pins : List (Addr × Obj)} {σ : St} {H : Hp} {s : Shared} {a : Addr} {xs : List V} (I : Inv X pins σ H s) (h : Rd H a (.lst xs)) :
    ∃ (its : List Value) (n : Nat), Vals xs its ∧ s.heap.get? a = some { cls := .type "list", data := .seq its.toArray n } ∧ xs.length ≤ sizeLine := by
  obtain ⟨z, its, n, r, e⟩ := (show ObjOk X.prog X.w H s.heap a (.lst xs) from h.ok I.hok)
  exact ⟨its, n, r, e, z⟩
theorem op_catS : OpR X (binaryOp .Add) rCatS := by
  intro pins s σ H x y v u Q I rx ry h
  obtain ⟨l, b, xs, zs, rfl, rfl, hH, hB, hz, q⟩ := h
  cases rx
  cases ry
  obtain ⟨its, n, r, e, z⟩ := I.plain hH
  obtain ⟨its2, n2, r2, e2, z2⟩ := I.plain hB
  have hl := r.length
  have hl2 := r2.length
  refine PySem.P.add_list e e2 ?_ (by rw [List.size_toArray, List.size_toArray]; omega)
  have ea : its.toArray ++ its2.toArray = (its ++ its2).toArray := by simp
  rw [ea]
  exact ⟨.ref _, _, I.lnew (t' := s.toks) (r.append r2) (by rw [List.length_append]; omega), rfl, q _ I.fresh⟩
theorem call_str1 : CallR X (.type "str") (fun xs H Q => (∃ i : Int, xs = [.int i] ∧ i.natAbs.log2 < 1920 ∧ Q (.str (Str.ofString (toString i))) H) ∨ ∃ x, xs = [.str x] ∧ Q (.str x) H) := by
  intro pins s σ H xs us Q I r h
  rcases h with ⟨i, rfl, hz, q⟩ | ⟨x, rfl, q⟩
  · obtain ⟨u, rfl, t, rfl⟩ := vals1 r
    exact PySem.P.str_of_int hz ⟨.str _, H, I.tok _, ⟨_, rfl⟩, q⟩
  · obtain ⟨u, rfl, t, rfl⟩ := vals1 r
    exact PySem.P.str_of_str ⟨.str _, H, I, ⟨_, rfl⟩, q⟩
theorem strsAre_of : ∀ {ys : List Str} {us : List Value}, Vals (ys.map V.str) us → StrsAre us ys
  | [], _, .nil => .nil
  | y :: ys, _, .cons r q => by
    obtain ⟨t, rfl⟩ := r
    exact .cons y t (strsAre_of q)
def rJoin (K : PySem.W.Frag) : V → List V → Hp → VK → Prop := fun x vs H Q => ∃ sep p ys, x = .str sep ∧ vs = [.ref p] ∧ (SqL K H p (ys.map V.str) ∨ SqT K H p (ys.map V.str)) ∧ (ys.map (·.length)).sum + ys.length * sep.length ≤ 16777216 ∧ Q (.str (Txt.join sep ys)) H
theorem mt_join : MtR X "str.join" (rJoin X.K) := by
  intro pins s σ H x vs v us Q I rx rv h
  obtain ⟨sep, p, ys, rfl, rfl, hq, hz, q⟩ := h
  obtain ⟨t, rfl⟩ := rx
  obtain ⟨u, rfl, ru⟩ := rv.one
  cases ru
  rcases hq with hq | hq
  · obtain ⟨its, r, pl, z⟩ := I.list hq
    exact join_list pl.isList (by simpa using strsAre_of r) hz fun t' k => ⟨.str _, H, I.tok k, ⟨_, rfl⟩, q⟩
  · obtain ⟨its, r, pl, z⟩ := I.tuple hq
    exact join_tuple pl (by simpa using strsAre_of r) hz fun t' k => ⟨.str _, H, I.tok k, ⟨_, rfl⟩, q⟩
inductive TyD (K : PySem.W.Frag) (H : Hp) : V → String → Prop where
  | non : TyD K H .non "NoneType"
  | bl (x : Bool) : TyD K H (.bl x) "bool"
  | int (i : Int) : TyD K H (.int i) "int"
  | str (x : Str) : TyD K H (.str x) "str"
  | lst {a : Addr} {xs : List V} (e : SqL K H a xs) : TyD K H (.ref a) "list"
  | tup {a : Addr} {xs : List V} (e : SqT K H a xs) : TyD K H (.ref a) "tuple"
theorem call_isinst : CallR X (.builtin "isinstance") (fun xs H Q => ∃ x T t b, xs = [x, .ty T] ∧ TyD X.K H x t ∧ PySem.W.kitOne X.K (.type t) (.type T) = some b ∧ Q (.bl b) H) := by
  intro pins s σ H xs us Q I r h
  obtain ⟨x, T, t, b, rfl, ty, e, q⟩ := h
  obtain ⟨u, c, rfl, rx, rc⟩ := vals2 r
  cases rc
  have fin : ∀ tk, EP X pins σ Q (.bool b) { s with toks := tk } := fun tk => ⟨.bl b, H, I.tok tk, rfl, q⟩
  cases ty with
  | non => cases (show u = Value.none from rx); exact PySem.W.kia_one PySem.W.kitx_none I.kIn True.intro e (fun z => nomatch z) fin
  | bl y => cases (show u = Value.bool y from rx); exact PySem.W.kia_one PySem.W.kitx_bool I.kIn True.intro e (fun z => nomatch z) fin
  | int i => obtain ⟨t, z⟩ := (show ∃ t, u = Value.int i t from rx); cases z; exact PySem.W.kia_one PySem.W.kitx_int I.kIn True.intro e (fun z => nomatch z) fin
  | str y => obtain ⟨t, z⟩ := (show ∃ t, u = Value.str y t from rx); cases z; exact PySem.W.kia_one PySem.W.kitx_str I.kIn True.intro e (fun z => nomatch z) fin
  | @lst a ys ea =>
    cases (show u = Value.ref a from rx)
    obtain ⟨its, _, ⟨o, n, h1, h2, _⟩, _⟩ := I.list ea
    exact PySem.W.kia_one PySem.W.kitx_list I.kIn ⟨o, h1, h2⟩ e (fun z => nomatch z) fin
  | @tup a ys ea =>
    cases (show u = Value.ref a from rx)
    obtain ⟨its, _, ⟨o, h1, h2, _⟩, _⟩ := I.tuple ea
    exact PySem.W.kia_one PySem.W.kitx_tuple I.kIn ⟨o, h1, h2⟩ e (fun z => nomatch z) fin
end
end L2
namespace L2
open PySem PySem.Spec PyProof.Rows
section
variable {X : Cx}
theorem vals_strValues : ∀ (l : List (Str × Tok)), Vals ((l.map (·.1)).map V.str) (strValues l)
  | [] => .nil
  | (x, t) :: l => .cons ⟨t, rfl⟩ (vals_strValues l)
def rSplit : V → List V → Hp → VK → Prop := fun x vs H Q => ∃ s sep, x = .str s ∧ vs = [.str sep] ∧ (sep.length == 0) = false ∧ s.length ≤ sizeLine ∧ (Txt.split s sep).length ≤ sizeLine ∧ ∀ p, H p = none → Q (.ref p) (upd H p (.lst ((Txt.split s sep).map V.str)))
theorem mt_split : MtR X "str.split" rSplit := by
  intro pins s σ H x vs v us Q I rx rv h
  obtain ⟨z, y, rfl, rfl, hy, hz, hn, q⟩ := h
  obtain ⟨t, rfl⟩ := rx
  obtain ⟨u, rfl, t', rfl⟩ := rv.one
  have fin : ∀ (l : List (Str × Tok)) (tk : Nat), l.map (·.1) = Txt.split z y → EP X pins σ Q (.ref s.heap.objs.size) { s with heap := s.heap.push { cls := .type "list", data := .seq (strValues l).toArray }, toks := tk } := fun l tk e => by
    have r := vals_strValues l
    rw [e] at r
    exact ⟨.ref s.heap.objs.size, _, I.lnew (t' := tk) r (by rw [List.length_map]; exact hn), rfl, q _ I.fresh⟩
  cases h1 : (decide (z.length < y.length) || decide (Builtin.Str.strKind z < Builtin.Str.strKind y))
  · cases hf : (Builtin.Str.occurrences z y 0 z.length (z.length + 1)).isEmpty
    · have e : Txt.split z y = Builtin.Str.partsBetween z (Builtin.Str.occurrences z y 0 z.length (z.length + 1)) y.length := by
        unfold Txt.split
        rw [if_neg (by rw [h1]; exact Bool.false_ne_true), if_neg (by rw [hf]; exact Bool.false_ne_true)]
      refine call_meets F.slot_str_split (typeIs_str _ _ _) F.entry_str_split (F.args_str_split_2 _ _) (meets_str_split_sep z y t t' h1 hy hf hz (by rw [← e]; exact hn)) ?_
      show wants _ _ _ { s with toks := _, heap := s.heap.push { cls := .type "list", data := .seq (strsFrom s.toks (Builtin.Str.partsBetween z (Builtin.Str.occurrences z y 0 z.length (z.length + 1)) y.length)).toArray } }
      rw [strsFrom_eq]
      exact fin _ _ ((numbered_texts _ _).trans e.symm)
    · refine call_meets F.slot_str_split (typeIs_str _ _ _) F.entry_str_split (F.args_str_split_2 _ _) (meets_str_split_not_found z y t t' h1 hy hf) ?_
      exact fin [(z, t)] s.toks (by unfold Txt.split; rw [if_neg (by rw [h1]; exact Bool.false_ne_true), if_pos hf]; rfl)
  · refine call_meets F.slot_str_split (typeIs_str _ _ _) F.entry_str_split (F.args_str_split_2 _ _) (meets_str_split_cannot_occur z y t t' h1) ?_
    exact fin [(z, t)] s.toks (by unfold Txt.split; rw [if_pos h1]; rfl)
theorem call_int_text : CallR X (.type "int") (fun xs H Q => ∃ x n, xs = [.str x] ∧ PySem.intText? x = some n ∧ x.length ≤ 640 ∧ Q (.int n) H) := by
  intro pins s σ H xs us Q I r h
  obtain ⟨x, n, rfl, hn, hl, q⟩ := h
  obtain ⟨u, rfl, t, rfl⟩ := vals1 r
  exact PySem.W.KIN.call_text hn hl ⟨.int n, H, I.tok _, ⟨_, rfl⟩, q⟩
def Its (x : Str) : It := ⟨fun i _ => i < x.cps.size, fun i H v H' => H' = H ∧ ∃ c, x.cps[i]? = some c ∧ v = .str ⟨#[c]⟩, fun i _ => x.cps.size ≤ i⟩
theorem turn_ascii {P : Program} {w : World} {K : PySem.W.Frag} {tg : Expr} (x : Str) (t : Tok) (it : Addr) : Turn P w K tg (Its x) [it] it (fun i h => h.IsStrIter it "str_ascii_iterator" x t i) where
  mem := by simp
  obj := fun i h st b hb => by
    have e : b = it := by simpa using hb
    subst e
    obtain ⟨o, e, c, d⟩ := st
    exact ⟨o, e, fun v z => by rw [d] at z; cases z⟩
  keep := fun i h h' st k => by
    obtain ⟨o, e, r⟩ := st
    exact ⟨o, k it (by simp) o e, r⟩
  item := by
    intro X hP hw hK hc i pins s σ H E I hf st hg
    subst hP hw hK
    obtain ⟨f0, f1, f2, f3, f4, f5⟩ := hf it (by simp)
    have hg : i < x.cps.size := hg
    refine wpAny_pyNext_ascii_item st (c := x.cps[i]) (by simp [hg]) fun h' st' sb => ?_
    have I1 : Inv X pins σ H { s with heap := h', toks := s.toks + 1 } := I.turned (fun b o hb e => (sb.2 b hb).trans e) f0 f1 f3 f4 f5
    obtain ⟨o, e, c, d⟩ := id st'
    exact ⟨_, rfl, go_of (s := { s with heap := h', toks := s.toks + 1 }) e c d (by decide) ⟨.str ⟨#[x.cps[i]]⟩, H, I1, ⟨_, rfl⟩, ⟨rfl, _, by simp [hg], rfl⟩, st', fun b hb => (hf b hb).1⟩⟩
  done := by
    intro X hP hw hK hc i pins s σ H E I hf st hg
    subst hP hw hK
    obtain ⟨f0, f1, f2, f3, f4, f5⟩ := hf it (by simp)
    have hg : x.cps.size ≤ i := hg
    exact wpAny_pyNext_ascii_end (I.ok.hd hc) st (by simp [hg]) fun h' eb => ⟨rfl, I.turned (t' := s.toks) (fun b o hb e => eb b o hb e) f0 f1 f3 f4 f5⟩
  self := fun _ _ _ _ _ st h => wpAny_pyIter_striter_ascii st h
theorem turn_wide {P : Program} {w : World} {K : PySem.W.Frag} {tg : Expr} (x : Str) (t : Tok) (it : Addr) : Turn P w K tg (Its x) [it] it (fun i h => h.IsStrIter it "str_iterator" x t i) where
  mem := by simp
  obj := fun i h st b hb => by
    have e : b = it := by simpa using hb
    subst e
    obtain ⟨o, e, c, d⟩ := st
    exact ⟨o, e, fun v z => by rw [d] at z; cases z⟩
  keep := fun i h h' st k => by
    obtain ⟨o, e, r⟩ := st
    exact ⟨o, k it (by simp) o e, r⟩
  item := by
    intro X hP hw hK hc i pins s σ H E I hf st hg
    subst hP hw hK
    obtain ⟨f0, f1, f2, f3, f4, f5⟩ := hf it (by simp)
    have hg : i < x.cps.size := hg
    refine wpAny_pyNext_wide_item st (c := x.cps[i]) (by simp [hg]) fun h' st' sb => ?_
    have I1 : Inv X pins σ H { s with heap := h', toks := s.toks + 1 } := I.turned (fun b o hb e => (sb.2 b hb).trans e) f0 f1 f3 f4 f5
    obtain ⟨o, e, c, d⟩ := id st'
    exact ⟨_, rfl, go_of (s := { s with heap := h', toks := s.toks + 1 }) e c d (by decide) ⟨.str ⟨#[x.cps[i]]⟩, H, I1, ⟨_, rfl⟩, ⟨rfl, _, by simp [hg], rfl⟩, st', fun b hb => (hf b hb).1⟩⟩
  done := by
    intro X hP hw hK hc i pins s σ H E I hf st hg
    subst hP hw hK
    obtain ⟨f0, f1, f2, f3, f4, f5⟩ := hf it (by simp)
    have hg : x.cps.size ≤ i := hg
    exact wpAny_pyNext_wide_end (I.ok.hd hc) st (by simp [hg]) fun h' eb => ⟨rfl, I.turned (t' := s.toks) (fun b o hb e => eb b o hb e) f0 f1 f3 f4 f5⟩
  self := fun _ _ _ _ _ st h => wpAny_pyIter_striter_wide st h
def iStr (tl : TE) : TI := fun σ H R => tl σ H fun x H1 => ∃ z, x = .str z ∧ R (Its z) H1
theorem pi_str {tg l : Expr} {tl : TE} (hl : PE X l tl) : PI X tg l (iStr tl) := by
  intro pins s σ H R I h
  refine thn (hl pins s σ H _ I h) fun v s1 ⟨x, H1, I1, r1, q1⟩ => ?_
  obtain ⟨z, e, q⟩ := q1
  subst e
  obtain ⟨t, rfl⟩ := r1
  have fp : ∀ b ∈ [s1.heap.objs.size], FpOk X pins H1 b := fun b hb => by
    have e : b = s1.heap.objs.size := by simpa using hb
    subst e
    exact I1.fpOk (Nat.le_refl _) (I1.hok.fresh (Nat.le_refl _))
  cases ha : z.cps.all (· < 128)
  · refine wpAny_pyIter_wide ha ?_
    exact ⟨s1.heap.objs.size, [s1.heap.objs.size], _, _, H1, rfl, I1.kept (t' := s1.toks) fun b o e => Heap.get?_push_of_some _ e, turn_wide z t _, ⟨_, Heap.get?_push_size _ rfl, rfl, rfl⟩, fp, q⟩
  · refine wpAny_pyIter_ascii ha ?_
    exact ⟨s1.heap.objs.size, [s1.heap.objs.size], _, _, H1, rfl, I1.kept (t' := s1.toks) fun b o e => Heap.get?_push_of_some _ e, turn_ascii z t _, ⟨_, Heap.get?_push_size _ rfl, rfl, rfl⟩, fp, q⟩
end
end L2
namespace L2
open PySem PySem.Spec PyProof.Rows
section
variable {X : Cx}
theorem vals_bl {bs : List Bool} {its : List Value} (r : Vals (bs.map V.bl) its) : ∀ (i : Nat) (v : Value), its.toArray[i]? = some v → v = .bool (bs.getD i false) := by
  induction bs generalizing its with
  | nil => cases r; intro i v h; simp at h
  | cons n ns ih =>
    cases r with
    | cons r1 r2 =>
      cases r1
      intro i v h
      cases i with
      | zero => simpa using h.symm
      | succ i => simpa using ih r2 i v (by simpa using h)
theorem range_get {α : Type} (bs : List α) (d : α) (p : (Nat → Bool) → Prop) : (List.range bs.length).map (fun i => bs.getD i d) = bs := by
  apply List.ext_getElem?
  intro i
  rw [List.getElem?_map]
  by_cases h : i < bs.length
  · rw [List.getElem?_range h, List.getElem?_eq_getElem h]
    simp [List.getD_eq_getElem?_getD, List.getElem?_eq_getElem h]
  · rw [List.getElem?_eq_none (by simpa using h), List.getElem?_eq_none (by simpa using h)]
    rfl
theorem range_all (bs : List Bool) : (List.range bs.length).all (fun i => bs.getD i false) = bs.all id := by
  have h := congrArg (fun l => List.all l id) (range_get bs false (fun _ => True))
  simpa [List.all_map] using h
theorem call_allL (hc : X.calm = true) : CallR X (.builtin "all") (fun xs H Q => ∃ (p : Addr) (bs : List Bool), xs = [.ref p] ∧ SqL X.K H p (bs.map V.bl) ∧ Q (.bl (bs.all id)) H) := by
  intro pins s σ H xs us Q I r h
  obtain ⟨p, bs, rfl, hq, q⟩ := h
  obtain ⟨u, rfl, rx⟩ := vals1 r
  cases rx
  obtain ⟨its, rv, pl, hz⟩ := I.list hq
  have hlt : p < s.heap.objs.size := by obtain ⟨o, e, _⟩ := pl.isList; exact Heap.lt_size e
  have hl : bs.length = its.toArray.size := by
    have := rv.length
    rw [List.length_map] at this
    rw [List.size_toArray]; exact this
  refine call_all_walk (wpAny_pyIter_list pl.isList ?_)
  refine ⟨s.heap.objs.size, [s.heap.objs.size, p], [s.heap.objs.size], _, _, _, fun i => bs.getD i false, rfl, Walks.list (A := X.A.in1) (I.ok.hd hc) _ p (Nat.ne_of_lt hlt) its.toArray, ⟨⟨_, Heap.get?_push_size _ rfl, rfl, rfl⟩, pl.isList.push _⟩, ?_, fun h' tk hk => ?_⟩
  · intro i v s Q E hP hQ
    rw [vals_bl rv i v hP]
    exact wpAny_truthy_bool hQ
  · rw [← hl, range_all]
    exact ⟨.bl (bs.all id), H, I.kept (old_kept hk), rfl, q⟩
theorem op_mul_str : OpR X (binaryOp .Mult) (fun x y H Q => ∃ z k, x = .str z ∧ y = .int k ∧ MulOk z k ∧ Q (.str (Txt.mul z k)) H) := by
  intro pins s σ H x y v u Q I rx ry h
  obtain ⟨z, k, rfl, rfl, ok, q⟩ := h
  obtain ⟨t, rfl⟩ := rx
  obtain ⟨t', rfl⟩ := ry
  exact SB.mul ok fun t2 k2 => ⟨.str _, H, I.tok k2, ⟨_, rfl⟩, q⟩
def rRepS : R2 := fun x y H Q => ∃ l k xs, x = .ref l ∧ y = .int k ∧ Rd H l (.lst xs) ∧ -(2 ^ 63) ≤ k ∧ k < 2 ^ 63 ∧ xs.length * k.toNat ≤ sizeLine ∧
  ∀ p, H p = none → Q (.ref p) (upd H p (.lst (List.replicate k.toNat xs).flatten))
theorem op_repS : OpR X (binaryOp .Mult) rRepS := by
  intro pins s σ H x y v u Q I rx ry h
  obtain ⟨l, k, xs, rfl, rfl, hH, h1, h2, hz, q⟩ := h
  cases rx
  obtain ⟨t, rfl⟩ := ry
  obtain ⟨its, n, r, e, z⟩ := I.plain hH
  have hl := r.length
  have hlen : its.toArray.size * k.toNat ≤ sizeLine := by rw [List.size_toArray, ← hl]; exact hz
  have hcap : ¬ its.toArray.size * k.toNat > (2 ^ 63 - 1) / 8 := by
    have : (sizeLine : Nat) ≤ (2 ^ 63 - 1) / 8 := by decide
    omega
  have hfit : ¬ (!Builtin.List.listFitsIndex k) = true := by
    rw [fitsIndex_both h1 h2]
    exact Bool.false_ne_true
  have hlong : ¬ Builtin.List.listTooLong (its.toArray.size * k.toNat) = true := by
    rw [notLongL hlen]
    exact Bool.false_ne_true
  have hnew : List.foldl (fun x1 x2 => x1 ++ x2) #[] (List.replicate (if its.toArray.isEmpty = true then 0 else k.toNat) its.toArray) = (List.replicate k.toNat its).flatten.toArray := by
    have f0 : ∀ m : Nat, List.foldl (fun x1 x2 => x1 ++ x2) #[] (List.replicate m its.toArray) = (List.replicate m its).flatten.toArray := fun m => by
      have := foldl_rep its m []
      rw [List.nil_append] at this
      exact this
    rw [f0]
    cases its with
    | nil => simp
    | cons a r' => rw [if_neg (by simp)]
  refine wpAny_binaryOp_repeat_ref (T := "list") (U := "int") (by decide) ⟨_, e, rfl⟩ (fun s' => typeIs_int s' k t) noFill_list_mul F.fills_int_mul F.slot_int_rmul repeat_list F.slot_int_index.lookup
    (call_meets F.slot_int_rmul (typeIs_int s k t) F.entry_int_rmul (F.args_int_rmul_2 _ _) (int___rmul___int_list k t l its.toArray n)
      ⟨e, rfl, ⟨_, e, rfl⟩, call_meets F.slot_list_mul ⟨_, e, rfl⟩ F.entry_list_mul (F.args_list_mul_2 _ _) (AutoListH.list___mul___list_int_3 l its.toArray n k t hfit hcap hlong) ⟨e, ?_⟩⟩)
  rw [hnew]
  exact ⟨.ref _, _, I.lnew (t' := s.toks) (r.rep k.toNat) (by rw [len_rep, Nat.mul_comm]; exact hz), rfl, q _ I.fresh⟩
def tabD (kvs : List (Str × Int)) : List (Str × KTD.Dat) := kvs.map fun p => (p.1, KTD.Dat.flat (.int p.2))
def TabK (K : PySem.W.Frag) (a : Addr) (kvs : List (Str × Int)) : Prop :=
  KTD.tabLook (KTD.datLooks fun b => K.lookup b) (fun b => K.lookup b) a (tabD kvs) = true
def tabAt (k : Str) : List (Str × Int) → Option Int
  | [] => none
  | (x, n) :: r => if decide (k = x) = true then some n else tabAt k r
theorem tab_keys (k : Str) : ∀ kvs : List (Str × Int), KTD.inKeys k (tabD kvs) = (tabAt k kvs).isSome
  | [] => rfl
  | (x, n) :: r => by
    have ih := tab_keys k r
    show (decide (k = x) || KTD.inKeys k (tabD r)) = (if decide (k = x) = true then some n else tabAt k r).isSome
    by_cases hx : k = x
    · rw [if_pos (decide_eq_true hx), decide_eq_true hx]; rfl
    · rw [if_neg (by simp [hx]), decide_eq_false hx, ih]; rfl
theorem TabK.here {K : PySem.W.Frag} {a : Addr} {kvs : List (Str × Int)} {s : Shared} (T : TabK K a kvs) (x : K.In s.heap) : KTD.Here s.heap s.heap a (tabD kvs) := ⟨PySem.W.kt_text_in x T, fun _ _ e => e⟩
theorem op_in_tab : OpR X (compareOp .In) (fun x y H Q => ∃ k a kvs, x = .str k ∧ y = .ref a ∧ TabK X.K a kvs ∧ Q (.bl (tabAt k kvs).isSome) H) := by
  intro pins s σ H x y v u Q I rx ry h
  obtain ⟨k, a, kvs, rfl, rfl, T, q⟩ := h
  obtain ⟨t, rfl⟩ := rx
  cases ry
  refine KTD.in_text (T.here I.kIn) ?_
  rw [tab_keys]
  exact ⟨.bl _, H, I.tok _, rfl, q⟩
theorem sl_str : SlR X (fun x lo hi H Q => ∃ z, x = .str z ∧ z.length ≤ sizeLine ∧ Q (.str (Txt.slice z lo hi)) H) := by
  intro pins s σ H x v vl vu lo hi sl Q I rx hs pl pu h
  obtain ⟨z, rfl, hz, q⟩ := h
  obtain ⟨t, rfl⟩ := rx
  obtain ⟨o, h1, h2, h3⟩ := hs
  have fin : ∀ t' k, EP X pins σ Q (.str (Txt.slice z lo hi) t') { s with toks := k } := fun t' k => ⟨.str _, H, I.tok k, ⟨_, rfl⟩, q⟩
  refine ⟨"str", _, F.slot_str_getitem.lookup, typeIs_str _ _ _, ?_⟩
  have hl := Nat.le_trans (Txt.slice_le z lo hi) hz
  cases pl with
  | none =>
    cases pu with
    | none => exact wpAny_getItem_str_slice (l := none) (u := none) (st := none) ⟨o, h1, h2, h3⟩ rfl (post_val_or_str ⟨hl, fin⟩)
    | int j uj => exact wpAny_getItem_str_slice (l := none) (u := some (j, uj)) (st := none) ⟨o, h1, h2, h3⟩ rfl (post_val_or_str ⟨hl, fin⟩)
  | int i ui =>
    cases pu with
    | none => exact wpAny_getItem_str_slice (l := some (i, ui)) (u := none) (st := none) ⟨o, h1, h2, h3⟩ rfl (post_val_or_str ⟨hl, fin⟩)
    | int j uj => exact wpAny_getItem_str_slice (l := some (i, ui)) (u := some (j, uj)) (st := none) ⟨o, h1, h2, h3⟩ rfl (post_val_or_str ⟨hl, fin⟩)
end
end L2
namespace PySem
open AutoSeq1 (wpAny_loadPart')
set_option maxRecDepth 100000
def kwS (t : Tok) : List (Str × Value) := [(Str.ofString "start", .int 1 t)]
set_option maxHeartbeats 4000000 in
theorem meets_enumerate_start (l : Addr) (items : Array Value) (n : Nat) (t : Tok) :
    Meets (Builtin.«enumerate.__new__» ⟨[.type "enumerate", .ref l], kwS t⟩) (fun _ R s => s.heap.get? l = some { cls := .type "list", dict := none, data := .seq items n, slots := #[] } ∧
      R (.ok (.ret (.ref (s.heap.push { cls := .type "list_iterator", data := .fields #[.ref l, .int 0 0] }).objs.size)))
        { s with heap := (s.heap.push { cls := .type "list_iterator", data := .fields #[.ref l, .int 0 0] }).push { cls := .type "enumerate", data := .fields #[.none, .bool false, .ref s.heap.objs.size, rawInt 1, .none, .none] } }) :=
  .of_wp fun prog w A R s h => by
    obtain ⟨hp, g, d, tk, os⟩ := s; obtain ⟨hl, h⟩ := h
    have hsub := sub_enumerate
    have hL : Heap.IsList (Shared.heap ⟨hp, g, d, tk, os⟩) l items := ⟨_, hl, rfl, n, rfl⟩
    unfold kwS
    wp_walk using wpAny_loadPart' hl
    refine wpAny_stack_any fun st => wpAny_pure ?_
    split
    · rename_i c _ _ _ _ _
      cases (c == Value.type "enumerate")
      · wp_walk using wpAny_loadPart' hl, wpAny_pyIter_list hL
        exact ⟨_, rfl, h⟩
      · wp_walk using wpAny_loadPart' hl, wpAny_pyIter_list hL
        exact ⟨_, rfl, h⟩
    · wp_walk using wpAny_loadPart' hl, wpAny_pyIter_list hL
      exact ⟨_, rfl, h⟩
section
variable {prog : Program} {w : World} {A : Around} {E : Value → Shared → Prop} {s : Shared}
end
end PySem
namespace L2
open PySem PySem.Spec PyProof.Rows
section
variable {X : Cx} {pins : List (Addr × Obj)} {σ : List (Option V)} {H : Hp} {s : Shared} {h' : Heap}
end
section
variable {X : Cx}
end
end L2
namespace DL
open PySem PySem.Spec PyProof.Rows L2
def runP (body : DM Fl) (n : Nat) (ds : List D) : Ro := match body (ds.map .sh ++ List.replicate (n - ds.length) .no) with
  | .ok (.rt d) _ => .ok d
  | .ok (.rto es) _ => .own es
  | .ok .nx _ => .ok .non
  | _ => .un
section
variable {P : Program} {w : World} {K : PySem.W.Frag} {mg : Str → Option Value} {base : Heap} {H : Hp} {Ω : Om}
theorem RepS.start {N : List Str} {ds : List D} {vs : List V} (hr : Reps K H Ω ds vs) (ht : Trk H Ω) : RepS K H Ω (L2.start N vs) (ds.map .sh ++ List.replicate (N.length - ds.length) .no) := by
  have hl := hr.length
  refine ⟨by unfold L2.start; rw [List.length_append, List.length_append, List.length_map, List.length_map, List.length_replicate, List.length_replicate, hl], fun i s h => ?_, ht⟩
  by_cases hi : i < ds.length
  · rw [List.getElem?_append_left (by rw [List.length_map]; exact hi), List.getElem?_map] at h
    obtain ⟨d, hd⟩ : ∃ d, ds[i]? = some d := ⟨ds[i], List.getElem?_eq_getElem hi⟩
    rw [hd] at h
    cases h
    obtain ⟨v, hv, r⟩ := hr.get hd
    refine ⟨v, ?_, r⟩
    unfold L2.start
    rw [List.getElem?_append_left (by rw [List.length_map, ← hl]; exact hi), List.getElem?_map, hv]
    rfl
  · rw [List.getElem?_append_right (by rw [List.length_map]; omega), List.getElem?_replicate] at h
    split at h
    · cases h; trivial
    · cases h
theorem fnP {ce : Str → Value} {x qual : Str} {st : Stmt} {f : Addr} {fd : FuncData} {N ps : List Str} {k : Nat} {body : DM Fl} (F : Fun K x qual st f fd) (S : FnScope N ps (defScope st))
    (hb : ∀ (cdv : Value) (A : Around) (outer : List Env) (s : Shared) (H : Hp) (E : XK), Room k (A.deeper (envOfC qual (defScope st) s.heap.objs.size f cdv)) →
      PSsD (cxOf CX0 P w K mg base N qual (defScope st) f cdv A outer s H E).nox EN [] (defBody st) body) : FnOk P w K mg base CX0 (k + 1) f fd ps (spP K ce ps.length (runP body N.length)) := by
  refine F.ok S (fun vs H Q E h => h.1) (fun cdv A outer s H vs Q E hr h => ?_)
  obtain ⟨ts, p, d⟩ := hb cdv A outer s H E hr
  refine ⟨ts, p, ?_⟩
  obtain ⟨hl, Ω, ds, ht, h0, hr, hq⟩ := h
  refine d (L2.start N vs) H _ Ω (RepS.start hr ht) _ ?_
  unfold runP at hq
  cases e : body (ds.map .sh ++ List.replicate (N.length - ds.length) .no) with
  | un => rw [e] at hq; exact hq
  | er c => rw [e] at hq; exact hq.elim
  | ok fl δ' =>
    rw [e] at hq
    cases fl with
    | nx => exact fun H' Ω' ex σ' R' _ => hq H' Ω' ex R'.trk .non rfl
    | bk => exact hq.elim
    | ct => exact hq.elim
    | rt d => exact fun H' Ω' ex σ' R' _ v r => hq H' Ω' ex R'.trk v r
    | rto es => exact fun H' Ω' ex σ' R' _ v r => hq H' Ω' ex R'.trk v r
end
section
variable {X : Cx} {E : Str → Hp → Prop} {pos : Pos} {a b c e : Expr} {f g : DM DV} {mp : List Nat}
theorem ped_var (i : Nat) {x : Str} (hN : X.N[i]? = some x := by rfl) (hv : Vis X.env.scope x := by first | exact Or.inl rfl | exact Or.inr (Or.inl rfl) | exact Or.inr (Or.inr rfl)) (hd : (x == ("__debug__" : Str)) = false := by decide)
    (hcd : (x == ("__classdict__" : Str)) = false := by decide) : PED X E (.Name x pos) (fVar i) := ⟨_, pv i hN hv hd hcd, de_var⟩
theorem ped_int {i j} : PED X E (.Constant (.int i) j pos) (fC (.int i)) := ⟨_, pe_int, de_c fun _ _ => rfl⟩
theorem ped_bl {i j} : PED X E (.Constant (.bool i) j pos) (fC (.bl i)) := ⟨_, pe_bl, de_c fun _ _ => rfl⟩
theorem ped_str {x j} : PED X E (.Constant (.str x) j pos) (fC (.str x)) := ⟨_, pe_str, de_c fun _ _ => rfl⟩
def GlobD (K : PySem.W.Frag) (mg : Str → Option Value) (x : Str) (d : D) : Prop := ∃ u v, mg x = some u ∧ RelV v u ∧ ∀ H Ω, Rep K H Ω d v
theorem ped_glob {x : Str} {d : D} (hm : GlobD X.K X.mg x d) (hg : Gl X x := by rfl) (hd : (x == ("__debug__" : Str)) = false := by decide) : PED X E (.Name x pos) (fC d) := by
  obtain ⟨u, v, h1, h2, h3⟩ := hm
  exact ⟨_, pe_glob hg h1 h2 hd, de_c h3⟩
def cmul (i j : Int) : Bool := (decide (-18446744073709551616 < i) && decide (i < 18446744073709551616)) || (decide (-18446744073709551616 < j) && decide (j < 18446744073709551616))
theorem cmul_ok {i j : Int} (h : cmul i j = true) : CMul i j := by
  unfold cmul at h
  unfold CMul
  simpa using h
def cdiv (j : Int) : Bool := decide (0 < j) && decide (j < 1073741824)
def gAdd : D → D → Option DV
  | .int i, .int j => some (.val (.int (i + j)))
  | .str x, .str y => if x.length + y.length ≤ sizeLine then some (.val (.str (x ++ y))) else none
  | .lst xs, .lst ys => if xs.length + ys.length ≤ sizeLine then some (.own (xs ++ ys)) else none
  | _, _ => none
def gSub : D → D → Option DV
  | .int i, .int j => some (.val (.int (i - j)))
  | _, _ => none
def mulok (n : Nat) (k : Int) : Bool := decide (-(2 ^ 62) ≤ k) && decide (k < 2 ^ 62) && decide (n * k.toNat ≤ sizeLine)
theorem mulok_ok {z : Str} {k : Int} (h : mulok z.length k = true) : MulOk z k := by
  unfold mulok at h
  simp only [Bool.and_eq_true, decide_eq_true_eq] at h
  obtain ⟨⟨h1, h2⟩, h3⟩ := h
  refine ⟨?_, ?_, ?_⟩
  · rw [decide_eq_false (by omega), decide_eq_false (by omega)]; rfl
  · intro hk _
    have hs : sizeLine ≤ 2 ^ 62 := by decide
    have h4 : (z.length : Int) * k ≤ 2 ^ 63 - 1 := by
      have e : ((z.length * k.toNat : Nat) : Int) = (z.length : Int) * k := by
        rw [Int.natCast_mul, Int.toNat_of_nonneg (by omega)]
      omega
    have : (z.length : Int) ≤ (2 ^ 63 - 1) / k := Int.le_ediv_of_mul_le (by omega) h4
    omega
  · intro _ _
    (show Builtin.Str.tooLong _ = false); unfold Builtin.Str.tooLong; exact decide_eq_false (by omega)
def gMul : D → D → Option DV
  | .int i, .int j => if cmul i j then some (.val (.int (i * j))) else none
  | .str z, .int k => if mulok z.length k then some (.val (.str (Txt.mul z k))) else none
  | .lst ds, .int k => if mulok ds.length k then some (.own (List.replicate k.toNat ds).flatten) else none
  | _, _ => none
def gDiv : D → D → Option DV
  | .int i, .int j => if cdiv j then some (.val (.int (i / j))) else none
  | _, _ => none
def gMod : D → D → Option DV
  | .int i, .int j => if decide (0 < j) then some (.val (.int (i % j))) else none
  | _, _ => none
theorem rB_lst {K : PySem.W.Frag} {H : Hp} {Ω : Om} {ds : List D} {v : V} (h : RepB K H Ω (.lst ds) v) : ∃ a vs, v = .ref a ∧ Rd H a (.lst vs) ∧ Reps K H Ω ds vs := h
theorem rB_tup {K : PySem.W.Frag} {H : Hp} {Ω : Om} {ds : List D} {v : V} (h : RepB K H Ω (.tup ds) v) : ∃ a vs, v = .ref a ∧ SqT K H a vs ∧ Reps K H Ω ds vs := (show ∃ a vs, _ from h)
theorem dr_add {K : PySem.W.Frag} : DR K (fun x y H Q => rI0 (fun i j => .int (i + j)) x y H Q ∨ (∃ i j, x = .str i ∧ y = .str j ∧ i.length + j.length ≤ sizeLine ∧ Q (.str (i ++ j)) H) ∨ rCatS x y H Q) gAdd := by
  intro E σ H δ Ω x y d1 d2 z Q R r1 r2 hz h
  unfold gAdd at hz
  split at hz
  · cases hz
    exact .inl ⟨_, _, r1, r2, h.now R rfl⟩
  · split at hz
    · rename_i hl
      cases hz
      exact .inr (.inl ⟨_, _, r1, r2, hl, h.now R rfl⟩)
    · cases hz
  · split at hz
    · rename_i hl
      cases hz
      obtain ⟨a, vs, e1, e2, e3⟩ := rB_lst r1
      obtain ⟨b, ws, q1, q2, q3⟩ := rB_lst r2
      refine .inr (.inr ⟨a, b, vs, ws, e1, q1, e2, q2, by rw [← e3.length, ← q3.length]; exact hl, fun p hp => h.alloc1 R hp (e3.append q3)⟩)
    · cases hz
  · cases hz
def BinD (X : Cx) (op : Operator) (gg : D → D → Option DV) : Prop := ∃ r, OpR X (binaryOp op) r ∧ DR X.K r gg
theorem bin_add : BinD X .Add gAdd := ⟨_, op_add.or (op_add_str.or op_catS), dr_add⟩
theorem bin_sub : BinD X .Sub gSub := ⟨_, op_sub, by
  intro E σ H δ Ω x y d1 d2 z Q R r1 r2 hz h
  unfold gSub at hz
  split at hz
  · cases hz; exact ⟨_, _, r1, r2, h.now R rfl⟩
  · cases hz⟩
theorem Reps.rep {K : PySem.W.Frag} {H : Hp} {Ω : Om} {ds : List D} {vs : List V} (r : Reps K H Ω ds vs) : ∀ k : Nat, Reps K H Ω (List.replicate k ds).flatten (List.replicate k vs).flatten
  | 0 => .nil
  | k + 1 => by
    rw [List.replicate_succ, List.replicate_succ, List.flatten_cons, List.flatten_cons]
    exact r.append (Reps.rep r k)
theorem bin_mul : BinD X .Mult gMul := ⟨_, op_mul.or (op_mul_str.or op_repS), by
  intro E σ H δ Ω x y d1 d2 z Q R r1 r2 hz h
  unfold gMul at hz
  split at hz
  · split at hz
    · rename_i hc
      cases hz; exact .inl ⟨_, _, r1, r2, cmul_ok hc, h.now R rfl⟩
    · cases hz
  · split at hz
    · rename_i hc
      cases hz; exact .inr (.inl ⟨_, _, r1, r2, mulok_ok hc, h.now R rfl⟩)
    · cases hz
  · split at hz
    · rename_i hc
      cases hz
      obtain ⟨a, vs, e1, e2, e3⟩ := rB_lst r1
      unfold mulok at hc
      simp only [Bool.and_eq_true, decide_eq_true_eq] at hc
      exact .inr (.inr ⟨a, _, vs, e1, r2, e2, by omega, by omega, by rw [← e3.length]; exact hc.2, fun p hp => h.alloc1 R hp (e3.rep _)⟩)
    · cases hz
  · cases hz⟩
theorem bin_div : BinD X .FloorDiv gDiv := ⟨_, op_fdiv, by
  intro E σ H δ Ω x y d1 d2 z Q R r1 r2 hz h
  unfold gDiv at hz
  split at hz
  · split at hz
    · rename_i hc
      cases hz
      unfold cdiv at hc
      exact ⟨_, _, r1, r2, (by simpa using hc : _ ∧ _), h.now R rfl⟩
    · cases hz
  · cases hz⟩
theorem bin_mod : BinD X .Mod gMod := ⟨_, op_mod, by
  intro E σ H δ Ω x y d1 d2 z Q R r1 r2 hz h
  unfold gMod at hz
  split at hz
  · split at hz
    · rename_i hc
      cases hz
      exact ⟨_, _, r1, r2, by simpa using hc, h.now R rfl⟩
    · cases hz
  · cases hz⟩
theorem ped_bin {op : Operator} {gg : D → D → Option DV} (ho : BinD X op gg) (ha : PED X E a f) (hb : PED X E b g) : PED X E (.BinOp a op b pos) (fBin f g gg) := by
  obtain ⟨r, h1, h2⟩ := ho
  obtain ⟨ta, p1, d1⟩ := ha
  obtain ⟨tb, p2, d2⟩ := hb
  exact ⟨_, pe_op h1 p1 p2, de_bin h2 d1 d2⟩
def gCmp (p : Int → Int → Bool) : D → D → Option DV
  | .int i, .int j => some (.val (.bl (p i j)))
  | _, _ => none
theorem dr_cmp {K : PySem.W.Frag} {p : Int → Int → Bool} : DR K (rI0 fun i j => .bl (p i j)) (gCmp p) := by
  intro E σ H δ Ω x y d1 d2 z Q R r1 r2 hz h
  unfold gCmp at hz
  split at hz
  · cases hz; exact ⟨_, _, r1, r2, h.now R rfl⟩
  · cases hz
def lt (i j : Int) : Bool := decide (i < j)
def gt (i j : Int) : Bool := decide (j < i)
def ge (i j : Int) : Bool := decide (j ≤ i)
def CmpD (X : Cx) (op : CmpOp) (gg : D → D → Option DV) : Prop := ∃ r, OpR X (compareOp op) r ∧ DR X.K r gg
theorem cmp_lt : CmpD X .Lt (gCmp lt) := ⟨_, op_lt, dr_cmp (p := lt)⟩
theorem cmp_gt : CmpD X .Gt (gCmp gt) := ⟨_, op_gt, dr_cmp (p := gt)⟩
theorem ped_cmp {op : CmpOp} {gg : D → D → Option DV} (ho : CmpD X op gg) (ha : PED X E a f) (hb : PED X E b g) (hm : behindInMarks op b = false) : PED X E (.Compare a [op] [b] pos) (fBin f g gg) := by
  obtain ⟨r, h1, h2⟩ := ho
  obtain ⟨ta, p1, d1⟩ := ha; obtain ⟨tb, p2, d2⟩ := hb
  exact ⟨_, pe_cmpR h1 p1 p2 hm, de_bin h2 d1 d2⟩
theorem ptd_cmp {op : CmpOp} {gg : D → D → Option DV} (ho : CmpD X op gg) (ha : PED X E a f) (hb : PED X E b g) (hm : behindInMarks op b = false) : PTD X E (.Compare a [op] [b] pos) (fTest (fBin f g gg)) := by
  obtain ⟨r, h1, h2⟩ := ho
  obtain ⟨ta, p1, d1⟩ := ha; obtain ⟨tb, p2, d2⟩ := hb
  exact ⟨_, pt_cmpR h1 p1 p2 hm, dt_test (de_bin h2 d1 d2)⟩
theorem pwd_or1 {fa : DM Bool} (ha : PTD X E a fa) : PWD X E (.BoolOp .Or [a] pos) fa := by
  obtain ⟨t, p, d⟩ := ha; exact ⟨_, pw_or1 p, d⟩
theorem pwd_or {fa fb : DM Bool} {rest : List Expr} (ha : PTD X E a fa) (hb : PWD X E (.BoolOp .Or (b :: rest) pos) fb) : PWD X E (.BoolOp .Or (a :: b :: rest) pos) (fOrT fa fb) := by
  obtain ⟨t, p, d⟩ := ha; obtain ⟨u, q, e⟩ := hb; exact ⟨_, pw_or p q, dt_or d e⟩
theorem ptd_bool {fa : DM Bool} (h : PWD X E a fa) : PTD X E a fa := by
  obtain ⟨t, p, d⟩ := h; exact ⟨_, p.pt, d⟩
theorem ptd_not {fa : DM Bool} (ha : PTD X E a fa) : PTD X E (.UnaryOp .Not a pos) (fNotT fa) := by
  obtain ⟨t, p, d⟩ := ha; exact ⟨_, pt_not p, dt_not d⟩
theorem ped_one {op} (ha : PED X E a f) : PED X E (.BoolOp op [a] pos) f := by
  obtain ⟨t, p, d⟩ := ha; exact ⟨_, pe_one p, d⟩
theorem ped_and {rest : List Expr} (ha : PED X E a f) (hb : PED X E (.BoolOp .And (b :: rest) pos) g) : PED X E (.BoolOp .And (a :: b :: rest) pos) (fAndV f g) := by
  obtain ⟨t, p, d⟩ := ha; obtain ⟨u, q, e⟩ := hb; exact ⟨_, pe_and p q, de_and d e⟩
theorem ped_not (ha : PED X E a f) : PED X E (.UnaryOp .Not a pos) (fNotV f) := by
  obtain ⟨t, p, d⟩ := ha; exact ⟨_, pe_not p, de_not d⟩
theorem ptd_val (ha : PED X E a f) (he : ∀ whole, isTrue a X.env whole = (do let v ← whole; standAt a.pos; holding [v] (truthy v)) := by intro _; rfl) : PTD X E a (fTest f) := by
  obtain ⟨ta, p1, d1⟩ := ha
  exact ⟨_, pt_val p1 he, dt_tB d1⟩
def gIx : D → D → Option DV
  | .lst ds, .int i => (atI ds i).map .val
  | .tup ds, .int i => (atI ds i).map .val
  | .str z, .int i => if z.length ≤ sizeLine then (atI z.cps.toList i).map fun c => .val (.str ⟨#[c]⟩) else none
  | .scr ns, .int i => (atI ns i).map fun n => .val (.int n)
  | _, _ => none
theorem atI_reps {K : PySem.W.Frag} {H : Hp} {Ω : Om} {ds : List D} {vs : List V} {i : Int} {d : D} (r : Reps K H Ω ds vs) (h : atI ds i = some d) : ∃ v, atI vs i = some v ∧ Rep K H Ω d v := by
  unfold atI at h ⊢
  rw [← r.length]
  cases e : ixN ds.length i with
  | none => rw [e] at h; cases h
  | some j => rw [e] at h; exact r.get h
theorem ped_ix (ha : PED X E a f) (hb : PED X E b g) (hs : PlainIx b := by intro _ _; rfl) : PED X E (.Subscript a b pos) (fBin f g gIx) := by
  obtain ⟨ta, p1, d1⟩ := ha
  obtain ⟨tb, p2, d2⟩ := hb
  refine ⟨_, pe_ix ix_seq p1 p2 hs, de_bin ?_ d1 d2⟩
  intro E σ H δ Ω x y d1 d2 z Q R r1 r2 hz h
  unfold gIx at hz
  split at hz
  · obtain ⟨d, e, rfl⟩ := Option.map_eq_some_iff.mp hz
    obtain ⟨p, vs, e1, e2, e3⟩ := rB_lst r1
    obtain ⟨v, q, rv⟩ := atI_reps e3 e
    exact .inl ⟨p, vs, _, v, e1, r2, .inl e2, q, h.now R rv⟩
  · obtain ⟨d, e, rfl⟩ := Option.map_eq_some_iff.mp hz
    obtain ⟨p, vs, e1, e2, e3⟩ := rB_tup r1
    obtain ⟨v, q, rv⟩ := atI_reps e3 e
    exact .inr (.inl ⟨p, vs, _, v, e1, r2, e2, q, h.now R rv⟩)
  · split at hz
    · rename_i hl
      obtain ⟨c, e, rfl⟩ := Option.map_eq_some_iff.mp hz
      exact .inr (.inr ⟨_, _, c, r1, r2, hl, e, h.now R rfl⟩)
    · cases hz
  · obtain ⟨n, e, rfl⟩ := Option.map_eq_some_iff.mp hz
    obtain ⟨p, e1, e2⟩ := (show ∃ a, _ from r1)
    refine .inl ⟨p, _, _, .int n, e1, r2, e2.sq, ?_, h.now R rfl⟩
    unfold atI at e ⊢
    rw [List.length_map]
    obtain ⟨j, h1, h2⟩ := Option.bind_eq_some_iff.mp e
    rw [h1]
    show (List.map V.int _)[j]? = _
    rw [List.getElem?_map, h2]
    rfl
  · cases hz
theorem pad_nil : PAD X E [] fNil := ⟨_, pa_nil, da_nil⟩
theorem pad_cons {es : List Expr} {r : DM (List DV)} (ha : PED X E e f) (hr : PAD X E es r) (hs : starEach (e :: es) X.env = (false, eval e X.env) :: starEach es X.env := by rfl) : PAD X E (e :: es) (fCons f r) := by
  obtain ⟨t, p, d⟩ := ha; obtain ⟨u, q, c⟩ := hr; exact ⟨_, pa_cons p q hs, da_cons d c⟩
theorem ped_tup {es : List Expr} {r : DM (List DV)} {k : Nat} (h : PAD X E es r) : PED X E (.Tuple es k pos) (fTup r) := by
  obtain ⟨t, p, d⟩ := h; exact ⟨_, pe_tup p, de_tup d⟩
theorem ped_lst {es : List Expr} {r : DM (List DV)} (h : PAD X E es r) : PED X E (.List es pos) (fLst r) := by
  obtain ⟨t, p, d⟩ := h; exact ⟨_, pe_lst p, de_lst d⟩
structure DefP (P : Program) (w : World) (K : PySem.W.Frag) (mg : Str → Option Value) (base : Heap) (k : Nat) (x : Str) (n : Nat) (M : List D → Ro) : Prop where
  ex : ∃ (f : Addr) (fd : FuncData) (ps : List Str), FnOk P w K mg base CX0 k f fd ps (spP K (fun _ => .none) n M) ∧ mg x = some (.ref f) ∧ PySem.W.keepIn K (.ref f) = true ∧ Binds K fd ps []
theorem ped_call {k n : Nat} {x : Str} {M : List D → Ro} {p : Pos} {es : List Expr} {r : DM (List DV)} (F : DefP X.prog X.w X.K X.mg X.base k x n M) (hr : Room k X.A) (ha : PAD X EN (e :: es) r) (hg : Gl X x := by rfl)
    (hdb : (x == ("__debug__" : Str)) = false := by decide) (he : starEach (e :: es) X.env = (false, eval e X.env) :: starEach es X.env := by rfl) (hpl : (backTo pos (starEach es X.env)).any (·.1) = false := by rfl) :
    PED X EN (.Call (.Name x p) (e :: es) [] pos) (fCall n r M) := by
  obtain ⟨fa, fd, ps, F, hm, kp, b⟩ := F.ex
  obtain ⟨t, q, d⟩ := ha
  exact ⟨_, pe_call F hr hg hm kp b .nil pass0 q hdb he hpl, de_call (fun _ _ z => z) d⟩
def CallD (X : Cx) (fv : Value) (gg : List D → Option DV) : Prop := ∃ r, CallR X fv r ∧ DC X.K r gg
theorem ped_cb {id : String} {gg : List D → Option DV} {x : Str} {p : Pos} {es : List Expr} {r : DM (List DV)} (hc : CallD X (.builtin id) gg) (hm : X.mg x = none) (hv : bootBuiltins x = some (.builtin id)) (ha : PAD X E (e :: es) r) (hg : Gl X x := by rfl)
    (hn : x ≠ "__name__" := by decide) (hdb : (x == ("__debug__" : Str)) = false := by decide) (he : starEach (e :: es) X.env = (false, eval e X.env) :: starEach es X.env := by rfl) (hpl : (backTo pos (starEach es X.env)).any (·.1) = false := by rfl) :
    PED X E (.Call (.Name x p) (e :: es) [] pos) (fCB r gg) := by
  obtain ⟨rr, h1, h2⟩ := hc
  obtain ⟨t, q, d⟩ := ha
  exact ⟨_, pe_callB h1 hg hm hv q hn hdb he hpl, de_cb h2 d⟩
theorem ped_cty {T : String} {gg : List D → Option DV} {x : Str} {p : Pos} {es : List Expr} {r : DM (List DV)} (hc : CallD X (.type T) gg) (hm : X.mg x = none) (hv : bootBuiltins x = some (.type T)) (ha : PAD X E (e :: es) r) (hg : Gl X x := by rfl)
    (hn : x ≠ "__name__" := by decide) (hdb : (x == ("__debug__" : Str)) = false := by decide) (he : starEach (e :: es) X.env = (false, eval e X.env) :: starEach es X.env := by rfl) (hpl : (backTo pos (starEach es X.env)).any (·.1) = false := by rfl) :
    PED X E (.Call (.Name x p) (e :: es) [] pos) (fCB r gg) := by
  obtain ⟨rr, h1, h2⟩ := hc
  obtain ⟨t, q, d⟩ := ha
  exact ⟨_, pe_callTy h1 hg hm hv q hn hdb he hpl, de_cb h2 d⟩
theorem rBs_one {K : PySem.W.Frag} {H : Hp} {Ω : Om} {d : D} {vs : List V} (h : RepBs K H Ω [d] vs) : ∃ v, vs = [v] ∧ RepB K H Ω d v := by
  obtain ⟨v, r, e1, e2, e3⟩ := h
  cases (show r = [] from e3)
  exact ⟨v, e1, e2⟩
def gLen : List D → Option DV
  | [.lst ds] => some (.val (.int ds.length))
  | [.tup ds] => some (.val (.int ds.length))
  | [.str x] => if x.length ≤ sizeLine then some (.val (.int x.length)) else none
  | [.scr ns] => some (.val (.int ns.length))
  | _ => none
theorem cb_len : CallD X (.builtin "len") gLen := ⟨_, call_len, by
  intro E σ H δ Ω vs ds z Q R r hz h
  unfold gLen at hz
  split at hz
  · cases hz
    obtain ⟨v, e, rv⟩ := rBs_one r
    obtain ⟨a, ws, e1, e2, e3⟩ := rB_lst rv
    subst e1
    exact ⟨.ref a, ws.length, e, .inl ⟨ws, .inl e2, rfl⟩, by rw [← e3.length]; exact h.now R rfl⟩
  · cases hz
    obtain ⟨v, e, rv⟩ := rBs_one r
    obtain ⟨a, ws, e1, e2, e3⟩ := rB_tup rv
    subst e1
    exact ⟨.ref a, ws.length, e, .inr ⟨ws, e2, rfl⟩, by rw [← e3.length]; exact h.now R rfl⟩
  · split at hz
    · rename_i x hl
      cases hz
      obtain ⟨v, e, rv⟩ := rBs_one r
      cases (show v = .str x from rv)
      exact ⟨.str x, x.length, e, ⟨hl, rfl⟩, h.now R rfl⟩
    · cases hz
  · rename_i ns
    cases hz
    obtain ⟨v, e, rv⟩ := rBs_one r
    obtain ⟨p, e1, e2⟩ := (show ∃ a, _ from rv)
    subst e1
    exact ⟨.ref p, ns.length, e, .inl ⟨_, e2.sq, by rw [List.length_map]⟩, h.now R rfl⟩
  · cases hz⟩
def gStr : List D → Option DV
  | [.int i] => if i.natAbs.log2 < 1920 then some (.val (.str (Str.ofString (toString i)))) else none
  | [.str x] => some (.val (.str x))
  | _ => none
theorem cb_str : CallD X (.type "str") gStr := ⟨_, call_str1, by
  intro E σ H δ Ω vs ds z Q R r hz h
  unfold gStr at hz
  split at hz
  · split at hz
    · rename_i i hl
      cases hz
      obtain ⟨v, e, rv⟩ := rBs_one r
      cases (show v = .int i from rv)
      exact .inl ⟨i, e, hl, h.now R rfl⟩
    · cases hz
  · rename_i x
    cases hz
    obtain ⟨v, e, rv⟩ := rBs_one r
    cases (show v = .str x from rv)
    exact .inr ⟨x, e, h.now R rfl⟩
  · cases hz⟩
def tyD : D → String
  | .non => "NoneType" | .bl _ => "bool" | .int _ => "int" | .str _ => "str" | .tup _ => "tuple" | .lst _ => "list" | .scr _ => "list" | .exc _ => ""
def isTs : List String := ["int", "bool", "str", "list", "tuple"]
def isExc : D → Bool
  | .exc _ => true
  | _ => false
def isD (T : String) (d : D) : Option Bool := if isExc d then none else if isTs.contains T then some (tyD d == T || (tyD d == "bool" && T == "int")) else none
end
end DL
namespace DL
open PySem PySem.Spec PyProof.Rows L2
section
variable {X : Cx} {E : Str → Hp → Prop} {pos : Pos} {a b c e : Expr} {f g : DM DV} {mp : List Nat}
def kitF (A B : String) : Option Bool := if (Value.type A == Value.type B) = true then some true else if PySem.W.kitMeta B = true then (fastBuiltinMro A).map (·.contains (Value.type B)) else none
theorem kit_all : (isTs.all fun T => ["NoneType", "bool", "int", "str", "tuple", "list"].all fun A => kitF A T == some (A == T || (A == "bool" && T == "int"))) = true := by decide +kernel
theorem kit_of {K : PySem.W.Frag} {T : String} {d : D} {bb : Bool} (h : isD T d = some bb) : PySem.W.kitOne K (.type (tyD d)) (.type T) = some bb := by
  unfold isD at h
  split at h
  · cases h
  rename_i hE
  split at h
  · rename_i hT
    cases h
    have h1 := List.all_eq_true.mp kit_all T (List.contains_iff_mem.mp hT)
    have h2 := List.all_eq_true.mp h1 (tyD d) (by cases d <;> first | exact absurd rfl hE | simp [tyD])
    exact (beq_iff_eq.mp h2 : kitF (tyD d) T = _)
  · cases h
theorem tyD_of {K : PySem.W.Frag} {H : Hp} {Ω : Om} {d : D} {x : V} {T : String} {bb : Bool} (h : RepB K H Ω d x) (hd : isD T d = some bb) : TyD K H x (tyD d) := by
  cases d with
  | non => cases (show x = .non from h); exact .non
  | bl y => cases (show x = .bl y from h); exact .bl y
  | int y => cases (show x = .int y from h); exact .int y
  | str y => cases (show x = .str y from h); exact .str y
  | tup ds => obtain ⟨p, vs, e1, e2, e3⟩ := rB_tup h; subst e1; exact .tup e2
  | lst ds => obtain ⟨p, vs, e1, e2, e3⟩ := rB_lst h; subst e1; exact .lst (.inl e2)
  | scr ns => obtain ⟨p, e1, e2⟩ := (show ∃ a, _ from h); subst e1; exact .lst e2.sq
  | exc c => cases hd
def gIs (T : String) (d : D) : Option DV := (isD T d).map fun bb => .val (.bl bb)
theorem ped_isi {T : String} {x : Str} {p p2 : Pos} (hm : X.mg "isinstance" = none) (hm2 : X.mg x = none) (hv : bootBuiltins x = some (.type T)) (ha : PED X E e f) (hg : Gl X "isinstance" := by rfl) (hg2 : Gl X x := by rfl)
    (hn : x ≠ "__name__" := by decide) (hdb : (x == ("__debug__" : Str)) = false := by decide)
    (hs : starEach [e, .Name x p2] X.env = (false, eval e X.env) :: starEach [.Name x p2] X.env := by rfl) (hs2 : starEach [.Name x p2] X.env = (false, eval (.Name x p2) X.env) :: starEach [] X.env := by rfl)
    (hpl : (backTo pos (starEach [.Name x p2] X.env)).any (·.1) = false := by rfl) :
    PED X E (.Call (.Name "isinstance" p) [e, .Name x p2] [] pos) (fUn f (gIs T)) := by
  obtain ⟨t, q, d⟩ := ha
  refine ⟨_, pe_callB call_isinst hg hm boot_isinstance (pa_cons q (pa_cons (pe_bltn (v := .ty T) hg2 hm2 hv rfl hn hdb) pa_nil hs2) hs) (by decide) (by decide) hs hpl, ?_⟩
  intro σ H δ Ω R Q h
  refine d.use R h fun a1 x δ1 H1 Ω1 _ s1 R1 r1 h1 => ?_
  (try dsimp only at h1)
  cases q1 : res δ1 a1 with
  | none => rw [q1] at h1; exact h1.elim
  | some d1 =>
    rw [q1] at h1
    (try dsimp only at h1)
    cases q3 : isD T d1 with
    | none =>
      unfold gIs at h1
      rw [q3] at h1
      exact h1.elim
    | some bb =>
      unfold gIs at h1
      rw [q3] at h1
      exact ⟨x, T, tyD d1, bb, rfl, tyD_of (r1.res R1 q1) q3, kit_of q3, Wg.now (d := .val (.bl bb)) h1 R1 rfl⟩
def MtD (X : Cx) (T id : String) (gg : D → List D → Option DV) : Prop := ∃ r, MtR X id r ∧ ∀ {E : Str → Hp → Prop} {σ : St} {H : Hp} {δ : DSt} {Ω : Om} {x : V} {vs : List V} {d : D} {ds : List D} {z : DV} {Q : VK},
  RepS X.K H Ω σ δ → RepB X.K H Ω d x → RepBs X.K H Ω ds vs → gg d ds = some z → Wg E H Ω (PV X.K σ Q) (.ok z δ) → r x vs H Q
def fBM (fo : DM DV) (fa : DM (List DV)) (gg : D → List D → Option DV) : DM DV := (fN fo).bd fun o => fun δ0 => match res δ0 o with
  | some (.str _) => (fa.bd fun as => fun δ => match res δ o, resAll δ as with
    | some d, some ds => (match gg d ds with | some r => .ok r δ | none => .un)
    | _, _ => .un) δ0
  | _ => .un
theorem ped_bm {id : String} {o : Expr} {es : List Expr} {name : Str} {apos cpos : Pos} {fo : DM DV} {fa : DM (List DV)} {gg : D → List D → Option DV} (hm : MtD X "str" id gg) (slot : Slot "str" name id) (hty : typeOf (.builtin id) = pure (.type "method_descriptor"))
    (ho : PED X E o fo) (ha : PAD X E (e :: es) fa)
    (hbase : attributeBase o name X.env (eval o X.env) = eval o X.env := by rfl)
    (hfew : ((backTo cpos (starEach (e :: es) X.env)).all (fun x => !x.1) && (backToKw cpos (keywordEach [] X.env)).all (fun x => x.1.isSome)
      && decide ((e :: es).length + ([] : List Keyword).length + (if ([] : List Keyword).isEmpty then 0 else 1) < 30)) = true := by rfl)
    (hline : (apos.endLine == cpos.line) = true := by rfl) (hs : starEach (e :: es) X.env = (false, eval e X.env) :: starEach es X.env := by rfl) (hplain : (backTo cpos (starEach es X.env)).any (·.1) = false := by rfl) :
    PED X E (.Call (.Attribute o name apos) (e :: es) [] cpos) (fBM fo fa gg) := by
  obtain ⟨r, h1, h2⟩ := hm
  obtain ⟨to, p1, d1⟩ := ho
  obtain ⟨ta, p2, d2⟩ := ha
  refine ⟨_, pe_bm PySem.F.plainAttrs_str slot hty h1 p1 p2 hbase hfew hline hs hplain, ?_⟩
  intro σ H δ Ω R Q h
  refine d1.use R h fun a1 x δ1 H1 Ω1 _ s1 R1 r1 h1 => ?_
  (try dsimp only at h1)
  split at h1
  · rename_i z q1
    have ty : tyV X.K "str" x H1 := by
      have rb := r1.res R1 q1
      cases (show x = .str z from rb)
      exact rfl
    refine ⟨ty, d2.use R1 h1 fun as vs δ2 H2 Ω2 e2 s2 R2 r2 h3 => ?_⟩
    (try dsimp only at h3)
    cases q2 : res δ2 a1 with
    | none => rw [q2] at h3; exact h3.elim
    | some dd =>
      cases q3 : resAll δ2 as with
      | none => rw [q2, q3] at h3; exact h3.elim
      | some ds =>
        rw [q2, q3] at h3
        (try dsimp only at h3)
        cases q4 : gg dd ds with
        | none => rw [q4] at h3; exact h3.elim
        | some z =>
          rw [q4] at h3
          exact h2 R2 ((r1.ext s1 e2).res R2 q2) (r2.all R2 q3) q4 h3
  · exact h1.elim
def strsOf : List D → Option (List Str)
  | [] => some []
  | .str x :: r => (strsOf r).map fun xs => x :: xs
  | _ :: _ => none
theorem strs_vals {K : PySem.W.Frag} {H : Hp} {Ω : Om} : ∀ {ds : List D} {vs : List V} {xs : List Str}, Reps K H Ω ds vs → strsOf ds = some xs → vs = xs.map V.str
  | [], _, _, r, h => by cases h; exact r
  | .str x :: ds, _, xs, r, h => by
    obtain ⟨v, q, e1, e2, e3⟩ := (show ∃ v r, _ from r)
    unfold strsOf at h
    obtain ⟨ys, h1, rfl⟩ := Option.map_eq_some_iff.mp h
    rw [e1, strs_vals e3 h1, (show v = .str x from e2)]
    rfl
  | .non :: _, _, _, _, h => by cases h
  | .bl _ :: _, _, _, _, h => by cases h
  | .int _ :: _, _, _, _, h => by cases h
  | .tup _ :: _, _, _, _, h => by cases h
  | .lst _ :: _, _, _, _, h => by cases h
  | .scr _ :: _, _, _, _, h => by cases h
  | .exc _ :: _, _, _, _, h => by cases h
def gJoin : D → List D → Option DV
  | .str sep, [.lst ds] => (strsOf ds).bind fun ys => if (ys.map (·.length)).sum + ys.length * sep.length ≤ 16777216 then some (.val (.str (Txt.join sep ys))) else none
  | _, _ => none
theorem md_join : MtD X "str" "str.join" gJoin := ⟨_, mt_join, by
  intro E σ H δ Ω x vs d ds z Q R r1 r2 hz h
  unfold gJoin at hz
  split at hz
  · rename_i sep es
    obtain ⟨ys, h1, h2⟩ := Option.bind_eq_some_iff.mp hz
    split at h2
    · rename_i hl
      cases h2
      obtain ⟨v, e, rv⟩ := rBs_one r2
      obtain ⟨a, ws, e1, e2, e3⟩ := rB_lst rv
      subst e1
      have hw := strs_vals e3 h1
      subst hw
      exact ⟨sep, a, ys, r1, e, .inl (.inl e2), hl, h.now R rfl⟩
    · cases h2
  · cases hz⟩
section
variable {tg iter elt : Expr} {ifs : List Expr} {sc : Scope} {fi : DM (List D)} {t : D → DSt → Option DSt} {fc : DM Bool} {fe : DM DV} {N : List Str} {sel : List (Option Nat)}
def PID (X : Cx) (E : Str → Hp → Prop) (tg iter : Expr) (fi : DM (List D)) : Prop := ∃ wi, PI X tg iter wi ∧ DI X.K E wi fi
def PGD (X : Cx) (mp : List Nat) (tg : Expr) (t : D → DSt → Option DSt) : Prop := ∃ g, PG X tg g ∧ DG X.K mp g t
def PTsD (X : Cx) (ifs : List Expr) (fc : DM Bool) : Prop := ∃ ts, PTs X ifs ts ∧ DT X.K EN ts fc
theorem pid_list (ha : PED X E a f) : PID X E tg a (fIt f gLstItems) := by
  obtain ⟨t, p, d⟩ := ha; exact ⟨_, pi_list p, di_list d⟩
theorem pid_rng1 {r : DM (List DV)} {p : Pos} (hm : X.mg "range" = none) (ha : PAD X E [a] r) (hg : Gl X "range" := by rfl) (hs : starEach [a] X.env = [(false, eval a X.env)] := by rfl) : PID X E tg (.Call (.Name "range" p) [a] [] pos) (fRng1 r) := by
  obtain ⟨t, q, d⟩ := ha; exact ⟨_, pi_range1 hg hm q hs, di_rng1 d⟩
theorem pid_rng2 {r : DM (List DV)} {p : Pos} (hm : X.mg "range" = none) (ha : PAD X E [a, b] r) (hg : Gl X "range" := by rfl) (hs : starEach [a, b] X.env = [(false, eval a X.env), (false, eval b X.env)] := by rfl)
    (hs2 : starEach [b] X.env = [(false, eval b X.env)] := by rfl) : PID X E tg (.Call (.Name "range" p) [a, b] [] pos) (fRng2 r) := by
  obtain ⟨t, q, d⟩ := ha; exact ⟨_, pi_range2 hg hm q hs hs2, di_rng2 d⟩
theorem pgd_name {i : Nat} {x : Str} (hN : X.N.Nodup) (hi : X.N[i]? = some x := by rfl) (hx : Loc X.env.scope x := by first | exact Or.inl rfl | exact Or.inr rfl) (hm : i ∉ mp := by decide)
    (hf : X.fn x = true ∨ X.env.scope.names.lookup x = some .local := by first | exact .inl rfl | exact .inr rfl) : PGD X mp (.Name x pos) (sName i) := ⟨_, pg_name hN hi hx hf, dg_name hm⟩
theorem ptsd_nil : PTsD X [] (.ret true) := ⟨_, pts_nil, fun σ H δ Ω R Q h => Wg.nowB h R⟩
theorem ped_lc (B : Blk X N sel sc) (hc : X.calm = true) (hi : PID X E tg iter fi) (hg : ∀ b, PGD (blk X N sc b) [] tg t) (ht : ∀ b, PTsD (blk X N sc b) ifs fc) (he : ∀ b, PED (blk X N sc b) EN elt fe)
    (hs : ∀ x, foldedSetIterable iter X.env x = pure x := by intro _; rfl) : PED X E (.ListComp elt [⟨tg, iter, ifs, 0⟩] sc pos) (fLC fi t fc fe sel) := by
  obtain ⟨wi, p, d⟩ := hi
  refine ⟨_, pe_lc (g := fun v σ H Q => ∀ b, (hg b).choose v σ H Q) (ts := fun σ H Q => ∀ b, (ht b).choose σ H Q) (te := fun σ H Q => ∀ b, (he b).choose σ H Q) B hc p
    (fun b pins s σ H v u Q I r h => (hg b).choose_spec.1 pins s σ H v u Q I r (h b)) (fun b pins s σ H Q I h => (ht b).choose_spec.1 pins s σ H Q I (h b)) (fun b pins s σ H Q I h => (he b).choose_spec.1 pins s σ H Q I (h b)) hs,
    de_lc d (fun σ H δ Ω dd x δ' R r e Q h b => (hg b).choose_spec.2 σ H δ Ω dd x δ' R r e Q h) (fun σ H δ Ω R Q h b => (ht b).choose_spec.2 σ H δ Ω R Q h) (fun σ H δ Ω R Q h b => (he b).choose_spec.2 σ H δ Ω R Q h)⟩
end
theorem psd_nil : PSsD X E mp [] fNext := ⟨_, pss_nil, ds_next⟩
theorem psd_cons {st : Stmt} {rest : List Stmt} {f1 f2 : DM Fl} (h1 : PSD X E mp st f1) (h2 : PSsD X E mp rest f2) : PSsD X E mp (st :: rest) (fSeq f1 f2) := by
  obtain ⟨t, p, d⟩ := h1; obtain ⟨u, q, r⟩ := h2; exact ⟨_, pss_cons p q, ds_seq d r⟩
theorem psd_one {st : Stmt} {f1 : DM Fl} (h1 : PSD X E mp st f1) : PSsD X E mp [st] f1 := by
  obtain ⟨t, p, d⟩ := h1; exact ⟨_, pss_one p, d⟩
theorem psd_ret (h : PED X E e f) : PSD X E mp (.Return (some e) pos) (fRet f) := by
  obtain ⟨t, p, d⟩ := h; exact ⟨_, ps_ret p, ds_ret d⟩
theorem psd_if {fc : DM Bool} {s1 s2 : List Stmt} {f1 f2 : DM Fl} (hc : PTD X E c fc) (h1 : PSsD X E mp s1 f1) (h2 : PSsD X E mp s2 f2) : PSD X E mp (.If c s1 s2 pos) (fIf fc f1 f2) := by
  obtain ⟨t, p, d⟩ := hc; obtain ⟨t1, p1, d1⟩ := h1; obtain ⟨t2, p2, d2⟩ := h2
  exact ⟨_, ps_if p p1 p2, ds_if d d1 d2⟩
theorem psd_set (i : Nat) {x : Str} {pos' : Pos} (hN : X.N.Nodup) (he : PED X E e f) (hi : X.N[i]? = some x := by rfl) (hx : Loc X.env.scope x := by first | exact Or.inl rfl | exact Or.inr rfl) (hm : i ∉ mp := by decide)
    (hs : swapsWith e (some (.Name x pos')) pos.line X.env = pure false := by rfl) (hf : X.fn x = true ∨ X.env.scope.names.lookup x = some .local := by first | exact .inl rfl | exact .inr rfl) : PSD X E mp (.Assign [.Name x pos'] e pos) (fSet i f) := by
  obtain ⟨t, p, d⟩ := he; exact ⟨_, ps_set hN hi hx p hs hf, ds_set hm d⟩
theorem psd_setO (i : Nat) {x : Str} {pos' : Pos} (hN : X.N.Nodup) (he : PED X E e f) (hi : X.N[i]? = some x := by rfl) (hx : Loc X.env.scope x := by first | exact Or.inl rfl | exact Or.inr rfl) (hm : i ∉ mp := by decide)
    (hs : swapsWith e (some (.Name x pos')) pos.line X.env = pure false := by rfl) (hf : X.fn x = true ∨ X.env.scope.names.lookup x = some .local := by first | exact .inl rfl | exact .inr rfl) : PSD X E mp (.Assign [.Name x pos'] e pos) (fSetO i f) := by
  obtain ⟨t, p, d⟩ := he; exact ⟨_, ps_set hN hi hx p hs hf, ds_setO hm d⟩
theorem psd_for {tg iter : Expr} {body : List Stmt} {fi : DM (List D)} {t : D → DSt → Option DSt} {fb : DM Fl} (hp : PassesOwn (model X.prog X.w) X.A X.env X.xe) (hc : X.calm = true) (hi : PID X E tg iter fi) (hg : PGD X mp tg t) (hb : PSsD X E mp body fb)
    (hs : ∀ x, foldedSetIterable iter X.env x = pure x := by intro _; rfl) : PSD X E mp (.For tg iter body [] pos) (fFor fi t fb) := by
  obtain ⟨wi, p1, d1⟩ := hi; obtain ⟨g, p2, d2⟩ := hg; obtain ⟨ts, p3, d3⟩ := hb
  exact ⟨_, ps_for hp hc p1 p2 p3 hs, ds_for d1 d2 d3⟩
def fApp (i : Nat) (f : DM DV) : DM Fl := (fN f).bd fun a δ => match a, δ[i]? with
  | .val d, some (.ow ds) => if ds.length < sizeLine then .ok .nx (δ.set i (.ow (ds ++ [d]))) else .un
  | _, _ => .un
def isOw (i : Nat) (δ : DSt) : Bool := match δ[i]? with | some (.ow _) => true | _ => false
def fApp' (i : Nat) (f : DM DV) : DM Fl := fun δ => if isOw i δ then fApp i f δ else .un
section
variable {K : PySem.W.Frag} {H : Hp} {Ω : Om} {σ : St} {δ : DSt}
theorem RepS.putOw {i : Nat} {p : Addr} {xs : List V} {es : List D} (R : RepS K H Ω σ δ) (hσ : σ[i]? = some (some (.ref p))) (hl : ∃ vs, H p = some (.lst vs)) (hp : Ω p = some (i + 2)) (r : Reps K H Ω es xs) : RepS K (upd H p (.lst xs)) Ω σ (δ.set i (.ow es)) := by
  have hp' : Ω p ≠ none := by rw [hp]; exact Option.some_ne_none _
  refine ⟨by rw [List.length_set]; exact R.len, fun j s h => ?_, fun a k q => ?_⟩
  · by_cases hj : i = j
    · subst hj
      have hl' : i < δ.length := by
        have := (List.getElem?_eq_some_iff.mp h).1
        rwa [List.length_set] at this
      rw [List.getElem?_set_self hl'] at h
      cases h
      exact ⟨p, xs, by rw [hσ]; rfl, upd_same, hp, r.put hl hp'⟩
    · rw [List.getElem?_set_ne hj] at h
      refine (R.sl j s h).mv (fun _ _ z => z.put hl hp') (fun _ _ z => z.put hl hp') fun a ws e3 e2 => ?_
      have ha : a ≠ p := by
        rintro rfl
        rw [hp] at e3
        exact hj (by have := Option.some.inj e3; omega)
      exact ⟨by rw [upd_ne ha]; exact e2, e3⟩
  · by_cases ha : a = p
    · subst ha; exact ⟨xs, upd_same⟩
    · obtain ⟨ws, e⟩ := R.trk a k q
      exact ⟨ws, by rw [upd_ne ha]; exact e⟩
theorem Ext.putOw {p : Addr} {k : Nat} {o : HO} (hl : ∃ vs, H p = some (.lst vs)) (hp : Ω p = some (k + 1)) : Ext H Ω (upd H p o) Ω where
  keep := fun b o' q h => by
    have hb : b ≠ p := by
      rintro rfl
      obtain ⟨vs, e⟩ := hl
      rw [e] at q
      cases q
      rcases h with h | h | h
      · exact h vs rfl
      · rw [hp] at h; cases h
      · rw [hp] at h; cases h
    rw [upd_ne hb]
    exact q
  new := fun _ q _ => q
  fr := fun _ => Iff.rfl
  live := fun b q => by
    unfold upd at q
    split at q
    · cases q
    · exact q
end
theorem psd_app (i : Nat) {x : Str} {p apos cpos : Pos} (he : PED X E e f) (hN : X.N[i]? = some x := by rfl) (hv : Vis X.env.scope x := by first | exact Or.inl rfl | exact Or.inr (Or.inl rfl) | exact Or.inr (Or.inr rfl))
    (hd : (x == ("__debug__" : Str)) = false := by decide) (hcd : (x == ("__classdict__" : Str)) = false := by decide)
    (hbase : attributeBase (.Name x p) "append" X.env (eval (.Name x p) X.env) = eval (.Name x p) X.env := by rfl)
    (hfew : ((backTo cpos (starEach [e] X.env)).all (fun x => !x.1) && (backToKw cpos (keywordEach [] X.env)).all (fun x => x.1.isSome)
      && decide (([e] : List Expr).length + ([] : List Keyword).length + (if ([] : List Keyword).isEmpty then 0 else 1) < 30)) = true := by rfl)
    (hline : (apos.endLine == cpos.line) = true := by rfl) (hs : starEach [e] X.env = (false, eval e X.env) :: starEach [] X.env := by rfl)
    (hsw : swapsWith (.Call (.Attribute (.Name x p) "append" apos) [e] [] cpos) none pos.line X.env = pure false := by rfl) :
    PSD X E mp (.Expr (.Call (.Attribute (.Name x p) "append" apos) [e] [] cpos) pos) (fApp' i f) := by
  obtain ⟨t, q, d⟩ := he
  refine ⟨_, ps_expr (pe_bm PySem.F.plainAttrs_list PySem.F.slot_list_append PySem.F.type_list_append mt_append (pv i hN hv hd hcd) (pa_cons q pa_nil hs) hbase hfew hline hs rfl) hsw, ?_⟩
  intro σ H δ Ω R B h
  unfold fApp' at h
  split at h
  · rename_i ho
    unfold isOw at ho
    split at ho
    · rename_i ds hds
      obtain ⟨a, vs, e1, e2, e3, e4⟩ := R.sl i _ hds
      refine ⟨.ref a, join_some e1, .inl ⟨rfl, vs, SqL.of e2⟩, d.use R h fun a1 y δ1 H1 Ω1 ex s1 R1 r1 h1 => ?_⟩
      (try dsimp only at h1)
      split at h1
      · rename_i dd es hds1
        split at h1
        · rename_i hz
          obtain ⟨a', ws, q1, q2, q3, q4⟩ := R1.sl i _ hds1
          have ea : a' = a := by
            have z := (join_some q1).symm.trans (join_some e1)
            injection z with z
            injection z with z
            injection z
          subst ea
          refine ⟨a', ws, y, rfl, rfl, q2, by rw [← q4.length]; exact hz, ?_⟩
          exact h1 _ Ω1 (.putOw (k := i + 1) ⟨_, q2⟩ q3) σ (R1.putOw (join_some q1) ⟨_, q2⟩ q3 (q4.append (.cons r1 .nil))) fun _ _ => rfl
        · exact h1.elim
      · exact h1.elim
    · cases ho
  · exact h.elim
end
end DL
namespace DL
open PySem PySem.Spec PyProof.Rows L2
def eqsF (f : D → D → Option Bool) : List D → List D → Option Bool
  | [], [] => some true
  | x :: xs, y :: ys => match f x y, eqsF f xs ys with | some a, some b => some (a && b) | _, _ => none
  | [], _ :: _ => some false
  | _ :: _, [] => some false
def deqF : Nat → D → D → Option Bool
  | _, .non, .non => some true
  | _, .non, .tup _ => some false | _, .non, .lst _ => some false | _, .non, .int _ => some false | _, .non, .str _ => some false | _, .non, .bl _ => some false
  | _, .int i, .int j => some (i == j)
  | _, .int _, .non => some false | _, .int _, .str _ => some false | _, .int _, .tup _ => some false | _, .int _, .lst _ => some false
  | _, .str x, .str y => some (x == y)
  | _, .str _, .non => some false | _, .str _, .int _ => some false | _, .str _, .bl _ => some false | _, .str _, .tup _ => some false | _, .str _, .lst _ => some false
  | _, .bl x, .bl y => some (x == y)
  | _, .bl _, .non => some false | _, .bl _, .str _ => some false | _, .bl _, .tup _ => some false | _, .bl _, .lst _ => some false
  | _, .tup _, .non => some false | _, .tup _, .int _ => some false | _, .tup _, .str _ => some false | _, .tup _, .bl _ => some false | _, .tup _, .lst _ => some false
  | _, .lst _, .non => some false | _, .lst _, .int _ => some false | _, .lst _, .str _ => some false | _, .lst _, .bl _ => some false | _, .lst _, .tup _ => some false
  | n + 1, .tup xs, .tup ys => eqsF (deqF n) xs ys
  | n + 1, .lst xs, .lst ys => eqsF (deqF n) xs ys
  | _, _, _ => none
theorem eqsF_len {f : D → D → Option Bool} : ∀ {xs ys : List D} {b : Bool}, eqsF f xs ys = some b → xs.length ≠ ys.length → b = false
  | [], [], _, _, hl => absurd rfl hl
  | [], _ :: _, _, e, _ => by cases e; rfl
  | _ :: _, [], _, e, _ => by cases e; rfl
  | x :: xs, y :: ys, b, e, hl => by
    unfold eqsF at e
    split at e
    · rename_i p q h1 h2
      cases e
      rw [eqsF_len h2 (fun z => hl (by rw [List.length_cons, List.length_cons, z])), Bool.and_false]
    · cases e
theorem eqsF_all {f : D → D → Option Bool} : ∀ {xs ys : List D} {b : Bool}, eqsF f xs ys = some b → xs.length = ys.length →
    ∃ e : Nat → Bool, (∀ i x y, xs[i]? = some x → ys[i]? = some y → f x y = some (e i)) ∧ b = (List.range xs.length).all e
  | [], [], _, h, _ => ⟨fun _ => true, fun _ _ _ z => by simp at z, by cases h; rfl⟩
  | [], _ :: _, _, _, hl => by cases hl
  | _ :: _, [], _, _, hl => by cases hl
  | x :: xs, y :: ys, b, h, hl => by
    unfold eqsF at h
    split at h
    · rename_i p q h1 h2
      cases h
      obtain ⟨e, he, hb⟩ := eqsF_all h2 (Nat.succ.inj hl)
      refine ⟨fun i => match i with | 0 => p | i + 1 => e i, fun i x' y' z1 z2 => ?_, ?_⟩
      · cases i with
        | zero =>
          have a1 : x = x' := by simpa using z1
          have a2 : y = y' := by simpa using z2
          subst a1 a2
          exact h1
        | succ i => exact he i x' y' (by simpa using z1) (by simpa using z2)
      · rw [hb, List.length_cons, List.range_succ_eq_map, List.all_cons, List.all_map]
        rfl
    · cases h
theorem eqsF_min {f : D → D → Option Bool} : ∀ {xs ys : List D} {b : Bool}, eqsF f xs ys = some b →
    ∃ e : Nat → Bool, (∀ i x y, xs[i]? = some x → ys[i]? = some y → f x y = some (e i)) ∧ b = ((List.range (min xs.length ys.length)).all e && xs.length == ys.length)
  | [], [], _, h => ⟨fun _ => true, fun _ _ _ z => by simp at z, by cases h; rfl⟩
  | [], _ :: _, _, h => ⟨fun _ => true, fun _ _ _ z => by simp at z, by cases h; rfl⟩
  | _ :: _, [], _, h => ⟨fun _ => true, fun _ _ _ _ z => by simp at z, by cases h; rfl⟩
  | x :: xs, y :: ys, b, h => by
    unfold eqsF at h
    split at h
    · rename_i p q h1 h2
      cases h
      obtain ⟨e, he, hb⟩ := eqsF_min h2
      refine ⟨fun i => match i with | 0 => p | i + 1 => e i, fun i x' y' z1 z2 => ?_, ?_⟩
      · cases i with
        | zero =>
          have a1 : x = x' := by simpa using z1
          have a2 : y = y' := by simpa using z2
          subst a1 a2
          exact h1
        | succ i => exact he i x' y' (by simpa using z1) (by simpa using z2)
      · rw [hb, List.length_cons, List.length_cons, Nat.succ_min_succ, List.range_succ_eq_map, List.all_cons, List.all_map, Bool.and_assoc]
        congr 1
        congr 1
        by_cases hq : xs.length = ys.length
        · rw [hq]; simp
        · rw [beq_eq_false_iff_ne.mpr hq, beq_eq_false_iff_ne.mpr (fun z => hq (Nat.succ.inj z))]
    · cases h
section
variable {K : PySem.W.Frag} {H : Hp} {Ω : Om} {s : Shared}
structure Heaps (K : PySem.W.Frag) (H : Hp) (s : Shared) : Prop where
  l : ∀ a xs, Rd H a (.lst xs) → ∃ its : List Value, Vals xs its ∧ s.heap.IsList a its.toArray
  t : ∀ a xs, SqT K H a xs → ∃ its : List Value, Vals xs its ∧ s.heap.IsTuple a its.toArray
theorem Heaps.of {X : Cx} {pins : List (Addr × Obj)} {σ : St} (I : Inv X pins σ H s) : Heaps X.K H s :=
  ⟨fun a xs h => by obtain ⟨its, r, p, _⟩ := I.list (.inl h); exact ⟨its, r, p.isList⟩, fun a xs h => by obtain ⟨its, r, p, _⟩ := I.tuple h; exact ⟨its, r, p⟩⟩
theorem isList_inj {h : Heap} {a : Addr} {xs ys : List Value} (p : h.IsList a xs.toArray) (q : h.IsList a ys.toArray) : xs = ys := by
  obtain ⟨o, e, c, n, d⟩ := p
  obtain ⟨o', e', c', n', d'⟩ := q
  rw [e] at e'
  cases e'
  rw [d] at d'
  injection d' with z
  simpa using z
theorem isTuple_inj {h : Heap} {a : Addr} {xs ys : List Value} (p : h.IsTuple a xs.toArray) (q : h.IsTuple a ys.toArray) : xs = ys := by
  obtain ⟨o, e, c, n, d⟩ := p
  obtain ⟨o', e', c', n', d'⟩ := q
  rw [e] at e'
  cases e'
  rw [d] at d'
  injection d' with z
  simpa using z
theorem list_not_tuple {h : Heap} {a : Addr} {xs ys : Array Value} (p : h.IsList a xs) (q : h.IsTuple a ys) : False := by
  obtain ⟨o, e, c, n, d⟩ := p
  obtain ⟨o', e', c', n', d'⟩ := q
  rw [e] at e'
  cases e'
  rw [c] at c'
  exact absurd c' (by decide)
theorem same_true (hs : Heaps K H s) : ∀ (n : Nat) {d1 d2 : D} {b : Bool} {v : V}, Rep K H Ω d1 v → Rep K H Ω d2 v → deqF n d1 d2 = some b → b = true := by
  intro n
  induction n with
  | zero =>
    intro d1 d2 b v h1 h2 e
    match d1, d2, h1, h2, e with
    | .non, .non, h1, h2, e => (simp [deqF] at e; first | exact e | exact e.symm)
    | .non, .bl a2, h1, h2, e => (cases ((show v = .non from h1).symm.trans (show v = .bl a2 from h2)))
    | .non, .int a2, h1, h2, e => (cases ((show v = .non from h1).symm.trans (show v = .int a2 from h2)))
    | .non, .str a2, h1, h2, e => (cases ((show v = .non from h1).symm.trans (show v = .str a2 from h2)))
    | .non, .tup a2, h1, h2, e => (obtain ⟨p, vs, e1, _⟩ := (show ∃ a vs, _ from h2); cases ((show v = .non from h1).symm.trans e1))
    | .non, .lst a2, h1, h2, e => (obtain ⟨p, vs, e1, _⟩ := (show ∃ a vs, _ from h2); cases ((show v = .non from h1).symm.trans e1))
    | .non, .scr a2, h1, h2, e => simp [deqF] at e
    | .non, .exc a2, h1, h2, e => simp [deqF] at e
    | .bl a1, .non, h1, h2, e => (cases ((show v = .bl a1 from h1).symm.trans (show v = .non from h2)))
    | .bl a1, .bl a2, h1, h2, e => (cases ((show v = .bl a1 from h1).symm.trans (show v = .bl a2 from h2)); simp [deqF] at e; first | exact e | exact e.symm)
    | .bl a1, .int a2, h1, h2, e => simp [deqF] at e
    | .bl a1, .str a2, h1, h2, e => (cases ((show v = .bl a1 from h1).symm.trans (show v = .str a2 from h2)))
    | .bl a1, .tup a2, h1, h2, e => (obtain ⟨p, vs, e1, _⟩ := (show ∃ a vs, _ from h2); cases ((show v = .bl a1 from h1).symm.trans e1))
    | .bl a1, .lst a2, h1, h2, e => (obtain ⟨p, vs, e1, _⟩ := (show ∃ a vs, _ from h2); cases ((show v = .bl a1 from h1).symm.trans e1))
    | .bl a1, .scr a2, h1, h2, e => simp [deqF] at e
    | .bl a1, .exc a2, h1, h2, e => simp [deqF] at e
    | .int a1, .non, h1, h2, e => (cases ((show v = .int a1 from h1).symm.trans (show v = .non from h2)))
    | .int a1, .bl a2, h1, h2, e => simp [deqF] at e
    | .int a1, .int a2, h1, h2, e => (cases ((show v = .int a1 from h1).symm.trans (show v = .int a2 from h2)); simp [deqF] at e; first | exact e | exact e.symm)
    | .int a1, .str a2, h1, h2, e => (cases ((show v = .int a1 from h1).symm.trans (show v = .str a2 from h2)))
    | .int a1, .tup a2, h1, h2, e => (obtain ⟨p, vs, e1, _⟩ := (show ∃ a vs, _ from h2); cases ((show v = .int a1 from h1).symm.trans e1))
    | .int a1, .lst a2, h1, h2, e => (obtain ⟨p, vs, e1, _⟩ := (show ∃ a vs, _ from h2); cases ((show v = .int a1 from h1).symm.trans e1))
    | .int a1, .scr a2, h1, h2, e => simp [deqF] at e
    | .int a1, .exc a2, h1, h2, e => simp [deqF] at e
    | .str a1, .non, h1, h2, e => (cases ((show v = .str a1 from h1).symm.trans (show v = .non from h2)))
    | .str a1, .bl a2, h1, h2, e => (cases ((show v = .str a1 from h1).symm.trans (show v = .bl a2 from h2)))
    | .str a1, .int a2, h1, h2, e => (cases ((show v = .str a1 from h1).symm.trans (show v = .int a2 from h2)))
    | .str a1, .str a2, h1, h2, e => (cases ((show v = .str a1 from h1).symm.trans (show v = .str a2 from h2)); simp [deqF] at e; first | exact e | exact e.symm)
    | .str a1, .tup a2, h1, h2, e => (obtain ⟨p, vs, e1, _⟩ := (show ∃ a vs, _ from h2); cases ((show v = .str a1 from h1).symm.trans e1))
    | .str a1, .lst a2, h1, h2, e => (obtain ⟨p, vs, e1, _⟩ := (show ∃ a vs, _ from h2); cases ((show v = .str a1 from h1).symm.trans e1))
    | .str a1, .scr a2, h1, h2, e => simp [deqF] at e
    | .str a1, .exc a2, h1, h2, e => simp [deqF] at e
    | .tup a1, .non, h1, h2, e => (obtain ⟨p, vs, e1, _⟩ := (show ∃ a vs, _ from h1); cases ((show v = .non from h2).symm.trans e1))
    | .tup a1, .bl a2, h1, h2, e => (obtain ⟨p, vs, e1, _⟩ := (show ∃ a vs, _ from h1); cases ((show v = .bl a2 from h2).symm.trans e1))
    | .tup a1, .int a2, h1, h2, e => (obtain ⟨p, vs, e1, _⟩ := (show ∃ a vs, _ from h1); cases ((show v = .int a2 from h2).symm.trans e1))
    | .tup a1, .str a2, h1, h2, e => (obtain ⟨p, vs, e1, _⟩ := (show ∃ a vs, _ from h1); cases ((show v = .str a2 from h2).symm.trans e1))
    | .tup a1, .tup a2, h1, h2, e => simp [deqF] at e
    | .tup a1, .lst a2, h1, h2, e => (obtain ⟨p, vs, e1, q1, _⟩ := (show ∃ a vs, _ from h1); obtain ⟨p2, ws, e2, q2, _⟩ := (show ∃ a vs, _ from h2); subst e1; cases e2; obtain ⟨_, _, z1⟩ := hs.t _ _ q1; obtain ⟨_, _, z2⟩ := hs.l _ _ q2.1; exact (list_not_tuple z2 z1).elim)
    | .tup a1, .scr a2, h1, h2, e => simp [deqF] at e
    | .tup a1, .exc a2, h1, h2, e => simp [deqF] at e
    | .lst a1, .non, h1, h2, e => (obtain ⟨p, vs, e1, _⟩ := (show ∃ a vs, _ from h1); cases ((show v = .non from h2).symm.trans e1))
    | .lst a1, .bl a2, h1, h2, e => (obtain ⟨p, vs, e1, _⟩ := (show ∃ a vs, _ from h1); cases ((show v = .bl a2 from h2).symm.trans e1))
    | .lst a1, .int a2, h1, h2, e => (obtain ⟨p, vs, e1, _⟩ := (show ∃ a vs, _ from h1); cases ((show v = .int a2 from h2).symm.trans e1))
    | .lst a1, .str a2, h1, h2, e => (obtain ⟨p, vs, e1, _⟩ := (show ∃ a vs, _ from h1); cases ((show v = .str a2 from h2).symm.trans e1))
    | .lst a1, .tup a2, h1, h2, e => (obtain ⟨p, vs, e1, q1, _⟩ := (show ∃ a vs, _ from h2); obtain ⟨p2, ws, e2, q2, _⟩ := (show ∃ a vs, _ from h1); subst e1; cases e2; obtain ⟨_, _, z1⟩ := hs.t _ _ q1; obtain ⟨_, _, z2⟩ := hs.l _ _ q2.1; exact (list_not_tuple z2 z1).elim)
    | .lst a1, .lst a2, h1, h2, e => simp [deqF] at e
    | .lst a1, .scr a2, h1, h2, e => simp [deqF] at e
    | .lst a1, .exc a2, h1, h2, e => simp [deqF] at e
    | .scr a1, .non, h1, h2, e => simp [deqF] at e
    | .exc a1, .non, h1, h2, e => simp [deqF] at e
    | .scr a1, .bl a2, h1, h2, e => simp [deqF] at e
    | .exc a1, .bl a2, h1, h2, e => simp [deqF] at e
    | .scr a1, .int a2, h1, h2, e => simp [deqF] at e
    | .exc a1, .int a2, h1, h2, e => simp [deqF] at e
    | .scr a1, .str a2, h1, h2, e => simp [deqF] at e
    | .exc a1, .str a2, h1, h2, e => simp [deqF] at e
    | .scr a1, .tup a2, h1, h2, e => simp [deqF] at e
    | .exc a1, .tup a2, h1, h2, e => simp [deqF] at e
    | .scr a1, .lst a2, h1, h2, e => simp [deqF] at e
    | .exc a1, .lst a2, h1, h2, e => simp [deqF] at e
    | .scr a1, .scr a2, h1, h2, e => simp [deqF] at e
    | .exc a1, .scr a2, h1, h2, e => simp [deqF] at e
    | .scr a1, .exc a2, h1, h2, e => simp [deqF] at e
    | .exc a1, .exc a2, h1, h2, e => simp [deqF] at e
  | succ n ih =>
    have items : ∀ {xs ys : List D} {vs : List V} {b : Bool}, Reps K H Ω xs vs → Reps K H Ω ys vs → eqsF (deqF n) xs ys = some b → b = true := by
      intro xs
      induction xs with
      | nil =>
        intro ys vs b r1 r2 e
        cases (show vs = [] from r1)
        cases ys with
        | nil => cases e; rfl
        | cons y ys => obtain ⟨v, q, e1, _⟩ := (show ∃ v r, _ from r2); cases e1
      | cons x xs ihx =>
        intro ys vs b r1 r2 e
        obtain ⟨v, q, e1, e2, e3⟩ := (show ∃ v r, _ from r1)
        subst e1
        cases ys with
        | nil => cases (show _ = [] from r2)
        | cons y ys =>
          obtain ⟨v', q', g1, g2, g3⟩ := (show ∃ v r, _ from r2)
          cases g1
          unfold eqsF at e
          split at e
          · rename_i p1 p2 z1 z2
            cases e
            rw [ih e2 g2 z1, ihx e3 g3 z2]; rfl
          · cases e
    intro d1 d2 b v h1 h2 e
    match d1, d2, h1, h2, e with
    | .non, .non, h1, h2, e => (simp [deqF] at e; first | exact e | exact e.symm)
    | .non, .bl a2, h1, h2, e => (cases ((show v = .non from h1).symm.trans (show v = .bl a2 from h2)))
    | .non, .int a2, h1, h2, e => (cases ((show v = .non from h1).symm.trans (show v = .int a2 from h2)))
    | .non, .str a2, h1, h2, e => (cases ((show v = .non from h1).symm.trans (show v = .str a2 from h2)))
    | .non, .tup a2, h1, h2, e => (obtain ⟨p, vs, e1, _⟩ := (show ∃ a vs, _ from h2); cases ((show v = .non from h1).symm.trans e1))
    | .non, .lst a2, h1, h2, e => (obtain ⟨p, vs, e1, _⟩ := (show ∃ a vs, _ from h2); cases ((show v = .non from h1).symm.trans e1))
    | .non, .scr a2, h1, h2, e => simp [deqF] at e
    | .non, .exc a2, h1, h2, e => simp [deqF] at e
    | .bl a1, .non, h1, h2, e => (cases ((show v = .bl a1 from h1).symm.trans (show v = .non from h2)))
    | .bl a1, .bl a2, h1, h2, e => (cases ((show v = .bl a1 from h1).symm.trans (show v = .bl a2 from h2)); simp [deqF] at e; first | exact e | exact e.symm)
    | .bl a1, .int a2, h1, h2, e => simp [deqF] at e
    | .bl a1, .str a2, h1, h2, e => (cases ((show v = .bl a1 from h1).symm.trans (show v = .str a2 from h2)))
    | .bl a1, .tup a2, h1, h2, e => (obtain ⟨p, vs, e1, _⟩ := (show ∃ a vs, _ from h2); cases ((show v = .bl a1 from h1).symm.trans e1))
    | .bl a1, .lst a2, h1, h2, e => (obtain ⟨p, vs, e1, _⟩ := (show ∃ a vs, _ from h2); cases ((show v = .bl a1 from h1).symm.trans e1))
    | .bl a1, .scr a2, h1, h2, e => simp [deqF] at e
    | .bl a1, .exc a2, h1, h2, e => simp [deqF] at e
    | .int a1, .non, h1, h2, e => (cases ((show v = .int a1 from h1).symm.trans (show v = .non from h2)))
    | .int a1, .bl a2, h1, h2, e => simp [deqF] at e
    | .int a1, .int a2, h1, h2, e => (cases ((show v = .int a1 from h1).symm.trans (show v = .int a2 from h2)); simp [deqF] at e; first | exact e | exact e.symm)
    | .int a1, .str a2, h1, h2, e => (cases ((show v = .int a1 from h1).symm.trans (show v = .str a2 from h2)))
    | .int a1, .tup a2, h1, h2, e => (obtain ⟨p, vs, e1, _⟩ := (show ∃ a vs, _ from h2); cases ((show v = .int a1 from h1).symm.trans e1))
    | .int a1, .lst a2, h1, h2, e => (obtain ⟨p, vs, e1, _⟩ := (show ∃ a vs, _ from h2); cases ((show v = .int a1 from h1).symm.trans e1))
    | .int a1, .scr a2, h1, h2, e => simp [deqF] at e
    | .int a1, .exc a2, h1, h2, e => simp [deqF] at e
    | .str a1, .non, h1, h2, e => (cases ((show v = .str a1 from h1).symm.trans (show v = .non from h2)))
    | .str a1, .bl a2, h1, h2, e => (cases ((show v = .str a1 from h1).symm.trans (show v = .bl a2 from h2)))
    | .str a1, .int a2, h1, h2, e => (cases ((show v = .str a1 from h1).symm.trans (show v = .int a2 from h2)))
    | .str a1, .str a2, h1, h2, e => (cases ((show v = .str a1 from h1).symm.trans (show v = .str a2 from h2)); simp [deqF] at e; first | exact e | exact e.symm)
    | .str a1, .tup a2, h1, h2, e => (obtain ⟨p, vs, e1, _⟩ := (show ∃ a vs, _ from h2); cases ((show v = .str a1 from h1).symm.trans e1))
    | .str a1, .lst a2, h1, h2, e => (obtain ⟨p, vs, e1, _⟩ := (show ∃ a vs, _ from h2); cases ((show v = .str a1 from h1).symm.trans e1))
    | .str a1, .scr a2, h1, h2, e => simp [deqF] at e
    | .str a1, .exc a2, h1, h2, e => simp [deqF] at e
    | .tup a1, .non, h1, h2, e => (obtain ⟨p, vs, e1, _⟩ := (show ∃ a vs, _ from h1); cases ((show v = .non from h2).symm.trans e1))
    | .tup a1, .bl a2, h1, h2, e => (obtain ⟨p, vs, e1, _⟩ := (show ∃ a vs, _ from h1); cases ((show v = .bl a2 from h2).symm.trans e1))
    | .tup a1, .int a2, h1, h2, e => (obtain ⟨p, vs, e1, _⟩ := (show ∃ a vs, _ from h1); cases ((show v = .int a2 from h2).symm.trans e1))
    | .tup a1, .str a2, h1, h2, e => (obtain ⟨p, vs, e1, _⟩ := (show ∃ a vs, _ from h1); cases ((show v = .str a2 from h2).symm.trans e1))
    | .tup a1, .tup a2, h1, h2, e => (obtain ⟨p, vs, e1, q1, w1⟩ := (show ∃ a vs, _ from h1); obtain ⟨p2, ws, e2, q2, w2⟩ := (show ∃ a vs, _ from h2); subst e1; cases e2; obtain ⟨i1, r1, z1⟩ := hs.t _ _ q1; obtain ⟨i2, r2, z2⟩ := hs.t _ _ q2; have z3 := isTuple_inj z1 z2; subst z3; have z4 := r1.inj r2; subst z4; exact items w1 w2 (by simpa [deqF] using e))
    | .tup a1, .lst a2, h1, h2, e => (obtain ⟨p, vs, e1, q1, _⟩ := (show ∃ a vs, _ from h1); obtain ⟨p2, ws, e2, q2, _⟩ := (show ∃ a vs, _ from h2); subst e1; cases e2; obtain ⟨_, _, z1⟩ := hs.t _ _ q1; obtain ⟨_, _, z2⟩ := hs.l _ _ q2.1; exact (list_not_tuple z2 z1).elim)
    | .tup a1, .scr a2, h1, h2, e => simp [deqF] at e
    | .tup a1, .exc a2, h1, h2, e => simp [deqF] at e
    | .lst a1, .non, h1, h2, e => (obtain ⟨p, vs, e1, _⟩ := (show ∃ a vs, _ from h1); cases ((show v = .non from h2).symm.trans e1))
    | .lst a1, .bl a2, h1, h2, e => (obtain ⟨p, vs, e1, _⟩ := (show ∃ a vs, _ from h1); cases ((show v = .bl a2 from h2).symm.trans e1))
    | .lst a1, .int a2, h1, h2, e => (obtain ⟨p, vs, e1, _⟩ := (show ∃ a vs, _ from h1); cases ((show v = .int a2 from h2).symm.trans e1))
    | .lst a1, .str a2, h1, h2, e => (obtain ⟨p, vs, e1, _⟩ := (show ∃ a vs, _ from h1); cases ((show v = .str a2 from h2).symm.trans e1))
    | .lst a1, .tup a2, h1, h2, e => (obtain ⟨p, vs, e1, q1, _⟩ := (show ∃ a vs, _ from h2); obtain ⟨p2, ws, e2, q2, _⟩ := (show ∃ a vs, _ from h1); subst e1; cases e2; obtain ⟨_, _, z1⟩ := hs.t _ _ q1; obtain ⟨_, _, z2⟩ := hs.l _ _ q2.1; exact (list_not_tuple z2 z1).elim)
    | .lst a1, .lst a2, h1, h2, e => (obtain ⟨p, vs, e1, q1, w1⟩ := (show ∃ a vs, _ from h1); obtain ⟨p2, ws, e2, q2, w2⟩ := (show ∃ a vs, _ from h2); subst e1; cases e2; obtain ⟨i1, r1, z1⟩ := hs.l _ _ q1.1; obtain ⟨i2, r2, z2⟩ := hs.l _ _ q2.1; have z3 := isList_inj z1 z2; subst z3; have z4 := r1.inj r2; subst z4; exact items w1 w2 (by simpa [deqF] using e))
    | .lst a1, .scr a2, h1, h2, e => simp [deqF] at e
    | .lst a1, .exc a2, h1, h2, e => simp [deqF] at e
    | .scr a1, .non, h1, h2, e => simp [deqF] at e
    | .exc a1, .non, h1, h2, e => simp [deqF] at e
    | .scr a1, .bl a2, h1, h2, e => simp [deqF] at e
    | .exc a1, .bl a2, h1, h2, e => simp [deqF] at e
    | .scr a1, .int a2, h1, h2, e => simp [deqF] at e
    | .exc a1, .int a2, h1, h2, e => simp [deqF] at e
    | .scr a1, .str a2, h1, h2, e => simp [deqF] at e
    | .exc a1, .str a2, h1, h2, e => simp [deqF] at e
    | .scr a1, .tup a2, h1, h2, e => simp [deqF] at e
    | .exc a1, .tup a2, h1, h2, e => simp [deqF] at e
    | .scr a1, .lst a2, h1, h2, e => simp [deqF] at e
    | .exc a1, .lst a2, h1, h2, e => simp [deqF] at e
    | .scr a1, .scr a2, h1, h2, e => simp [deqF] at e
    | .exc a1, .scr a2, h1, h2, e => simp [deqF] at e
    | .scr a1, .exc a2, h1, h2, e => simp [deqF] at e
    | .exc a1, .exc a2, h1, h2, e => simp [deqF] at e
theorem eq_flat (hs : Heaps K H s) {n : Nat} {A : Around} {d1 d2 : D} {b : Bool} {x y : V} {v u : Value} (hu : A.units < cLine) (h1 : RepB K H Ω d1 x) (h2 : RepB K H Ω d2 y) (r1 : RelV x v) (r2 : RelV y u) (e : deqF n d1 d2 = some b)
    (hc : ∀ xs ys, ¬ (d1 = .tup xs ∧ d2 = .tup ys) ∧ ¬ (d1 = .lst xs ∧ d2 = .lst ys)) : SeqAt.RcAt A s v u b ∧ SeqAt.RcNeAt A s v u (!b) ∧ SeqAt.EqAt A s v u b := by
  match d1, d2, h1, h2, e, hc with
  | .non, .non, h1, h2, e, _ =>
    cases (show x = .non from h1); cases (show v = Value.none from r1)
    cases (show y = .non from h2); cases (show u = Value.none from r2)
    have e : b = _ := (Option.some.inj ((by cases n <;> rfl : deqF n (.non) (.non) = some _).symm.trans e)).symm
    subst e
    exact ⟨SeqAt.RcAt.none_none , SeqAt.RcNeAt.none_none , SeqAt.EqAt.same _⟩
  | .non, .bl a2, h1, h2, e, _ =>
    cases (show x = .non from h1); cases (show v = Value.none from r1)
    cases (show y = .bl a2 from h2); cases (show u = Value.bool a2 from r2)
    have e : b = _ := (Option.some.inj ((by cases n <;> rfl : deqF n (.non) (.bl a2) = some _).symm.trans e)).symm
    subst e
    exact ⟨SeqAt.RcAt.none_bool a2, SeqAt.RcNeAt.none_bool a2, SeqAt.EqAt.none_bool a2⟩
  | .non, .int a2, h1, h2, e, _ =>
    cases (show x = .non from h1); cases (show v = Value.none from r1)
    cases (show y = .int a2 from h2); obtain ⟨t2, z2⟩ := (show ∃ t, u = Value.int a2 t from r2); cases z2
    have e : b = _ := (Option.some.inj ((by cases n <;> rfl : deqF n (.non) (.int a2) = some _).symm.trans e)).symm
    subst e
    exact ⟨SeqAt.RcAt.none_int a2 t2, SeqAt.RcNeAt.none_int a2 t2, SeqAt.EqAt.none_int a2 t2⟩
  | .non, .str a2, h1, h2, e, _ =>
    cases (show x = .non from h1); cases (show v = Value.none from r1)
    cases (show y = .str a2 from h2); obtain ⟨t2, z2⟩ := (show ∃ t, u = Value.str a2 t from r2); cases z2
    have e : b = _ := (Option.some.inj ((by cases n <;> rfl : deqF n (.non) (.str a2) = some _).symm.trans e)).symm
    subst e
    exact ⟨SeqAt.RcAt.none_str a2 t2, SeqAt.RcNeAt.none_str a2 t2, SeqAt.EqAt.none_str a2 t2⟩
  | .non, .tup a2, h1, h2, e, _ =>
    cases (show x = .non from h1); cases (show v = Value.none from r1)
    obtain ⟨p2, vs2, e2, q2, _⟩ := rB_tup h2; cases e2; cases (show u = Value.ref p2 from r2); obtain ⟨its2, _, hl2⟩ := hs.t _ _ q2
    have e : b = _ := (Option.some.inj ((by cases n <;> rfl : deqF n (.non) (.tup a2) = some _).symm.trans e)).symm
    subst e
    exact ⟨SeqAt.RcAt.none_tuple hl2 hu, SeqAt.RcNeAt.none_tuple hl2 hu, SeqAt.EqAt.none_tuple hl2 hu⟩
  | .non, .lst a2, h1, h2, e, _ =>
    cases (show x = .non from h1); cases (show v = Value.none from r1)
    obtain ⟨p2, vs2, e2, q2, _⟩ := rB_lst h2; cases e2; cases (show u = Value.ref p2 from r2); obtain ⟨its2, _, hl2⟩ := hs.l _ _ q2
    have e : b = _ := (Option.some.inj ((by cases n <;> rfl : deqF n (.non) (.lst a2) = some _).symm.trans e)).symm
    subst e
    exact ⟨SeqAt.RcAt.none_list hl2 hu, SeqAt.RcNeAt.none_list hl2 hu, SeqAt.EqAt.none_list hl2 hu⟩
  | .bl a1, .non, h1, h2, e, _ =>
    cases (show x = .bl a1 from h1); cases (show v = Value.bool a1 from r1)
    cases (show y = .non from h2); cases (show u = Value.none from r2)
    have e : b = _ := (Option.some.inj ((by cases n <;> rfl : deqF n (.bl a1) (.non) = some _).symm.trans e)).symm
    subst e
    exact ⟨SeqAt.RcAt.bool_none a1, SeqAt.RcNeAt.bool_none a1, SeqAt.EqAt.bool_none a1⟩
  | .bl a1, .bl a2, h1, h2, e, _ =>
    cases (show x = .bl a1 from h1); cases (show v = Value.bool a1 from r1)
    cases (show y = .bl a2 from h2); cases (show u = Value.bool a2 from r2)
    have e : b = _ := (Option.some.inj ((by cases n <;> rfl : deqF n (.bl a1) (.bl a2) = some _).symm.trans e)).symm
    subst e
    exact ⟨SeqAt.RcAt.bool_bool a1 a2, SeqAt.RcNeAt.bool_bool a1 a2, SeqAt.EqAt.bool_bool a1 a2⟩
  | .bl a1, .int a2, _, _, e, _ => cases n <;> simp [deqF] at e
  | .bl a1, .str a2, h1, h2, e, _ =>
    cases (show x = .bl a1 from h1); cases (show v = Value.bool a1 from r1)
    cases (show y = .str a2 from h2); obtain ⟨t2, z2⟩ := (show ∃ t, u = Value.str a2 t from r2); cases z2
    have e : b = _ := (Option.some.inj ((by cases n <;> rfl : deqF n (.bl a1) (.str a2) = some _).symm.trans e)).symm
    subst e
    exact ⟨SeqAt.RcAt.bool_str a1 a2 t2, SeqAt.RcNeAt.bool_str a1 a2 t2, SeqAt.EqAt.bool_str a1 a2 t2⟩
  | .bl a1, .tup a2, h1, h2, e, _ =>
    cases (show x = .bl a1 from h1); cases (show v = Value.bool a1 from r1)
    obtain ⟨p2, vs2, e2, q2, _⟩ := rB_tup h2; cases e2; cases (show u = Value.ref p2 from r2); obtain ⟨its2, _, hl2⟩ := hs.t _ _ q2
    have e : b = _ := (Option.some.inj ((by cases n <;> rfl : deqF n (.bl a1) (.tup a2) = some _).symm.trans e)).symm
    subst e
    exact ⟨SeqAt.RcAt.bool_tuple a1 hl2 hu, SeqAt.RcNeAt.bool_tuple a1 hl2 hu, SeqAt.EqAt.bool_tuple a1 hl2 hu⟩
  | .bl a1, .lst a2, h1, h2, e, _ =>
    cases (show x = .bl a1 from h1); cases (show v = Value.bool a1 from r1)
    obtain ⟨p2, vs2, e2, q2, _⟩ := rB_lst h2; cases e2; cases (show u = Value.ref p2 from r2); obtain ⟨its2, _, hl2⟩ := hs.l _ _ q2
    have e : b = _ := (Option.some.inj ((by cases n <;> rfl : deqF n (.bl a1) (.lst a2) = some _).symm.trans e)).symm
    subst e
    exact ⟨SeqAt.RcAt.bool_list a1 hl2 hu, SeqAt.RcNeAt.bool_list a1 hl2 hu, SeqAt.EqAt.bool_list a1 hl2 hu⟩
  | .int a1, .non, h1, h2, e, _ =>
    cases (show x = .int a1 from h1); obtain ⟨t1, z1⟩ := (show ∃ t, v = Value.int a1 t from r1); cases z1
    cases (show y = .non from h2); cases (show u = Value.none from r2)
    have e : b = _ := (Option.some.inj ((by cases n <;> rfl : deqF n (.int a1) (.non) = some _).symm.trans e)).symm
    subst e
    exact ⟨SeqAt.RcAt.int_none a1 t1, SeqAt.RcNeAt.int_none a1 t1, SeqAt.EqAt.int_none a1 t1⟩
  | .int a1, .bl a2, _, _, e, _ => cases n <;> simp [deqF] at e
  | .int a1, .int a2, h1, h2, e, _ =>
    cases (show x = .int a1 from h1); obtain ⟨t1, z1⟩ := (show ∃ t, v = Value.int a1 t from r1); cases z1
    cases (show y = .int a2 from h2); obtain ⟨t2, z2⟩ := (show ∃ t, u = Value.int a2 t from r2); cases z2
    have e : b = _ := (Option.some.inj ((by cases n <;> rfl : deqF n (.int a1) (.int a2) = some _).symm.trans e)).symm
    subst e
    exact ⟨SeqAt.RcAt.int_int a1 t1 a2 t2, SeqAt.RcNeAt.int_int a1 t1 a2 t2, SeqAt.EqAt.int_int a1 t1 a2 t2⟩
  | .int a1, .str a2, h1, h2, e, _ =>
    cases (show x = .int a1 from h1); obtain ⟨t1, z1⟩ := (show ∃ t, v = Value.int a1 t from r1); cases z1
    cases (show y = .str a2 from h2); obtain ⟨t2, z2⟩ := (show ∃ t, u = Value.str a2 t from r2); cases z2
    have e : b = _ := (Option.some.inj ((by cases n <;> rfl : deqF n (.int a1) (.str a2) = some _).symm.trans e)).symm
    subst e
    exact ⟨SeqAt.RcAt.int_str a1 t1 a2 t2, SeqAt.RcNeAt.int_str a1 t1 a2 t2, SeqAt.EqAt.int_str a1 t1 a2 t2⟩
  | .int a1, .tup a2, h1, h2, e, _ =>
    cases (show x = .int a1 from h1); obtain ⟨t1, z1⟩ := (show ∃ t, v = Value.int a1 t from r1); cases z1
    obtain ⟨p2, vs2, e2, q2, _⟩ := rB_tup h2; cases e2; cases (show u = Value.ref p2 from r2); obtain ⟨its2, _, hl2⟩ := hs.t _ _ q2
    have e : b = _ := (Option.some.inj ((by cases n <;> rfl : deqF n (.int a1) (.tup a2) = some _).symm.trans e)).symm
    subst e
    exact ⟨SeqAt.RcAt.int_tuple a1 t1 hl2 hu, SeqAt.RcNeAt.int_tuple a1 t1 hl2 hu, SeqAt.EqAt.int_tuple a1 t1 hl2 hu⟩
  | .int a1, .lst a2, h1, h2, e, _ =>
    cases (show x = .int a1 from h1); obtain ⟨t1, z1⟩ := (show ∃ t, v = Value.int a1 t from r1); cases z1
    obtain ⟨p2, vs2, e2, q2, _⟩ := rB_lst h2; cases e2; cases (show u = Value.ref p2 from r2); obtain ⟨its2, _, hl2⟩ := hs.l _ _ q2
    have e : b = _ := (Option.some.inj ((by cases n <;> rfl : deqF n (.int a1) (.lst a2) = some _).symm.trans e)).symm
    subst e
    exact ⟨SeqAt.RcAt.int_list a1 t1 hl2 hu, SeqAt.RcNeAt.int_list a1 t1 hl2 hu, SeqAt.EqAt.int_list a1 t1 hl2 hu⟩
  | .str a1, .non, h1, h2, e, _ =>
    cases (show x = .str a1 from h1); obtain ⟨t1, z1⟩ := (show ∃ t, v = Value.str a1 t from r1); cases z1
    cases (show y = .non from h2); cases (show u = Value.none from r2)
    have e : b = _ := (Option.some.inj ((by cases n <;> rfl : deqF n (.str a1) (.non) = some _).symm.trans e)).symm
    subst e
    exact ⟨SeqAt.RcAt.str_none a1 t1, SeqAt.RcNeAt.str_none a1 t1, SeqAt.EqAt.str_none a1 t1⟩
  | .str a1, .bl a2, h1, h2, e, _ =>
    cases (show x = .str a1 from h1); obtain ⟨t1, z1⟩ := (show ∃ t, v = Value.str a1 t from r1); cases z1
    cases (show y = .bl a2 from h2); cases (show u = Value.bool a2 from r2)
    have e : b = _ := (Option.some.inj ((by cases n <;> rfl : deqF n (.str a1) (.bl a2) = some _).symm.trans e)).symm
    subst e
    exact ⟨SeqAt.RcAt.str_bool a1 t1 a2, SeqAt.RcNeAt.str_bool a1 t1 a2, SeqAt.EqAt.str_bool a1 t1 a2⟩
  | .str a1, .int a2, h1, h2, e, _ =>
    cases (show x = .str a1 from h1); obtain ⟨t1, z1⟩ := (show ∃ t, v = Value.str a1 t from r1); cases z1
    cases (show y = .int a2 from h2); obtain ⟨t2, z2⟩ := (show ∃ t, u = Value.int a2 t from r2); cases z2
    have e : b = _ := (Option.some.inj ((by cases n <;> rfl : deqF n (.str a1) (.int a2) = some _).symm.trans e)).symm
    subst e
    exact ⟨SeqAt.RcAt.str_int a1 t1 a2 t2, SeqAt.RcNeAt.str_int a1 t1 a2 t2, SeqAt.EqAt.str_int a1 t1 a2 t2⟩
  | .str a1, .str a2, h1, h2, e, _ =>
    cases (show x = .str a1 from h1); obtain ⟨t1, z1⟩ := (show ∃ t, v = Value.str a1 t from r1); cases z1
    cases (show y = .str a2 from h2); obtain ⟨t2, z2⟩ := (show ∃ t, u = Value.str a2 t from r2); cases z2
    have e : b = _ := (Option.some.inj ((by cases n <;> rfl : deqF n (.str a1) (.str a2) = some _).symm.trans e)).symm
    subst e
    exact ⟨SeqAt.RcAt.str_str a1 t1 a2 t2, SeqAt.RcNeAt.str_str a1 t1 a2 t2, SeqAt.EqAt.str_str a1 t1 a2 t2⟩
  | .str a1, .tup a2, h1, h2, e, _ =>
    cases (show x = .str a1 from h1); obtain ⟨t1, z1⟩ := (show ∃ t, v = Value.str a1 t from r1); cases z1
    obtain ⟨p2, vs2, e2, q2, _⟩ := rB_tup h2; cases e2; cases (show u = Value.ref p2 from r2); obtain ⟨its2, _, hl2⟩ := hs.t _ _ q2
    have e : b = _ := (Option.some.inj ((by cases n <;> rfl : deqF n (.str a1) (.tup a2) = some _).symm.trans e)).symm
    subst e
    exact ⟨SeqAt.RcAt.str_tuple a1 t1 hl2 hu, SeqAt.RcNeAt.str_tuple a1 t1 hl2 hu, SeqAt.EqAt.str_tuple a1 t1 hl2 hu⟩
  | .str a1, .lst a2, h1, h2, e, _ =>
    cases (show x = .str a1 from h1); obtain ⟨t1, z1⟩ := (show ∃ t, v = Value.str a1 t from r1); cases z1
    obtain ⟨p2, vs2, e2, q2, _⟩ := rB_lst h2; cases e2; cases (show u = Value.ref p2 from r2); obtain ⟨its2, _, hl2⟩ := hs.l _ _ q2
    have e : b = _ := (Option.some.inj ((by cases n <;> rfl : deqF n (.str a1) (.lst a2) = some _).symm.trans e)).symm
    subst e
    exact ⟨SeqAt.RcAt.str_list a1 t1 hl2 hu, SeqAt.RcNeAt.str_list a1 t1 hl2 hu, SeqAt.EqAt.str_list a1 t1 hl2 hu⟩
  | .tup a1, .non, h1, h2, e, _ =>
    obtain ⟨p1, vs1, e1, q1, _⟩ := rB_tup h1; cases e1; cases (show v = Value.ref p1 from r1); obtain ⟨its1, _, hl1⟩ := hs.t _ _ q1
    cases (show y = .non from h2); cases (show u = Value.none from r2)
    have e : b = _ := (Option.some.inj ((by cases n <;> rfl : deqF n (.tup a1) (.non) = some _).symm.trans e)).symm
    subst e
    exact ⟨SeqAt.RcAt.tuple_none hl1 hu, SeqAt.RcNeAt.tuple_none hl1 hu, SeqAt.EqAt.tuple_none hl1 hu⟩
  | .tup a1, .bl a2, h1, h2, e, _ =>
    obtain ⟨p1, vs1, e1, q1, _⟩ := rB_tup h1; cases e1; cases (show v = Value.ref p1 from r1); obtain ⟨its1, _, hl1⟩ := hs.t _ _ q1
    cases (show y = .bl a2 from h2); cases (show u = Value.bool a2 from r2)
    have e : b = _ := (Option.some.inj ((by cases n <;> rfl : deqF n (.tup a1) (.bl a2) = some _).symm.trans e)).symm
    subst e
    exact ⟨SeqAt.RcAt.tuple_bool a2 hl1 hu, SeqAt.RcNeAt.tuple_bool a2 hl1 hu, SeqAt.EqAt.tuple_bool a2 hl1 hu⟩
  | .tup a1, .int a2, h1, h2, e, _ =>
    obtain ⟨p1, vs1, e1, q1, _⟩ := rB_tup h1; cases e1; cases (show v = Value.ref p1 from r1); obtain ⟨its1, _, hl1⟩ := hs.t _ _ q1
    cases (show y = .int a2 from h2); obtain ⟨t2, z2⟩ := (show ∃ t, u = Value.int a2 t from r2); cases z2
    have e : b = _ := (Option.some.inj ((by cases n <;> rfl : deqF n (.tup a1) (.int a2) = some _).symm.trans e)).symm
    subst e
    exact ⟨SeqAt.RcAt.tuple_int a2 t2 hl1 hu, SeqAt.RcNeAt.tuple_int a2 t2 hl1 hu, SeqAt.EqAt.tuple_int a2 t2 hl1 hu⟩
  | .tup a1, .str a2, h1, h2, e, _ =>
    obtain ⟨p1, vs1, e1, q1, _⟩ := rB_tup h1; cases e1; cases (show v = Value.ref p1 from r1); obtain ⟨its1, _, hl1⟩ := hs.t _ _ q1
    cases (show y = .str a2 from h2); obtain ⟨t2, z2⟩ := (show ∃ t, u = Value.str a2 t from r2); cases z2
    have e : b = _ := (Option.some.inj ((by cases n <;> rfl : deqF n (.tup a1) (.str a2) = some _).symm.trans e)).symm
    subst e
    exact ⟨SeqAt.RcAt.tuple_str a2 t2 hl1 hu, SeqAt.RcNeAt.tuple_str a2 t2 hl1 hu, SeqAt.EqAt.tuple_str a2 t2 hl1 hu⟩
  | .tup a1, .tup a2, _, _, _, hc => exact absurd ⟨rfl, rfl⟩ (hc a1 a2).1
  | .tup a1, .lst a2, h1, h2, e, _ =>
    obtain ⟨p1, vs1, e1, q1, _⟩ := rB_tup h1; cases e1; cases (show v = Value.ref p1 from r1); obtain ⟨its1, _, hl1⟩ := hs.t _ _ q1
    obtain ⟨p2, vs2, e2, q2, _⟩ := rB_lst h2; cases e2; cases (show u = Value.ref p2 from r2); obtain ⟨its2, _, hl2⟩ := hs.l _ _ q2
    have e : b = _ := (Option.some.inj ((by cases n <;> rfl : deqF n (.tup a1) (.lst a2) = some _).symm.trans e)).symm
    subst e
    exact ⟨SeqAt.RcAt.tuple_list hl1 hl2 hu, SeqAt.RcNeAt.tuple_list hl1 hl2 hu, SeqAt.EqAt.tuple_list hl1 hl2 hu⟩
  | .lst a1, .non, h1, h2, e, _ =>
    obtain ⟨p1, vs1, e1, q1, _⟩ := rB_lst h1; cases e1; cases (show v = Value.ref p1 from r1); obtain ⟨its1, _, hl1⟩ := hs.l _ _ q1
    cases (show y = .non from h2); cases (show u = Value.none from r2)
    have e : b = _ := (Option.some.inj ((by cases n <;> rfl : deqF n (.lst a1) (.non) = some _).symm.trans e)).symm
    subst e
    exact ⟨SeqAt.RcAt.list_none hl1 hu, SeqAt.RcNeAt.list_none hl1 hu, SeqAt.EqAt.list_none hl1 hu⟩
  | .lst a1, .bl a2, h1, h2, e, _ =>
    obtain ⟨p1, vs1, e1, q1, _⟩ := rB_lst h1; cases e1; cases (show v = Value.ref p1 from r1); obtain ⟨its1, _, hl1⟩ := hs.l _ _ q1
    cases (show y = .bl a2 from h2); cases (show u = Value.bool a2 from r2)
    have e : b = _ := (Option.some.inj ((by cases n <;> rfl : deqF n (.lst a1) (.bl a2) = some _).symm.trans e)).symm
    subst e
    exact ⟨SeqAt.RcAt.list_bool a2 hl1 hu, SeqAt.RcNeAt.list_bool a2 hl1 hu, SeqAt.EqAt.list_bool a2 hl1 hu⟩
  | .lst a1, .int a2, h1, h2, e, _ =>
    obtain ⟨p1, vs1, e1, q1, _⟩ := rB_lst h1; cases e1; cases (show v = Value.ref p1 from r1); obtain ⟨its1, _, hl1⟩ := hs.l _ _ q1
    cases (show y = .int a2 from h2); obtain ⟨t2, z2⟩ := (show ∃ t, u = Value.int a2 t from r2); cases z2
    have e : b = _ := (Option.some.inj ((by cases n <;> rfl : deqF n (.lst a1) (.int a2) = some _).symm.trans e)).symm
    subst e
    exact ⟨SeqAt.RcAt.list_int a2 t2 hl1 hu, SeqAt.RcNeAt.list_int a2 t2 hl1 hu, SeqAt.EqAt.list_int a2 t2 hl1 hu⟩
  | .lst a1, .str a2, h1, h2, e, _ =>
    obtain ⟨p1, vs1, e1, q1, _⟩ := rB_lst h1; cases e1; cases (show v = Value.ref p1 from r1); obtain ⟨its1, _, hl1⟩ := hs.l _ _ q1
    cases (show y = .str a2 from h2); obtain ⟨t2, z2⟩ := (show ∃ t, u = Value.str a2 t from r2); cases z2
    have e : b = _ := (Option.some.inj ((by cases n <;> rfl : deqF n (.lst a1) (.str a2) = some _).symm.trans e)).symm
    subst e
    exact ⟨SeqAt.RcAt.list_str a2 t2 hl1 hu, SeqAt.RcNeAt.list_str a2 t2 hl1 hu, SeqAt.EqAt.list_str a2 t2 hl1 hu⟩
  | .lst a1, .tup a2, h1, h2, e, _ =>
    obtain ⟨p1, vs1, e1, q1, _⟩ := rB_lst h1; cases e1; cases (show v = Value.ref p1 from r1); obtain ⟨its1, _, hl1⟩ := hs.l _ _ q1
    obtain ⟨p2, vs2, e2, q2, _⟩ := rB_tup h2; cases e2; cases (show u = Value.ref p2 from r2); obtain ⟨its2, _, hl2⟩ := hs.t _ _ q2
    have e : b = _ := (Option.some.inj ((by cases n <;> rfl : deqF n (.lst a1) (.tup a2) = some _).symm.trans e)).symm
    subst e
    exact ⟨SeqAt.RcAt.list_tuple hl1 hl2 hu, SeqAt.RcNeAt.list_tuple hl1 hl2 hu, SeqAt.EqAt.list_tuple hl1 hl2 hu⟩
  | .lst a1, .lst a2, _, _, _, hc => exact absurd ⟨rfl, rfl⟩ (hc a1 a2).2
  | .non, .scr a2, _, _, e, _ => cases n <;> simp [deqF] at e
  | .non, .exc a2, _, _, e, _ => cases n <;> simp [deqF] at e
  | .bl a1, .scr a2, _, _, e, _ => cases n <;> simp [deqF] at e
  | .bl a1, .exc a2, _, _, e, _ => cases n <;> simp [deqF] at e
  | .int a1, .scr a2, _, _, e, _ => cases n <;> simp [deqF] at e
  | .int a1, .exc a2, _, _, e, _ => cases n <;> simp [deqF] at e
  | .str a1, .scr a2, _, _, e, _ => cases n <;> simp [deqF] at e
  | .str a1, .exc a2, _, _, e, _ => cases n <;> simp [deqF] at e
  | .tup a1, .scr a2, _, _, e, _ => cases n <;> simp [deqF] at e
  | .tup a1, .exc a2, _, _, e, _ => cases n <;> simp [deqF] at e
  | .lst a1, .scr a2, _, _, e, _ => cases n <;> simp [deqF] at e
  | .lst a1, .exc a2, _, _, e, _ => cases n <;> simp [deqF] at e
  | .scr a1, .non, _, _, e, _ => cases n <;> simp [deqF] at e
  | .exc a1, .non, _, _, e, _ => cases n <;> simp [deqF] at e
  | .scr a1, .bl a2, _, _, e, _ => cases n <;> simp [deqF] at e
  | .exc a1, .bl a2, _, _, e, _ => cases n <;> simp [deqF] at e
  | .scr a1, .int a2, _, _, e, _ => cases n <;> simp [deqF] at e
  | .exc a1, .int a2, _, _, e, _ => cases n <;> simp [deqF] at e
  | .scr a1, .str a2, _, _, e, _ => cases n <;> simp [deqF] at e
  | .exc a1, .str a2, _, _, e, _ => cases n <;> simp [deqF] at e
  | .scr a1, .tup a2, _, _, e, _ => cases n <;> simp [deqF] at e
  | .exc a1, .tup a2, _, _, e, _ => cases n <;> simp [deqF] at e
  | .scr a1, .lst a2, _, _, e, _ => cases n <;> simp [deqF] at e
  | .exc a1, .lst a2, _, _, e, _ => cases n <;> simp [deqF] at e
  | .scr a1, .scr a2, _, _, e, _ => cases n <;> simp [deqF] at e
  | .exc a1, .scr a2, _, _, e, _ => cases n <;> simp [deqF] at e
  | .scr a1, .exc a2, _, _, e, _ => cases n <;> simp [deqF] at e
  | .exc a1, .exc a2, _, _, e, _ => cases n <;> simp [deqF] at e
theorem vals_at {xs : List V} {its : List Value} (r : Vals xs its) {j : Nat} (h : j < its.toArray.size) : ∃ x, xs[j]? = some x ∧ RelV x its.toArray[j] := by
  have hl := r.length
  have h' : j < its.length := by simpa using h
  obtain ⟨x, hx⟩ : ∃ x, xs[j]? = some x := ⟨xs[j]'(by omega), List.getElem?_eq_getElem (by omega)⟩
  obtain ⟨u, hu, ru⟩ := r.get hx
  rw [List.getElem?_eq_getElem h'] at hu
  cases hu
  exact ⟨x, hx, by simpa using ru⟩
theorem eq_step (hs : Heaps K H s) {n : Nat} (ih : ∀ (A : Around) (d1 d2 : D) (b : Bool) (x y : V) (v u : Value), A.units + n < cLine → Rep K H Ω d1 x → Rep K H Ω d2 y → RelV x v → RelV y u → deqF n d1 d2 = some b → SeqAt.EqAt A s v u b)
    {A : Around} {d1 d2 : D} {b : Bool} {x y : V} {v u : Value} (hu : A.units + (n + 1) < cLine) (h1 : RepB K H Ω d1 x) (h2 : RepB K H Ω d2 y) (r1 : RelV x v) (r2 : RelV y u) (e : deqF (n + 1) d1 d2 = some b) : SeqAt.RcAt A s v u b ∧ SeqAt.RcNeAt A s v u (!b) := by
  have items : ∀ {xs ys : List D} {vs ws : List V} {i1 i2 : List Value} {ee : Nat → Bool}, Reps K H Ω xs vs → Reps K H Ω ys ws → Vals vs i1 → Vals ws i2 → (∀ i x y, xs[i]? = some x → ys[i]? = some y → deqF n x y = some (ee i)) →
      ∀ j (q1 : j < i1.toArray.size) (q2 : j < i2.toArray.size), SeqAt.EqAt A.in1 s i1.toArray[j] i2.toArray[j] (ee j) := by
    intro xs ys vs ws i1 i2 ee p1 p2 p3 p4 he j q1 q2
    obtain ⟨x1, g1, g2⟩ := vals_at p3 q1
    obtain ⟨y1, g3, g4⟩ := vals_at p4 q2
    have l1 := p1.length
    have l2 := p2.length
    have b1 : j < xs.length := by rw [l1]; exact (List.getElem?_eq_some_iff.mp g1).1
    have b2 : j < ys.length := by rw [l2]; exact (List.getElem?_eq_some_iff.mp g3).1
    obtain ⟨x2, z1, z2⟩ := p1.get (List.getElem?_eq_getElem b1)
    obtain ⟨y2, z3, z4⟩ := p2.get (List.getElem?_eq_getElem b2)
    rw [g1] at z1; cases z1
    rw [g3] at z3; cases z3
    exact ih A.in1 _ _ _ _ _ _ _ (by show A.units + 1 + n < cLine; omega) z2 z4 g2 g4 (he j _ _ (List.getElem?_eq_getElem b1) (List.getElem?_eq_getElem b2))
  by_cases ht : ∃ xs ys, d1 = .tup xs ∧ d2 = .tup ys
  · obtain ⟨xs, ys, rfl, rfl⟩ := ht
    obtain ⟨p1, vs, e1, q1, w1⟩ := rB_tup h1
    obtain ⟨p2, ws, e2, q2, w2⟩ := rB_tup h2
    cases e1; cases e2
    cases (show v = Value.ref p1 from r1); cases (show u = Value.ref p2 from r2)
    obtain ⟨i1, g1, hl1⟩ := hs.t _ _ q1
    obtain ⟨i2, g2, hl2⟩ := hs.t _ _ q2
    obtain ⟨ee, he, hb⟩ := eqsF_min (by simpa [deqF] using e)
    have hb' : b = ((List.range (min i1.toArray.size i2.toArray.size)).all ee && i1.toArray.size == i2.toArray.size) := by
      rw [hb, List.size_toArray, List.size_toArray, ← g1.length, ← g2.length, ← w1.length, ← w2.length]
    rw [hb']
    exact ⟨.tuples hl1 hl2 (by omega) (items w1 w2 g1 g2 he), .tuples hl1 hl2 (by omega) (items w1 w2 g1 g2 he)⟩
  · by_cases hl : ∃ xs ys, d1 = .lst xs ∧ d2 = .lst ys
    · obtain ⟨xs, ys, rfl, rfl⟩ := hl
      obtain ⟨p1, vs, e1, q1, w1⟩ := rB_lst h1
      obtain ⟨p2, ws, e2, q2, w2⟩ := rB_lst h2
      cases e1; cases e2
      cases (show v = Value.ref p1 from r1); cases (show u = Value.ref p2 from r2)
      obtain ⟨i1, g1, hl1⟩ := hs.l _ _ q1
      obtain ⟨i2, g2, hl2⟩ := hs.l _ _ q2
      have e' : eqsF (deqF n) xs ys = some b := by simpa [deqF] using e
      have s1 : i1.toArray.size = xs.length := by rw [List.size_toArray, ← g1.length, ← w1.length]
      have s2 : i2.toArray.size = ys.length := by rw [List.size_toArray, ← g2.length, ← w2.length]
      by_cases hlen : xs.length = ys.length
      · obtain ⟨ee, he, hb⟩ := eqsF_all e' hlen
        have hb' : b = (List.range i1.toArray.size).all ee := by rw [hb, s1]
        rw [hb']
        exact ⟨.lists hl1 hl2 (by rw [s1, s2, hlen]) (by omega) (items w1 w2 g1 g2 he), .lists hl1 hl2 (by rw [s1, s2, hlen]) (by omega) (items w1 w2 g1 g2 he)⟩
      · have hb := eqsF_len e' hlen
        subst hb
        have hne : (i1.toArray.size != i2.toArray.size) = true := by rw [s1, s2]; simpa using hlen
        exact ⟨.lists_lengths hl1 hl2 hne (by omega), .lists_lengths hl1 hl2 hne (by omega)⟩
    · have := eq_flat hs (A := A) (by omega) h1 h2 r1 r2 e fun xs ys => ⟨fun z => ht ⟨xs, ys, z⟩, fun z => hl ⟨xs, ys, z⟩⟩
      exact ⟨this.1, this.2.1⟩
theorem eq_main (hs : Heaps K H s) : ∀ (n : Nat) (A : Around) (d1 d2 : D) (b : Bool) (x y : V) (v u : Value), A.units + n < cLine → Rep K H Ω d1 x → Rep K H Ω d2 y → RelV x v → RelV y u → deqF n d1 d2 = some b → SeqAt.EqAt A s v u b := by
  intro n
  induction n with
  | zero =>
    intro A d1 d2 b x y v u hu h1 h2 r1 r2 e
    refine (eq_flat hs (by omega) h1.b h2.b r1 r2 e fun xs ys => ⟨?_, ?_⟩).2.2
    · rintro ⟨rfl, rfl⟩; cases e
    · rintro ⟨rfl, rfl⟩; cases e
  | succ n ih =>
    intro A d1 d2 b x y v u hu h1 h2 r1 r2 e
    by_cases hc : ∀ xs ys, ¬ (d1 = .tup xs ∧ d2 = .tup ys) ∧ ¬ (d1 = .lst xs ∧ d2 = .lst ys)
    · exact (eq_flat hs (by omega) h1.b h2.b r1 r2 e hc).2.2
    · have rc := (eq_step hs ih hu h1.b h2.b r1 r2 e).1
      have refs : ∃ p q, x = .ref p ∧ y = .ref q := by
        apply Classical.byContradiction
        intro hn
        apply hc
        intro xs ys
        refine ⟨?_, ?_⟩
        · rintro ⟨rfl, rfl⟩
          obtain ⟨p, _, e1, _⟩ := (show ∃ a vs, _ from h1)
          obtain ⟨q, _, e2, _⟩ := (show ∃ a vs, _ from h2)
          exact hn ⟨p, q, e1, e2⟩
        · rintro ⟨rfl, rfl⟩
          obtain ⟨p, _, e1, _⟩ := (show ∃ a vs, _ from h1)
          obtain ⟨q, _, e2, _⟩ := (show ∃ a vs, _ from h2)
          exact hn ⟨p, q, e1, e2⟩
      obtain ⟨p, q, rfl, rfl⟩ := refs
      cases (show v = Value.ref p from r1); cases (show u = Value.ref q from r2)
      by_cases hpq : p = q
      · subst hpq
        rw [same_true hs (n + 1) h1 h2 e]
        exact .same _
      · exact .of_refs hpq rc
end
section
variable {X : Cx}
def gEq (d1 d2 : D) : Option DV := (deqF 8 d1 d2).map fun b => .val (.bl b)
def gNe (d1 d2 : D) : Option DV := (deqF 8 d1 d2).map fun b => .val (.bl (!b))
def rEqD (K : PySem.W.Frag) (neg : Bool) : R2 := fun x y H Q => ∃ Ω d1 d2 b, RepB K H Ω d1 x ∧ RepB K H Ω d2 y ∧ deqF 8 d1 d2 = some b ∧ Q (.bl (if neg then !b else b)) H
theorem op_eqD (hu : X.A.units + 64 < cLine) : OpR X (compareOp .Eq) (rEqD X.K false) := by
  intro pins s σ H x y v u Q I rx ry h
  obtain ⟨Ω, d1, d2, b, h1, h2, e, q⟩ := h
  exact (eq_step (Heaps.of I) (n := 7) (eq_main (Heaps.of I) 7) (by omega) h1 h2 rx ry e).1 _ _ _ _ ⟨.bl b, H, I, rfl, q⟩
theorem op_neD (hu : X.A.units + 64 < cLine) : OpR X (compareOp .NotEq) (rEqD X.K true) := by
  intro pins s σ H x y v u Q I rx ry h
  obtain ⟨Ω, d1, d2, b, h1, h2, e, q⟩ := h
  exact (eq_step (Heaps.of I) (n := 7) (eq_main (Heaps.of I) 7) (by omega) h1 h2 rx ry e).2 _ _ _ _ ⟨.bl (!b), H, I, rfl, q⟩
theorem cmp_eq (hu : X.A.units + 64 < cLine) : CmpD X .Eq gEq := ⟨_, op_eqD hu, by
  intro E σ H δ Ω x y d1 d2 z Q R r1 r2 hz h
  obtain ⟨b, e, rfl⟩ := Option.map_eq_some_iff.mp hz
  exact ⟨Ω, d1, d2, b, r1, r2, e, h.now R rfl⟩⟩
theorem cmp_ne (hu : X.A.units + 64 < cLine) : CmpD X .NotEq gNe := ⟨_, op_neD hu, by
  intro E σ H δ Ω x y d1 d2 z Q R r1 r2 hz h
  obtain ⟨b, e, rfl⟩ := Option.map_eq_some_iff.mp hz
  exact ⟨Ω, d1, d2, b, r1, r2, e, h.now R rfl⟩⟩
end
end DL
namespace DL
open PySem PySem.Spec PyProof.Rows L2
def DO (K : PySem.W.Frag) (E : Str → Hp → Prop) (to : TO) (f : DM (Option Int)) : Prop := ∀ σ H δ Ω, RepS K H Ω σ δ → ∀ Q : Option Int → Hp → Prop, Wg E H Ω (fun o δ' H' Ω' => RepS K H' Ω' σ δ' → Q o H') (f δ) → to σ H Q
def POD (X : Cx) (E : Str → Hp → Prop) (e : Option Expr) (f : DM (Option Int)) : Prop := ∃ t, PO X e t ∧ DO X.K E t f
def fNoPart : DM (Option Int) := .ret none
def fPart (f : DM DV) : DM (Option Int) := (fN f).bd fun a δ => match res δ a with
  | some (.int i) => .ok (some i) δ
  | _ => .un
def cutD {α : Type} (xs : List α) (lo hi : Option Int) : List α := (xs.drop (HT.sIx xs.length 0 lo)).take (HT.sIx xs.length xs.length hi - HT.sIx xs.length 0 lo)
def gSlice (d : D) (lo hi : Option Int) : Option DV := match d with
  | .lst ds => some (.own (cutD ds lo hi))
  | .str z => if z.length ≤ sizeLine then some (.val (.str (Txt.slice z lo hi))) else none
  | _ => none
def fSlice (f : DM DV) (lo hi : DM (Option Int)) : DM DV := (fN f).bd fun a => lo.bd fun l => hi.bd fun u => fun δ => match res δ a with
  | some d => (match gSlice d l u with | some r => .ok r δ | none => .un)
  | none => .un
section
variable {X : Cx} {E : Str → Hp → Prop} {pos p2 : Pos} {e : Expr} {f : DM DV} {lo hi : Option Expr} {fl fu : DM (Option Int)}
theorem pod_none : POD X E none fNoPart := ⟨_, po_none, fun σ H δ Ω R Q h => h H Ω .refl R⟩
theorem pod_some (h : PED X E e f) : POD X E (some e) (fPart f) := by
  obtain ⟨t, p, d⟩ := h
  refine ⟨_, po_some p, fun σ H δ Ω R Q h => ?_⟩
  refine d.use R h fun a x δ1 H1 Ω1 _ s1 R1 r1 h1 => ?_
  (try dsimp only at h1)
  split at h1
  · rename_i i q1
    exact ⟨i, r1.res R1 q1, h1 H1 Ω1 .refl R1⟩
  · exact h1.elim
theorem ped_slice (he : PED X E e f) (hl : POD X E lo fl) (hu : POD X E hi fu) : PED X E (.Subscript e (.Slice lo hi none p2) pos) (fSlice f fl fu) := by
  obtain ⟨t, p, d⟩ := he
  obtain ⟨tl, pl, dl⟩ := hl
  obtain ⟨tu, pu, du⟩ := hu
  refine ⟨_, pe_slice (sl_list.or sl_str) p pl pu, fun σ H δ Ω R Q h => ?_⟩
  refine d.use R h fun a x δ1 H1 Ω1 _ s1 R1 r1 h1 => ?_
  refine dl σ H1 δ1 Ω1 R1 _ (Wg.bd h1 fun l δ2 H2 Ω2 e2 h2 R2 => ?_)
  refine du σ H2 δ2 Ω2 R2 _ (Wg.bd h2 fun u δ3 H3 Ω3 e3 h3 R3 => ?_)
  have r3 := r1.ext s1 (e2.trans e3)
  cases q : res δ3 a with
  | none => rw [q] at h3; exact h3.elim
  | some dd =>
    rw [q] at h3
    cases dd with
    | lst ds =>
      obtain ⟨b, vs, e1, q2, q3⟩ := rB_lst (r3.res R3 q)
      refine .inl ⟨b, vs, e1, .inl q2, fun p hp => ?_⟩
      have hc : Reps X.K H3 Ω3 (cutD ds l u) (cutV vs l u) := by
        unfold cutD cutV
        rw [q3.length]
        exact (q3.drop _).take _
      exact Wg.alloc1 h3 R3 hp hc
    | str z =>
      unfold gSlice at h3
      (try dsimp only at h3)
      split at h3
      · rename_i r hr
        split at hr
        · rename_i hz
          cases hr
          exact .inr ⟨z, r3.res R3 q, hz, Wg.now h3 R3 rfl⟩
        · cases hr
      · exact h3.elim
    | _ => exact h3.elim
end
end DL
namespace DL
open PySem PySem.Spec PyProof.Rows L2
theorem glob_int {K : PySem.W.Frag} {mg : Str → Option Value} {x : Str} {i : Int} {t : Tok} (h : mg x = some (.int i t)) : GlobD K mg x (.int i) := ⟨_, .int i, h, ⟨t, rfl⟩, fun _ _ => rfl⟩
theorem script_sp {K : PySem.W.Frag} {ce : Str → Value} {M : List D → Ro} {H : Hp} {a : Addr} {ns : List Int} {E : XK} (hM : M [.scr ns] = .ok (.bl true)) (hO : Only H) (hS : SqL K H a (ns.map V.int)) : spP K ce 1 M [.ref a] H (fun v _ => v = .bl true) E := by
  refine ⟨rfl, fun _ => none, [.scr ns], fun _ _ q => (by cases q), fun _ _ q => (by cases q), .cons (show ∃ a, _ from ⟨a, rfl, ?_⟩) .nil, ?_⟩
  · rcases hS with (h | ⟨o, h⟩) | h
    · rcases hO a with z | ⟨o, xs, z⟩ <;> (rw [z] at h; cases h)
    · exact .inl ⟨o, h⟩
    · exact .inr h
  · rw [hM]
    exact fun H' Ω' _ _ v r => r
end DL
namespace DL
open PySem L2
theorem str_assoc (a b c : Str) : a ++ b ++ c = a ++ (b ++ c) := by
  show Str.append (Str.append a b) c = Str.append a (Str.append b c)
  unfold Str.append
  rw [Array.append_assoc]
theorem str_len (a b : Str) : (a ++ b).length = a.length + b.length := by
  show (Str.append a b).length = _
  unfold Str.append Str.length
  exact Array.size_append
theorem txt_join (sep : Str) (ls : List Str) : Txt.join sep ls = Str.join sep ls := StrLaws.glued_eq_join sep ls
theorem strsOf_map : ∀ (xs : List Str), strsOf (xs.map D.str) = some xs
  | [] => rfl
  | x :: xs => by
    show (strsOf (xs.map D.str)).map _ = _
    rw [strsOf_map xs]; rfl
theorem comp_fm {fe : DM DV} {fc : DM Bool} {rest : DSt} {g : D → D} {p : D → Bool} : ∀ (ds : List D) (s0 : Sl) (out : List D), out.length + ds.length ≤ sizeLine →
    (∀ d ∈ ds, fc (.sh d :: rest) = .ok (p d) (.sh d :: rest)) → (∀ d ∈ ds, p d = true → fN fe (.sh d :: rest) = .ok (.val (g d)) (.sh d :: rest)) →
    compD (sName 0) fc fe ds (s0 :: rest) out = some (out ++ (ds.filter p).map g)
  | [], _, out, _, _, _ => by simp [compD]
  | d :: ds, s0, out, hl, hc, he => by
    have h1 := hc d List.mem_cons_self
    have hl' : out.length + (ds.length + 1) ≤ sizeLine := hl
    have ih := fun out' (h : out'.length + ds.length ≤ sizeLine) => comp_fm ds (.sh d) out' h (fun x hx => hc x (List.mem_cons_of_mem _ hx)) (fun x hx => he x (List.mem_cons_of_mem _ hx))
    unfold compD
    show (match fc (.sh d :: rest) with | .ok true δ2 => _ | .ok false δ2 => _ | _ => _) = _
    rw [h1]
    cases hp : p d with
    | false =>
      show compD (sName 0) fc fe ds (.sh d :: rest) out = _
      rw [ih out (by omega), List.filter_cons_of_neg (by simp [hp])]
    | true =>
      show (match fN fe (.sh d :: rest) with | .ok (.val v) δ3 => _ | _ => _) = _
      rw [he d List.mem_cons_self hp]
      show (if out.length < sizeLine then compD (sName 0) fc fe ds (.sh d :: rest) (out ++ [g d]) else none) = _
      rw [if_pos (by omega), ih _ (by rw [List.length_append, List.length_singleton]; omega), List.filter_cons_of_pos hp, List.map_cons, List.append_assoc]
      rfl
theorem comp_map {fe : DM DV} {rest : DSt} {g : D → D} (ds : List D) (s0 : Sl) (hl : ds.length ≤ sizeLine) (he : ∀ d ∈ ds, fN fe (.sh d :: rest) = .ok (.val (g d)) (.sh d :: rest)) :
    compD (sName 0) (.ret true) fe ds (s0 :: rest) [] = some (ds.map g) := by
  have := comp_fm (fc := .ret true) (p := fun _ => true) (g := g) ds s0 [] (by simpa using hl) (fun _ _ => rfl) (fun d hd _ => he d hd)
  rw [List.filter_eq_self.mpr (fun _ _ => rfl), List.nil_append] at this
  exact this
def okD : Nat → D → Bool
  | _, .non => true
  | _, .int _ => true
  | _, .str _ => true
  | _, .bl _ => true
  | n + 1, .tup xs => xs.all (okD n)
  | n + 1, .lst xs => xs.all (okD n)
  | _, _ => false
theorem deq_self : ∀ (n : Nat) (d : D), okD n d = true → deqF n d d = some true := by
  intro n
  induction n with
  | zero => intro d h; cases d <;> first | (simp [okD] at h; done) | simp [deqF]
  | succ n ih =>
    have items : ∀ xs : List D, xs.all (okD n) = true → eqsF (deqF n) xs xs = some true := by
      intro xs
      induction xs with
      | nil => intro _; rfl
      | cons x xs ihx =>
        intro h
        rw [List.all_cons, Bool.and_eq_true] at h
        unfold eqsF
        rw [ih x h.1, ihx h.2]
        rfl
    intro d h
    cases d with
    | tup xs => exact items xs h
    | lst xs => exact items xs h
    | scr ns => simp [okD] at h
    | exc c => simp [okD] at h
    | _ => simp [deqF]
theorem rangeD_mem {lo : Int} {n : Nat} {d : D} (h : d ∈ rangeD lo n) : ∃ k : Nat, k < n ∧ d = .int (lo + k) := by
  unfold rangeD at h
  obtain ⟨k, hk, e⟩ := List.mem_map.mp h
  exact ⟨k, List.mem_range.mp hk, e.symm⟩
theorem range0_mem {n : Nat} {d : D} (h : d ∈ rangeD 0 n) : ∃ k : Nat, k < n ∧ d = .int (k : Int) := by
  obtain ⟨k, hk, e⟩ := rangeD_mem h
  exact ⟨k, hk, by rw [e, Int.zero_add]⟩
theorem rangeD_len (lo : Int) (n : Nat) : (rangeD lo n).length = n := by unfold rangeD; rw [List.length_map, List.length_range]
end DL
namespace DL
open PySem L2
section
variable {f f1 f2 g fo : DM DV} {fa r : DM (List DV)} {δ δ1 δ2 δ3 : DSt} {a a1 a2 : DV} {d d1 d2 : D} {z : DV} {as : List DV} {ds es : List D} {i n : Nat} {R : Rs Fl} {S S1 : DM Fl} {c c1 : DM Bool} {b b1 : Bool}
theorem ev_var (h : δ[i]? = some (.sh d)) : fVar i δ = .ok (.val d) δ := by unfold fVar; rw [h]
theorem ev_slot (h : δ[i]? = some (.ow ds)) : fVar i δ = .ok (.slot i) δ := by unfold fVar; rw [h]
theorem ev_c : fC d δ = .ok (.val d) δ := rfl
theorem ev_nil : fNil δ = .ok [] δ := rfl
theorem ev_cons (h1 : f δ = .ok a δ1) (h2 : r δ1 = .ok as δ2) : fCons f r δ = .ok (norm a :: as) δ2 := by unfold fCons fN DM.bd DM.ret; simp only [h1, h2]
theorem ev_bin {gg : D → D → Option DV} (h1 : f1 δ = .ok a1 δ1) (h2 : f2 δ1 = .ok a2 δ2) (e1 : res δ2 (norm a1) = some d1) (e2 : res δ2 (norm a2) = some d2) (hg : gg d1 d2 = some z) : fBin f1 f2 gg δ = .ok z δ2 := by
  unfold fBin fN DM.bd DM.ret; simp only [h1, h2, e1, e2, hg]
theorem ev_un {gg : D → Option DV} (h1 : f δ = .ok a δ1) (e1 : res δ1 (norm a) = some d1) (hg : gg d1 = some z) : fUn f gg δ = .ok z δ1 := by
  unfold fUn fN DM.bd DM.ret; simp only [h1, e1, hg]
theorem ev_cb {gg : List D → Option DV} (h : fa δ = .ok as δ1) (e : resAll δ1 as = some ds) (hg : gg ds = some z) : fCB fa gg δ = .ok z δ1 := by
  unfold fCB DM.bd; simp only [h, e, hg]
theorem ev_call {M : List D → Ro} (h : fa δ = .ok as δ1) (e : valsOf as = some ds) (hn : ds.length = n) (hM : M ds = .ok d) : fCall n fa M δ = .ok (.val d) δ1 := by
  unfold fCall DM.bd; simp only [h, e, hn, if_true, hM]
def roRs : Ro → DSt → Rs DV
  | .un, _ => .un
  | .er c, _ => .er c
  | .ok d, δ => .ok (.val d) δ
  | .own es, δ => .ok (.own es) δ
theorem ev_callG {M : List D → Ro} {ro : Ro} {Z : Rs DV} (h : fa δ = .ok as δ1) (e : valsOf as = some ds) (hn : ds.length = n) (hM : M ds = ro) (hr : roRs ro δ1 = Z) : fCall n fa M δ = Z := by
  unfold fCall DM.bd; simp only [h, e, hn, if_true, hM]; cases ro <;> exact hr
theorem roRs_ok : roRs (.ok d) δ = .ok (.val d) δ := rfl
theorem roRs_own : roRs (.own ds) δ = .ok (.own ds) δ := rfl
theorem ev_tup (h : fa δ = .ok as δ1) (e : valsOf as = some ds) (hl : ds.length ≤ sizeLine) : fTup fa δ = .ok (.val (.tup ds)) δ1 := by
  unfold fTup DM.bd; simp only [h, e, hl, if_true]
theorem ev_lst (h : fa δ = .ok as δ1) (e : valsOf as = some ds) (hl : ds.length ≤ sizeLine) : fLst fa δ = .ok (.own ds) δ1 := by
  unfold fLst DM.bd; simp only [h, e, hl, if_true]
theorem ev_set (h : f δ = .ok a δ1) (e : norm a = .val d) : fSet i f δ = .ok .nx (δ1.set i (.sh d)) := by
  unfold fSet fN DM.bd DM.ret; simp only [h, e]
theorem ev_setO (h : f δ = .ok (.own ds) δ1) : fSetO i f δ = .ok .nx (δ1.set i (.ow ds)) := by
  unfold fSetO DM.bd; simp only [h]
def seqK (r : Rs Fl) (S1 : DM Fl) : Rs Fl := match r with
  | .ok .nx δ' => S1 δ'
  | r => r
theorem ev_seqK {R1 : Rs Fl} (h1 : S δ = R1) (h2 : seqK R1 S1 = R) : fSeq S S1 δ = R := by unfold fSeq; rw [h1]; exact h2
theorem seqK_nx (h : S1 δ = R) : seqK (.ok .nx δ) S1 = R := h
theorem seqK_rt : seqK (.ok (.rt d) δ) S1 = .ok (.rt d) δ := rfl
theorem seqK_rto : seqK (.ok (.rto ds) δ) S1 = .ok (.rto ds) δ := rfl
theorem ev_next : fNext δ = .ok .nx δ := rfl
def retK (r : Rs DV) : Rs Fl := match r with
  | .un => .un
  | .er c => .er c
  | .ok (.val d) δ => .ok (.rt d) δ
  | .ok (.own ds) δ => .ok (.rto ds) δ
  | .ok (.slot i) δ => (match δ[i]? with | some (.ow ds) => .ok (.rto ds) (δ.set i .no) | _ => .un)
theorem ev_retK {Z : Rs DV} (h : f δ = Z) (h2 : retK Z = R) : fRet f δ = R := by
  subst h
  rw [← h2]
  unfold fRet DM.bd retK
  cases f δ with
  | un => rfl
  | er c => rfl
  | ok a δ' => cases a <;> rfl
theorem retK_val : retK (.ok (.val d) δ) = .ok (.rt d) δ := rfl
theorem retK_own : retK (.ok (.own ds) δ) = .ok (.rto ds) δ := rfl
theorem retK_slot (e : δ[i]? = some (.ow ds)) : retK (.ok (.slot i) δ) = .ok (.rto ds) (δ.set i .no) := by unfold retK; simp only [e]
theorem ev_test (h : f δ = .ok a δ1) (e : res δ1 (norm a) = some (.bl b)) : fTest f δ = .ok b δ1 := by unfold fTest fN DM.bd DM.ret; simp only [h, e]
theorem ev_app (ho : δ[i]? = some (.ow es)) (h : f δ = .ok a δ1) (e : norm a = .val d) (e2 : δ1[i]? = some (.ow ds)) (hl : ds.length < sizeLine) : fApp' i f δ = .ok .nx (δ1.set i (.ow (ds ++ [d]))) := by
  unfold fApp' isOw fApp fN DM.bd DM.ret; simp only [ho, if_true, h, e, e2, hl]
theorem ev_lc {fi : DM (List D)} {t : D → DSt → Option DSt} {fc : DM Bool} {fe : DM DV} {sel : List (Option Nat)} (h : fi δ = .ok ds δ1) (hc : compD t fc fe ds (captD δ1 sel) [] = some es) : fLC fi t fc fe sel δ = .ok (.own es) δ1 := by
  unfold fLC DM.bd; simp only [h, hc]
theorem ev_rng1 {j : Int} (h : fa δ = .ok as δ1) (e : as = [.val (.int j)]) (hs : small62 j = true) : fRng1 fa δ = .ok (rangeD 0 j.toNat) δ1 := by subst e; unfold fRng1 DM.bd; simp only [h, hs, if_true]
theorem ev_rng2 {j k : Int} (h : fa δ = .ok as δ1) (e : as = [.val (.int j), .val (.int k)]) (hs : small62 j = true) (hs2 : small62 k = true) : fRng2 fa δ = .ok (rangeD j (k - j).toNat) δ1 := by subst e; unfold fRng2 DM.bd; simp only [h, hs, hs2, Bool.and_self, if_true]
theorem ev_it {gg : D → Option (List D)} (h : f δ = .ok a δ1) (e : norm a = .val d) (hg : gg d = some ds) : fIt f gg δ = .ok ds δ1 := by unfold fIt fN DM.bd DM.ret; simp only [h, e, hg]
theorem ev_for {fi : DM (List D)} {t : D → DSt → Option DSt} (h : fi δ = .ok ds δ1) (hr : loopD t S ds δ1 = R) : fFor fi t S δ = R := by unfold fFor DM.bd; simp only [h]; exact hr
theorem ev_bm {gg : D → List D → Option DV} {x : Str} (h1 : fo δ = .ok a δ1) (e0 : res δ1 (norm a) = some (.str x)) (h2 : fa δ1 = .ok as δ2) (e1 : res δ2 (norm a) = some d) (e2 : resAll δ2 as = some ds) (hg : gg d ds = some z) : fBM fo fa gg δ = .ok z δ2 := by
  unfold fBM fN DM.bd DM.ret; simp only [h1, e0, h2, e1, e2, hg]
theorem ev_slice {lo hi : DM (Option Int)} {l u : Option Int} (h : f δ = .ok a δ1) (hl : lo δ1 = .ok l δ2) (hu : hi δ2 = .ok u δ3) (e : res δ3 (norm a) = some d) (hg : gSlice d l u = some z) : fSlice f lo hi δ = .ok z δ3 := by
  unfold fSlice fN DM.bd DM.ret; simp only [h, hl, hu, e, hg]
theorem ev_nopart : fNoPart δ = .ok none δ := rfl
theorem ev_part {j : Int} (h : f δ = .ok a δ1) (e : res δ1 (norm a) = some (.int j)) : fPart f δ = .ok (some j) δ1 := by unfold fPart fN DM.bd DM.ret; simp only [h, e]
theorem ev_andT {Z : Rs DV} (h : f δ = .ok a δ1) (e : res δ1 (norm a) = some (.bl b)) (hb : b = true) (hr : g δ1 = Z) : fAndV f g δ = Z := by
  unfold fAndV fBool fN DM.bd DM.ret; simp only [h, e, hb, if_true]; exact hr
theorem ev_andF (h : f δ = .ok a δ1) (e : res δ1 (norm a) = some (.bl b)) (hb : b = false) : fAndV f g δ = .ok (.val (.bl false)) δ1 := by
  unfold fAndV fBool fN DM.bd DM.ret; simp only [h, e, hb, Bool.false_eq_true, if_false]; rfl
theorem ev_orT (h : f δ = .ok a δ1) (e : res δ1 (norm a) = some (.bl b)) (hb : b = true) : fOrV f g δ = .ok (.val (.bl true)) δ1 := by
  unfold fOrV fBool fN DM.bd DM.ret; simp only [h, e, hb, if_true]; rfl
theorem ev_orF {Z : Rs DV} (h : f δ = .ok a δ1) (e : res δ1 (norm a) = some (.bl b)) (hb : b = false) (hr : g δ1 = Z) : fOrV f g δ = Z := by
  unfold fOrV fBool fN DM.bd DM.ret; simp only [h, e, hb, Bool.false_eq_true, if_false]; exact hr
theorem ev_not (h : f δ = .ok a δ1) (e : res δ1 (norm a) = some (.bl b)) : fNotV f δ = .ok (.val (.bl (!b))) δ1 := by
  unfold fNotV fBool fN DM.bd DM.ret; simp only [h, e]; rfl
theorem ev_notT (h : c δ = .ok b δ1) : fNotT c δ = .ok (!b) δ1 := by unfold fNotT DM.bd; simp only [h]; rfl
theorem ev_if (h : c δ = .ok b δ1) (hr : (if b = true then S δ1 else S1 δ1) = R) : fIf c S S1 δ = R := by unfold fIf DM.bd; simp only [h]; cases b <;> exact hr
theorem ev_and {Z : Rs DV} (h : f δ = .ok a δ1) (e : res δ1 (norm a) = some (.bl b)) (hr : (if b = true then g δ1 else .ok (.val (.bl false)) δ1) = Z) : fAndV f g δ = Z := by
  cases b with
  | true => exact ev_andT h e rfl hr
  | false => exact (ev_andF h e rfl).trans hr
theorem ev_or {Z : Rs DV} (h : f δ = .ok a δ1) (e : res δ1 (norm a) = some (.bl b)) (hr : (if b = true then .ok (.val (.bl true)) δ1 else g δ1) = Z) : fOrV f g δ = Z := by
  cases b with
  | true => exact (ev_orT h e rfl).trans hr
  | false => exact ev_orF h e rfl hr
theorem ev_ifE {Z : Rs DV} (h : c δ = .ok b δ1) (hr : (if b = true then f δ1 else g δ1) = Z) : fIfE c f g δ = Z := by unfold fIfE DM.bd; simp only [h]; cases b <;> exact hr
theorem ev_andTg {Z : Rs Bool} (h : c δ = .ok b δ1) (hr : (if b = true then c1 δ1 else .ok false δ1) = Z) : fAndT c c1 δ = Z := by unfold fAndT DM.bd; simp only [h]; cases b <;> exact hr
theorem ev_orTg {Z : Rs Bool} (h : c δ = .ok b δ1) (hr : (if b = true then .ok true δ1 else c1 δ1) = Z) : fOrT c c1 δ = Z := by unfold fOrT DM.bd; simp only [h]; cases b <;> exact hr
theorem ev_iteT {α : Type} {x y z : α} (hb : b = true) (h : x = z) : (if b = true then x else y) = z := by rw [hb]; exact h
theorem ev_iteF {α : Type} {x y z : α} (hb : b = false) (h : y = z) : (if b = true then x else y) = z := by rw [hb]; exact h
theorem loop_nx {t : D → DSt → Option DSt} (ht : t d δ = some δ1) (hb : S δ1 = .ok .nx δ2) (hr : loopD t S ds δ2 = R) : loopD t S (d :: ds) δ = R := by unfold loopD; rw [ht]; dsimp only; rw [hb]; exact hr
theorem ev_run {body : DM Fl} (h : body (ds.map .sh ++ List.replicate (n - ds.length) .no) = .ok (.rt d) δ1) : runP body n ds = .ok d := by unfold runP; rw [h]
theorem ev_runO {body : DM Fl} (h : body (ds.map .sh ++ List.replicate (n - ds.length) .no) = .ok (.rto es) δ1) : runP body n ds = .own es := by unfold runP; rw [h]
theorem og_addI {i j : Int} : gAdd (.int i) (.int j) = some (.val (.int (i + j))) := rfl
theorem og_addS {x y : Str} (h : x.length + y.length ≤ sizeLine) : gAdd (.str x) (.str y) = some (.val (.str (x ++ y))) := if_pos h
theorem og_addL {xs ys : List D} (h : xs.length + ys.length ≤ sizeLine) : gAdd (.lst xs) (.lst ys) = some (.own (xs ++ ys)) := if_pos h
theorem og_mul {i j : Int} (h : cmul i j = true) : gMul (.int i) (.int j) = some (.val (.int (i * j))) := if_pos h
theorem og_div {i j : Int} (h : cdiv j = true) : gDiv (.int i) (.int j) = some (.val (.int (i / j))) := if_pos h
theorem og_mod {i j : Int} (h : decide (0 < j) = true) : gMod (.int i) (.int j) = some (.val (.int (i % j))) := if_pos h
theorem og_ixL {j : Int} (h : atI ds j = some d) : gIx (.lst ds) (.int j) = some (.val d) := by show (atI ds j).map DV.val = _; rw [h]; rfl
theorem atI_zero {α : Type} (x : α) (xs : List α) : atI (x :: xs) 0 = some x := by
  unfold atI ixN
  rw [if_pos (Int.le_refl 0), if_pos (by rw [List.length_cons]; omega)]
  rfl
theorem og_ixL0 : gIx (.lst (d :: ds)) (.int 0) = some (.val d) := og_ixL (atI_zero d ds)
theorem atI_of {α : Type} {xs : List α} {j : Int} {x : α} (h0 : 0 ≤ j) (h : xs[j.toNat]? = some x) : atI xs j = some x := by
  have hl := (List.getElem?_eq_some_iff.mp h).1
  unfold atI ixN
  rw [if_pos h0, if_pos (by omega)]
  exact h
theorem og_lenS {x : Str} (h : x.length ≤ sizeLine) : gLen [.str x] = some (.val (.int x.length)) := if_pos h
theorem og_join {sep : Str} {ys : List Str} (e : strsOf ds = some ys) (h : (ys.map (·.length)).sum + ys.length * sep.length ≤ 16777216) : gJoin (.str sep) [.lst ds] = some (.val (.str (Txt.join sep ys))) := by
  show (strsOf ds).bind _ = _; rw [e]; exact if_pos h
theorem og_strI {j : Int} (h : j.natAbs.log2 < 1920) : gStr [.int j] = some (.val (.str (Str.ofString (toString j)))) := if_pos h
theorem og_eq {b : Bool} (h : deqF 8 d1 d2 = some b) : gEq d1 d2 = some (.val (.bl b)) := by unfold gEq; rw [h]; rfl
theorem og_ne {b : Bool} (h : deqF 8 d1 d2 = some b) : gNe d1 d2 = some (.val (.bl (!b))) := by unfold gNe; rw [h]; rfl
theorem og_cmulL {i j : Int} (h1 : -18446744073709551616 < i) (h2 : i < 18446744073709551616) : cmul i j = true := by unfold cmul; rw [decide_eq_true h1, decide_eq_true h2]; rfl
theorem og_cmulR {i j : Int} (h1 : -18446744073709551616 < j) (h2 : j < 18446744073709551616) : cmul i j = true := by unfold cmul; rw [decide_eq_true h1, decide_eq_true h2]; simp
theorem og_small {j : Int} (h1 : -4611686018427387904 ≤ j) (h2 : j < 4611686018427387904) : small62 j = true := by unfold small62; simp; exact ⟨by omega, by omega⟩
theorem og_slL {l u : Option Int} : gSlice (.lst ds) l u = some (.own (cutD ds l u)) := rfl
end
theorem gis_int_non  : gIs "int" (.non) = some (.val (.bl false)) := by simp [gIs, isD, isTs, tyD, isExc]
theorem gis_int_bl {x : Bool} : gIs "int" (.bl x) = some (.val (.bl true)) := by simp [gIs, isD, isTs, tyD, isExc]
theorem gis_int_int {x : Int} : gIs "int" (.int x) = some (.val (.bl true)) := by simp [gIs, isD, isTs, tyD, isExc]
theorem gis_int_str {x : Str} : gIs "int" (.str x) = some (.val (.bl false)) := by simp [gIs, isD, isTs, tyD, isExc]
theorem gis_int_tup {x : List D} : gIs "int" (.tup x) = some (.val (.bl false)) := by simp [gIs, isD, isTs, tyD, isExc]
theorem gis_int_lst {x : List D} : gIs "int" (.lst x) = some (.val (.bl false)) := by simp [gIs, isD, isTs, tyD, isExc]
theorem gis_bool_non  : gIs "bool" (.non) = some (.val (.bl false)) := by simp [gIs, isD, isTs, tyD, isExc]
theorem gis_bool_bl {x : Bool} : gIs "bool" (.bl x) = some (.val (.bl true)) := by simp [gIs, isD, isTs, tyD, isExc]
theorem gis_bool_int {x : Int} : gIs "bool" (.int x) = some (.val (.bl false)) := by simp [gIs, isD, isTs, tyD, isExc]
theorem gis_bool_str {x : Str} : gIs "bool" (.str x) = some (.val (.bl false)) := by simp [gIs, isD, isTs, tyD, isExc]
theorem gis_bool_tup {x : List D} : gIs "bool" (.tup x) = some (.val (.bl false)) := by simp [gIs, isD, isTs, tyD, isExc]
theorem gis_bool_lst {x : List D} : gIs "bool" (.lst x) = some (.val (.bl false)) := by simp [gIs, isD, isTs, tyD, isExc]
theorem gis_str_non  : gIs "str" (.non) = some (.val (.bl false)) := by simp [gIs, isD, isTs, tyD, isExc]
theorem gis_str_bl {x : Bool} : gIs "str" (.bl x) = some (.val (.bl false)) := by simp [gIs, isD, isTs, tyD, isExc]
theorem gis_str_int {x : Int} : gIs "str" (.int x) = some (.val (.bl false)) := by simp [gIs, isD, isTs, tyD, isExc]
theorem gis_str_str {x : Str} : gIs "str" (.str x) = some (.val (.bl true)) := by simp [gIs, isD, isTs, tyD, isExc]
theorem gis_str_tup {x : List D} : gIs "str" (.tup x) = some (.val (.bl false)) := by simp [gIs, isD, isTs, tyD, isExc]
theorem gis_str_lst {x : List D} : gIs "str" (.lst x) = some (.val (.bl false)) := by simp [gIs, isD, isTs, tyD, isExc]
theorem gis_list_non  : gIs "list" (.non) = some (.val (.bl false)) := by simp [gIs, isD, isTs, tyD, isExc]
theorem gis_list_bl {x : Bool} : gIs "list" (.bl x) = some (.val (.bl false)) := by simp [gIs, isD, isTs, tyD, isExc]
theorem gis_list_int {x : Int} : gIs "list" (.int x) = some (.val (.bl false)) := by simp [gIs, isD, isTs, tyD, isExc]
theorem gis_list_str {x : Str} : gIs "list" (.str x) = some (.val (.bl false)) := by simp [gIs, isD, isTs, tyD, isExc]
theorem gis_list_tup {x : List D} : gIs "list" (.tup x) = some (.val (.bl false)) := by simp [gIs, isD, isTs, tyD, isExc]
theorem gis_list_lst {x : List D} : gIs "list" (.lst x) = some (.val (.bl true)) := by simp [gIs, isD, isTs, tyD, isExc]
theorem gis_tuple_non  : gIs "tuple" (.non) = some (.val (.bl false)) := by simp [gIs, isD, isTs, tyD, isExc]
theorem gis_tuple_bl {x : Bool} : gIs "tuple" (.bl x) = some (.val (.bl false)) := by simp [gIs, isD, isTs, tyD, isExc]
theorem gis_tuple_int {x : Int} : gIs "tuple" (.int x) = some (.val (.bl false)) := by simp [gIs, isD, isTs, tyD, isExc]
theorem gis_tuple_str {x : Str} : gIs "tuple" (.str x) = some (.val (.bl false)) := by simp [gIs, isD, isTs, tyD, isExc]
theorem gis_tuple_tup {x : List D} : gIs "tuple" (.tup x) = some (.val (.bl true)) := by simp [gIs, isD, isTs, tyD, isExc]
theorem gis_tuple_lst {x : List D} : gIs "tuple" (.lst x) = some (.val (.bl false)) := by simp [gIs, isD, isTs, tyD, isExc]
end DL
namespace DL
open PySem PySem.Spec PyProof.Rows L2
section
variable {X : Cx} {E : Str → Hp → Prop} {pos : Pos} {a b c e : Expr} {f g h : DM DV} {mp : List Nat}
def blsOf : List D → Option (List Bool)
  | [] => some []
  | .bl i :: r => (blsOf r).map fun xs => i :: xs
  | _ :: _ => none
theorem bls_vals {K : PySem.W.Frag} {H : Hp} {Ω : Om} : ∀ {ds : List D} {vs : List V} {xs : List Bool}, Reps K H Ω ds vs → blsOf ds = some xs → vs = xs.map V.bl
  | [], _, _, r, h => by cases h; exact r
  | .bl x :: ds, _, xs, r, h => by
    obtain ⟨v, q, e1, e2, e3⟩ := (show ∃ v r, _ from r)
    unfold blsOf at h
    obtain ⟨ys, h1, rfl⟩ := Option.map_eq_some_iff.mp h
    rw [e1, bls_vals e3 h1, (show v = .bl x from e2)]
    rfl
  | .non :: _, _, _, _, h => by cases h
  | .int _ :: _, _, _, _, h => by cases h
  | .str _ :: _, _, _, _, h => by cases h
  | .tup _ :: _, _, _, _, h => by cases h
  | .lst _ :: _, _, _, _, h => by cases h
  | .scr _ :: _, _, _, _, h => by cases h
  | .exc _ :: _, _, _, _, h => by cases h
def gAll : List D → Option DV
  | [.lst ds] => (blsOf ds).map fun ns => .val (.bl (ns.all id))
  | _ => none
theorem cb_all (hc : X.calm = true) : CallD X (.builtin "all") gAll := ⟨_, call_allL hc, by
  intro E σ H δ Ω vs ds z Q R r hz h
  unfold gAll at hz
  split at hz
  · obtain ⟨ns, h1, rfl⟩ := Option.map_eq_some_iff.mp hz
    obtain ⟨v, e, rv⟩ := rBs_one r
    obtain ⟨a, ws, e1, e2, e3⟩ := rB_lst rv
    subst e1
    have hw := bls_vals e3 h1
    subst hw
    exact ⟨a, ns, e, .inl e2, h.now R rfl⟩
  · cases hz⟩
def gInt : List D → Option DV
  | [.str x] => if x.length ≤ 640 then (PySem.intText? x).map fun n => .val (.int n) else none
  | [.int i] => some (.val (.int i))
  | _ => none
theorem cb_int : CallD X (.type "int") gInt := ⟨_, call_int_text.or call_int1, by
  intro E σ H δ Ω vs ds z Q R r hz h
  unfold gInt at hz
  split at hz
  · split at hz
    · rename_i x hl
      obtain ⟨n, h1, rfl⟩ := Option.map_eq_some_iff.mp hz
      obtain ⟨v, e, rv⟩ := rBs_one r
      cases (show v = .str x from rv)
      exact .inl ⟨x, n, e, h1, hl, h.now R rfl⟩
    · cases hz
  · cases hz
    obtain ⟨v, e, rv⟩ := rBs_one r
    cases (show v = .int _ from rv)
    exact .inr (.inl ⟨_, e, h.now R rfl⟩)
  · cases hz⟩
theorem reps_strs {K : PySem.W.Frag} {H : Hp} {Ω : Om} : ∀ (xs : List Str), Reps K H Ω (xs.map D.str) (xs.map V.str)
  | [] => .nil
  | x :: xs => .cons rfl (reps_strs xs)
def gSplit : D → List D → Option DV
  | .str s, [.str sep] => if sep.length == 0 then none else if s.length ≤ sizeLine ∧ (Txt.split s sep).length ≤ sizeLine then some (.own ((Txt.split s sep).map D.str)) else none
  | _, _ => none
theorem md_split : MtD X "str" "str.split" gSplit := ⟨_, mt_split, by
  intro E σ H δ Ω x vs d ds z Q R r1 r2 hz h
  unfold gSplit at hz
  split at hz
  · rename_i s sep
    split at hz
    · cases hz
    · rename_i h0
      split at hz
      · rename_i hl
        cases hz
        obtain ⟨v, e, rv⟩ := rBs_one r2
        cases (show v = .str sep from rv)
        exact ⟨s, sep, r1, e, by simpa using h0, hl.1, hl.2, fun p hp => h.alloc1 R hp (reps_strs _)⟩
      · cases hz
  · cases hz⟩
def memS (k : Str) (ys : List Str) : Bool := ys.any fun y => decide (y = k)
theorem inV_strs (k : Str) (ys : List Str) : inV (.str k) (ys.map V.str) = memS k ys := by
  unfold inV memS
  rw [List.any_map]
  have : ((fun y => eqV y (.str k)) ∘ V.str) = fun y => decide (y = k) := by
    funext y
    show (y == k) = decide (y = k)
    by_cases hy : y = k
    · subst hy; simp
    · rw [decide_eq_false hy]; exact beq_eq_false_iff_ne.mpr hy
  rw [this]
theorem flat_strs (ys : List Str) : (ys.map V.str).all flatV = true := by
  rw [List.all_map]
  exact List.all_eq_true.mpr fun _ _ => rfl
def gNotIn : D → D → Option DV
  | .str k, .tup ds => (strsOf ds).map fun ys => .val (.bl (!memS k ys))
  | .str k, .lst ds => (strsOf ds).map fun ys => .val (.bl (!memS k ys))
  | _, _ => none
theorem cmp_notin : CmpD X .NotIn gNotIn := ⟨_, op_notIn_seq, by
  intro E σ H δ Ω x y d1 d2 z Q R r1 r2 hz h
  unfold gNotIn at hz
  split at hz
  · obtain ⟨ys, h1, rfl⟩ := Option.map_eq_some_iff.mp hz
    obtain ⟨a, ws, e1, e2, e3⟩ := rB_tup r2
    cases strs_vals e3 h1
    cases (show x = .str _ from r1)
    exact ⟨a, _, e1, .inr e2, rfl, flat_strs ys, by rw [inV_strs]; exact h.now R rfl⟩
  · obtain ⟨ys, h1, rfl⟩ := Option.map_eq_some_iff.mp hz
    obtain ⟨a, ws, e1, e2, e3⟩ := rB_lst r2
    cases strs_vals e3 h1
    cases (show x = .str _ from r1)
    exact ⟨a, _, e1, .inl (.inl e2), rfl, flat_strs ys, by rw [inV_strs]; exact h.now R rfl⟩
  · cases hz⟩
def strItems (z : Str) : List D := z.cps.toList.map fun c => D.str ⟨#[c]⟩
def gStrItems : D → Option (List D)
  | .str z => some (strItems z)
  | _ => none
theorem yl_str {K : PySem.W.Frag} {H : Hp} {Ω : Om} (z : Str) : Yl K (Its z) H Ω (strItems z) where
  go := fun i H' Ω' e hi => by
    unfold strItems at hi
    rw [List.length_map] at hi
    show i < z.cps.size
    simpa using hi
  yld := fun i d H' Ω' x H'' e hd hy => by
    obtain ⟨q, c, h1, h2⟩ := hy
    subst q
    unfold strItems at hd
    rw [List.getElem?_map] at hd
    have h1' : z.cps.toList[i]? = some c := by simpa using h1
    rw [h1'] at hd
    cases hd
    exact ⟨h2, .inl rfl⟩
  stop := fun H' Ω' e => by
    unfold strItems
    rw [List.length_map]
    show z.cps.size ≤ _
    simp
theorem pid_str {tg : Expr} (ha : PED X E a f) : PID X E tg a (fIt f gStrItems) := by
  obtain ⟨t, p, d⟩ := ha
  refine ⟨_, pi_str p, ?_⟩
  intro σ H δ Ω R Q h
  refine d.use R h fun a x δ1 H1 Ω1 _ s1 R1 r1 h1 => ?_
  cases a with
  | val d =>
    cases d with
    | str z => exact ⟨z, r1, h1 H1 Ω1 .refl R1 _ fun Ω2 q => yl_str z⟩
    | _ => exact h1.elim
  | slot i => exact h1.elim
  | own ds => exact h1.elim
def GlobT (K : PySem.W.Frag) (mg : Str → Option Value) (x : Str) (kvs : List (Str × Int)) : Prop := ∃ a, mg x = some (.ref a) ∧ TabK K a kvs
theorem glob_tab {K : PySem.W.Frag} {mg : Str → Option Value} {x : Str} {a : Addr} {kvs : List (Str × Int)} (h : mg x = some (.ref a)) (T : TabK K a kvs) : GlobT K mg x kvs := ⟨a, h, T⟩
def gTabIn (kvs : List (Str × Int)) : D → Option DV
  | .str k => some (.val (.bl (tabAt k kvs).isSome))
  | _ => none
theorem ped_tabin {x : Str} {kvs : List (Str × Int)} {p : Pos} (hm : GlobT X.K X.mg x kvs) (ha : PED X E a f) (hb : behindInMarks .In (.Name x p) = false := by with_unfolding_all rfl) (hg : Gl X x := by rfl) (hd : (x == ("__debug__" : Str)) = false := by decide) :
    PED X E (.Compare a [.In] [.Name x p] pos) (fUn f (gTabIn kvs)) := by
  obtain ⟨ad, h1, T⟩ := hm
  obtain ⟨t, q, d⟩ := ha
  refine ⟨_, pe_cmpR op_in_tab q (pe_glob (v := .ref ad) hg h1 rfl hd) hb, ?_⟩
  intro σ H δ Ω R Q w
  refine d.use R w fun a1 y δ1 H1 Ω1 _ s1 R1 r1 w1 => ?_
  cases q1 : res δ1 a1 with
  | none => rw [q1] at w1; exact w1.elim
  | some d1 =>
    rw [q1] at w1
    cases d1 with
    | str k => exact ⟨k, ad, kvs, r1.res R1 q1, rfl, T, Wg.now w1 R1 rfl⟩
    | _ => exact w1.elim
section
variable {tg iter elt : Expr} {ifs : List Expr} {sc : Scope} {fi : DM (List D)} {t : D → DSt → Option DSt} {fc : DM Bool} {fe : DM DV} {N : List Str} {sel : List (Option Nat)}
end
def fRev (i : Nat) : DM Fl := fun δ => match δ[i]? with
  | some (.ow ds) => .ok .nx (δ.set i (.ow ds.reverse))
  | _ => .un
def fExt0 (i : Nat) (f : DM DV) : DM Fl := (fN f).bd fun a δ => match res δ a, δ[i]? with
  | some (.lst es), some (.ow ds) => if ds.length + es.length ≤ sizeLine then .ok .nx (δ.set i (.ow (ds ++ es))) else .un
  | _, _ => .un
def fExtend (i : Nat) (f : DM DV) : DM Fl := fun δ => if isOw i δ then fExt0 i f δ else .un
def flatLk : Value → D → Bool
  | .none, .non => true
  | .bool b, .bl c => b == c
  | .int i _, .int j => i == j
  | .str x _, .str y => x == y
  | _, _ => false
def flatsLk : List Value → List D → Bool
  | [], [] => true
  | v :: vs, d :: ds => flatLk v d && flatsLk vs ds
  | _, _ => false
def tupLk (K : PySem.W.Frag) (a : Addr) (ds : List D) : Bool := match K.lookup a with
  | some o => o.cls == .type "tuple" && (match o.data with | .seq vs _ => flatsLk vs.toList ds && decide (vs.size ≤ sizeLine) | _ => false)
  | none => false
def flV : D → V
  | .bl b => .bl b
  | .int i => .int i
  | .str x => .str x
  | _ => .non
theorem flatLk_ok {K : PySem.W.Frag} {H : Hp} {Ω : Om} {v : Value} {d : D} (h : flatLk v d = true) : RelV (flV d) v ∧ Rep K H Ω d (flV d) := by
  unfold flatLk at h
  split at h
  · exact ⟨rfl, rfl⟩
  · obtain rfl := beq_iff_eq.mp h; exact ⟨rfl, rfl⟩
  · obtain rfl := beq_iff_eq.mp h; exact ⟨⟨_, rfl⟩, rfl⟩
  · obtain rfl := beq_iff_eq.mp h; exact ⟨⟨_, rfl⟩, rfl⟩
  · cases h
theorem flatsLk_ok {K : PySem.W.Frag} {H : Hp} {Ω : Om} : ∀ {vs : List Value} {ds : List D}, flatsLk vs ds = true → Vals (ds.map flV) vs ∧ Reps K H Ω ds (ds.map flV)
  | [], [], _ => ⟨.nil, .nil⟩
  | v :: vs, d :: ds, h => by
    have h : (flatLk v d && flatsLk vs ds) = true := h
    rw [Bool.and_eq_true] at h
    obtain ⟨h1, h2⟩ := flatsLk_ok (K := K) (H := H) (Ω := Ω) h.2
    obtain ⟨h3, h4⟩ := flatLk_ok (K := K) (H := H) (Ω := Ω) h.1
    exact ⟨.cons h3 h1, .cons h4 h2⟩
  | [], _ :: _, h => by cases h
  | _ :: _, [], h => by cases h
theorem glob_tup {K : PySem.W.Frag} {mg : Str → Option Value} {x : Str} {a : Addr} {ds : List D} (h : mg x = some (.ref a)) (T : tupLk K a ds = true) : GlobD K mg x (.tup ds) := by
  refine ⟨_, .ref a, h, rfl, fun H Ω => ?_⟩
  unfold tupLk at T
  split at T
  · rename_i o ho
    rw [Bool.and_eq_true] at T
    obtain ⟨T1, T2⟩ := T
    split at T2
    · rename_i vs n hd
      rw [Bool.and_eq_true] at T2
      obtain ⟨h1, h2⟩ := flatsLk_ok (K := K) (H := H) (Ω := Ω) T2.1
      exact (show ∃ a vs, _ from ⟨a, _, rfl, .inr ⟨o, vs, n, ho, beq_iff_eq.mp T1, hd, by simpa using T2.2, h1⟩, h2⟩)
    · cases T2
  · cases T
def enumD (lo : Int) : List D → List D
  | [] => []
  | d :: ds => .tup [.int lo, d] :: enumD (lo + 1) ds
def gEnumItems : D → Option (List D)
  | .lst ds => some (enumD 1 ds)
  | _ => none
def fEnum (f : DM DV) : DM (List D) := fIt f gEnumItems
theorem ev_enum {δ δ1 : DSt} {aa : DV} {ds : List D} (h : f δ = .ok aa δ1) (e : norm aa = .val (.lst ds)) : fEnum f δ = .ok (enumD 1 ds) δ1 := by unfold fEnum fIt fN DM.bd DM.ret; simp only [h, e]; rfl
theorem ev_extend {i : Nat} {δ δ1 : DSt} {aa : DV} {es ds ds0 : List D} (ho : δ[i]? = some (.ow ds0)) (h : f δ = .ok aa δ1) (e : res δ1 (norm aa) = some (.lst es)) (e2 : δ1[i]? = some (.ow ds)) (hl : ds.length + es.length ≤ sizeLine) : fExtend i f δ = .ok .nx (δ1.set i (.ow (ds ++ es))) := by
  unfold fExtend
  have : isOw i δ = true := by unfold isOw; rw [ho]
  simp only [this, if_true]
  unfold fExt0 fN DM.bd DM.ret
  simp only [h, e, e2, hl, if_true]
theorem ev_rev {i : Nat} {δ : DSt} {ds : List D} (h : δ[i]? = some (.ow ds)) : fRev i δ = .ok .nx (δ.set i (.ow ds.reverse)) := by unfold fRev; rw [h]
end
end DL
namespace DL
open PySem PySem.Spec PyProof.Rows L2
inductive Rn where
  | un | ok (d : D) (mss : List (List D)) | own (ds : List D) (mss : List (List D))
def putO : DSt → List Nat → List (List D) → DSt
  | δ, i :: is, ms :: mss => putO (δ.set i (.ow ms)) is mss
  | δ, _, _ => δ
def getO (δ : DSt) : List Nat → Option (List (List D))
  | [] => some []
  | i :: is => match δ[i]?, getO δ is with
    | some (.ow ms), some r => some (ms :: r)
    | _, _ => none
section
variable {K : PySem.W.Frag} {E : Str → Hp → Prop} {H H' : Hp} {Ω Ω' : Om} {σ : St} {δ : DSt} {pr : Nat → Addr} {jf : Nat → Nat}
def Lists (K : PySem.W.Frag) (H : Hp) (Ω : Om) (pr : Nat → Addr) : List Nat → List (List D) → Prop
  | [], mss => mss = []
  | i :: is, mss => ∃ ms r, mss = ms :: r ∧ (∃ xs, H (pr i) = some (.lst xs) ∧ Ω (pr i) = some (i + 2) ∧ Reps K H Ω ms xs) ∧ Lists K H Ω pr is r
theorem Lists.len : ∀ {is : List Nat} {mss : List (List D)}, Lists K H Ω pr is mss → mss.length = is.length
  | [], _, h => by rw [(show _ = [] from h)]; rfl
  | i :: is, _, h => by
    obtain ⟨ms, r, rfl, _, h2⟩ := h
    rw [List.length_cons, List.length_cons, Lists.len h2]
theorem Lists.at : ∀ {is : List Nat} {mss : List (List D)} {k i : Nat} {ms : List D}, Lists K H Ω pr is mss → is[k]? = some i → mss[k]? = some ms → ∃ xs, H (pr i) = some (.lst xs) ∧ Ω (pr i) = some (i + 2) ∧ Reps K H Ω ms xs
  | [], _, _, _, _, _, e, _ => by simp at e
  | a :: is, _, 0, i, ms, h, e, e2 => by
    obtain ⟨m, r, rfl, h1, h2⟩ := h
    have : a = i := by simpa using e
    subst this
    have : m = ms := by simpa using e2
    subst this
    exact h1
  | a :: is, _, k + 1, i, ms, h, e, e2 => by
    obtain ⟨m, r, rfl, h1, h2⟩ := h
    exact Lists.at (k := k) h2 (by simpa using e) (by simpa using e2)
theorem Lists.mem {is : List Nat} {mss : List (List D)} {i : Nat} (h : Lists K H Ω pr is mss) (hi : i ∈ is) : ∃ xs, H (pr i) = some (.lst xs) ∧ Ω (pr i) = some (i + 2) := by
  obtain ⟨k, hk, e⟩ := List.mem_iff_getElem.mp hi
  have hm : k < mss.length := by rw [h.len]; exact hk
  obtain ⟨xs, h1, h2, _⟩ := h.at (k := k) (i := i) (ms := mss[k]) (by rw [List.getElem?_eq_getElem hk, e]) (List.getElem?_eq_getElem hm)
  exact ⟨xs, h1, h2⟩
def RnQ (K : PySem.W.Frag) (H : Hp) (Ω : Om) (pr : Nat → Addr) (is : List Nat) (Q : VK) : Rn → Prop
  | .un => False
  | .ok d mss => ∀ H' Ω', Ext H Ω H' Ω' → Trk H' Ω' → Lists K H' Ω' pr is mss → ∀ v, Rep K H' Ω' d v → Q v H'
  | .own ds mss => ∀ H' Ω', Ext H Ω H' Ω' → Trk H' Ω' → Lists K H' Ω' pr is mss → ∀ v, RepDV K H' Ω' [] (.own ds) v → Q v H'
def RepsY (K : PySem.W.Frag) (H : Hp) (Ω : Om) (is : List Nat) (ds : List D) (vs : List V) : Prop := ds.length = vs.length ∧ ∀ j d, j ∉ is → ds[j]? = some d → ∃ v, vs[j]? = some v ∧ Rep K H Ω d v
def spN (K : PySem.W.Frag) (n : Nat) (is : List Nat) (M : List D → List (List D) → Rn) : Sp := fun vs H Q _ => vs.length = n ∧ ∃ Ω ds pr mss, Trk H Ω ∧ (∀ i ∈ is, vs[i]? = some (.ref (pr i))) ∧ Lists K H Ω pr is mss ∧ (∀ b k, Ω b = some k → k = 0 ∨ ∃ i ∈ is, b = pr i) ∧ RepsY K H Ω is ds vs ∧ RnQ K H Ω pr is Q (M ds mss)
theorem RepS.lists {is : List Nat} {mss : List (List D)} (R : RepS K H Ω σ δ) (hσ : ∀ i ∈ is, σ[i]? = some (some (.ref (pr i)))) (h : getO δ is = some mss) : Lists K H Ω pr is mss := by
  induction is generalizing mss with
  | nil => cases h; rfl
  | cons i is ih =>
    unfold getO at h
    split at h
    · rename_i ms r e1 e2
      cases h
      obtain ⟨b, ys, q1, q2, q3, q4⟩ := R.sl i _ e1
      rw [hσ i List.mem_cons_self] at q1
      cases q1
      exact ⟨ms, r, rfl, ⟨ys, q2, q3, q4⟩, ih (fun j hj => hσ j (List.mem_cons_of_mem _ hj)) e2⟩
    · cases h
end
section
variable {P : Program} {w : World} {K : PySem.W.Frag} {mg : Str → Option Value} {base : Heap}
end
def slotsOf (as : List DV) : List Nat → Option (List Nat)
  | [] => some []
  | i :: is => match as[i]?, slotsOf as is with
    | some (.slot j), some r => some (j :: r)
    | _, _ => none
def valsY (is : List Nat) : Nat → List DV → Option (List D)
  | _, [] => some []
  | k, .val d :: r => (valsY is (k + 1) r).map fun ds => d :: ds
  | k, _ :: r => if k ∈ is then (valsY is (k + 1) r).map fun ds => .non :: ds else none
def rnRs : Rn → DSt → List Nat → Rs DV
  | .un, _, _ => .un
  | .ok d mss, δ, js => .ok (.val d) (putO δ js mss)
  | .own es mss, δ, js => .ok (.own es) (putO δ js mss)
def fCallN (n : Nat) (is : List Nat) (fa : DM (List DV)) (M : List D → List (List D) → Rn) : DM DV := fa.bd fun as δ => match slotsOf as is with
  | some js => if js.Nodup then (match getO δ js, valsY is 0 as with
    | some mss, some ds => if ds.length = n then rnRs (M ds mss) δ js else .un
    | _, _ => .un) else .un
  | none => .un
section
variable {K : PySem.W.Frag} {E : Str → Hp → Prop} {H H' : Hp} {Ω Ω' : Om} {σ : St} {δ : DSt} {pr : Nat → Addr} {jf : Nat → Nat} {is : List Nat}
theorem RepDVs.get : ∀ {as : List DV} {vs : List V} {i : Nat} {a : DV}, RepDVs K H Ω σ as vs → as[i]? = some a → ∃ v, vs[i]? = some v ∧ RepDV K H Ω σ a v
  | [], _, _, _, _, e => by simp at e
  | b :: r, _, 0, a, h, e => by
    obtain ⟨v, q, e1, e2, e3⟩ := h
    subst e1
    have : b = a := by simpa using e
    subst this
    exact ⟨v, rfl, e2⟩
  | _ :: r, _, i + 1, a, h, e => by
    obtain ⟨v, q, e1, e2, e3⟩ := h
    subst e1
    obtain ⟨w, q1, q2⟩ := RepDVs.get (i := i) e3 (by simpa using e)
    exact ⟨w, by simpa using q1, q2⟩
end
section
variable {X : Cx} {E : Str → Hp → Prop} {pos : Pos} {e : Expr}
structure DefN (P : Program) (w : World) (K : PySem.W.Frag) (mg : Str → Option Value) (base : Heap) (k : Nat) (x : Str) (n : Nat) (is : List Nat) (M : List D → List (List D) → Rn) : Prop where
  ex : ∃ (f : Addr) (fd : FuncData) (ps : List Str), FnOk P w K mg base CX0 k f fd ps (spN K n is M) ∧ mg x = some (.ref f) ∧ PySem.W.keepIn K (.ref f) = true ∧ Binds K fd ps []
end
section
variable {δ δ1 : DSt} {d : D} {ds es : List D} {mss mss' : List (List D)} {is js : List Nat} {n : Nat} {as : List DV} {fa : DM (List DV)} {body : DM Fl}
theorem rnRs_ok : rnRs (.ok d mss) δ js = .ok (.val d) (putO δ js mss) := rfl
theorem rnRs_own : rnRs (.own es mss) δ js = .ok (.own es) (putO δ js mss) := rfl
theorem ev_callN {M : List D → List (List D) → Rn} {rn : Rn} {Z : Rs DV} (h : fa δ = .ok as δ1) (e : slotsOf as is = some js) (hn : js.Nodup) (e2 : getO δ1 js = some mss) (e3 : valsY is 0 as = some ds) (hl : ds.length = n) (hM : M ds mss = rn) (hr : rnRs rn δ1 js = Z) : fCallN n is fa M δ = Z := by
  unfold fCallN DM.bd
  simp only [h, e, hn, e2, e3, hl, if_true, hM]
  exact hr
end
end DL
namespace L2
open PySem PySem.Spec PyProof.Rows PySem.W
theorem ObjOk.has {P : Program} {w : World} {H : Hp} {h : Heap} {a : Addr} {o : HO} (x : ObjOk P w H h a o) : ∃ u, h.get? a = some u := by
  cases o with
  | lst xs => obtain ⟨_, _, _, _, e⟩ := x; exact ⟨_, e⟩
  | tup xs => obtain ⟨_, _, _, _, e, _⟩ := x; exact ⟨_, e⟩
  | dK kvs => obtain ⟨_, _, _, _, o, _, _, e, _⟩ := x; exact ⟨_, e⟩
  | dT kvs => obtain ⟨_, _, _, _, o, _, _, e, _⟩ := x; exact ⟨_, e⟩
  | set S n => obtain ⟨o, _, _, _, e, _⟩ := x; exact ⟨_, e⟩
  | ins C dx fs => obtain ⟨_, _, _, e, _⟩ := x; exact ⟨_, e⟩
  | own y => obtain ⟨_, e⟩ := x; exact ⟨_, e⟩
  | xd fs => obtain ⟨_, ⟨_, _, _, e, _⟩, _⟩ := x; exact ⟨_, e⟩
  | rng lo hi => obtain ⟨_, _, _, e⟩ := x; exact ⟨_, e⟩
  | frz ob u => obtain ⟨e, _⟩ := x; exact ⟨_, e⟩
  | tbl ps => exact ⟨_, (show h.get? a = some _ from x)⟩
  | met f y => exact ⟨_, (show h.get? a = some _ from x)⟩
  | ext φ => obtain ⟨_, ⟨_, e⟩, _⟩ := x; exact ⟨_, e⟩
theorem HOk.none_of {P : Program} {w : World} {H : Hp} {h : Heap} {a : Addr} (x : HOk P w H h) (e : h.get? a = none) : H a = none := by
  cases q : H a with
  | none => rfl
  | some u => obtain ⟨o, z⟩ := (x a u q).has; rw [e] at z; cases z
def Tr (g : Heap) (H : Hp) (a : Addr) (cls : Value) (h : Heap) : Prop :=
  g.get? a = none ∧ H a = none ∧ ∃ a0 oe vs T oT ts, h.get? a = some oe ∧ (oe.cls = cls ∧ vs[0]? = some a0) ∧ oe.data = .fields vs ∧ vs[1]? = some (.ref T) ∧ g.get? T = none ∧ H T = none ∧ T ≠ a ∧ h.get? T = some oT ∧ oT.data = .fields ts ∧ ts[3]? = some .none
def Fly (P : Program) (w : World) : CXT := fun outer H s E e s' => ∃ a cls H', e = .ref a ∧ s'.os = s.os ∧ AllBare s'.gens ∧ Un (frs outer) [] H H' s.heap s'.heap ∧ HOk P w H' s'.heap ∧ Tr s.heap H' a cls s'.heap ∧ E cls none H'
section
variable {P : Program} {w : World} {K : PySem.W.Frag} {mg : Str → Option Value} {base : Heap} {N : List Str} {qual : Str} {scope : Scope} {f : Addr} {cd : Value} {A : Around} {outer : List Env} {s₀ : Shared} {H₀ : Hp} {E₀ : XK}
  {pins : List (Addr × Obj)} {σ : St} {H : Hp} {s : Shared}
theorem none_back {g h : Heap} {H H' : Hp} {fs : List Addr} {b : Addr} (u : Un fs [] H H' g h) (e : h.get? b = none) : g.get? b = none := by
  cases q : g.get? b with
  | none => rfl
  | some o => obtain ⟨o', z⟩ := u.there b o q (by simp); rw [e] at z; cases z
theorem fly_after (I : Inv (cxOf (Fly P w) P w K mg base N qual scope f cd A outer s₀ H₀ E₀) pins σ H s) {h' : Heap} {as : List Addr} {e : Addr} {cls a0 : Value} (ha : ∀ b ∈ as, s₀.heap.get? b = none ∧ H b = none) (he : e ∈ as)
    (L : Heap.LeftW (hideAll s.heap (as ++ frs (cxOf (Fly P w) P w K mg base N qual scope f cd A outer s₀ H₀ E₀).stack)) (cxOf (Fly P w) P w K mg base N qual scope f cd A outer s₀ H₀ E₀).stack e cls a0 s.heap h') (hE : E₀ cls none H) :
    Fly P w outer H₀ s₀ E₀ (.ref e) { s with heap := h' } := by
  obtain ⟨st, ff, tr, sl⟩ := L
  have hfr := I.stkFree
  have hsub : ∀ b ∈ frs outer, b ∈ frs (cxOf (Fly P w) P w K mg base N qual scope f cd A outer s₀ H₀ E₀).stack := fun b hb => by
    show b ∈ frs (envOfC qual scope s₀.heap.objs.size f cd :: outer)
    unfold frs at hb ⊢
    rw [List.filterMap_cons]
    exact List.mem_cons_of_mem _ hb
  have stay : ∀ b o, s.heap.get? b = some o → b ∉ as → b ∉ frs (cxOf (Fly P w) P w K mg base N qual scope f cd A outer s₀ H₀ E₀).stack → h'.get? b = some o := fun b o q n1 n2 =>
    st b o (hideAll_get _ q fun z => (List.mem_append.mp z).elim n1 n2)
  have old : ∀ b o, s₀.heap.get? b = some o → b ∉ as := fun b o q z => by rw [(ha b z).1] at q; cases q
  have notL : ∀ b o, s₀.heap.get? b = some o → b ∉ frs outer → b ∉ frs (cxOf (Fly P w) P w K mg base N qual scope f cd A outer s₀ H₀ E₀).stack := fun b o q n z => by
    have := I.stkSub b z
    rcases List.mem_cons.mp this with e' | e'
    · subst e'
      exact absurd (Heap.lt_size q) (Nat.not_lt.mpr I.ok.above)
    · exact n e'
  obtain ⟨oe, vs, T, oT, ts, t1, t2, t3, t4, t5, t6, t7, t8, t9⟩ := tr
  have hTf : T ∉ frs (cxOf (Fly P w) P w K mg base N qual scope f cd A outer s₀ H₀ E₀).stack := fun z => by
    obtain ⟨_, o, ho, hd⟩ := ff.mem z
    rw [t7] at ho
    cases ho
    exact hd _ t8
  have hT : s₀.heap.get? T = none ∧ H T = none := by
    by_cases hTa : T ∈ as
    · exact ha T hTa
    · have q : s.heap.get? T = none := by
        cases q : s.heap.get? T with
        | none => rfl
        | some o => rw [hideAll_get _ q (fun z => (List.mem_append.mp z).elim hTa hTf)] at t5; cases t5
      exact ⟨none_back I.base q, I.hok.none_of q⟩
  refine ⟨e, cls, H, rfl, I.os, I.bare, ⟨fun b o q n hb _ => ?_, fun b o q n hb _ => ?_, fun b o q n _ => ?_, fun b o q _ => ?_, I.base.tups, I.base.frzs, I.base.tbls⟩, fun b o q => ?_, ⟨(ha e he).1, (ha e he).2, a0, oe, vs, T, oT, ts, t1, t2, t3, t4, hT.1, hT.2, t6, t7, t8, t9⟩, hE⟩
  · exact stay b o (I.base.keep b o q n hb (by exact List.not_mem_nil)) (old b o q) (notL b o q hb)
  · obtain ⟨s1, q1⟩ := I.base.slot b o q n hb (by exact List.not_mem_nil)
    obtain ⟨_, o2, q2, q3⟩ := I.stack.mem (hsub b hb)
    rw [q1] at q2
    cases q2
    obtain ⟨s2, q4⟩ := sl b _ q1 q3
    exact ⟨s2, q4⟩
  · exact I.base.free b o q n (by exact List.not_mem_nil)
  · obtain ⟨o1, q1⟩ := I.base.there b o q (by exact List.not_mem_nil)
    by_cases hb : b ∈ frs (cxOf (Fly P w) P w K mg base N qual scope f cd A outer s₀ H₀ E₀).stack
    · obtain ⟨_, o2, q2, _⟩ := ff.mem hb
      exact ⟨o2, q2⟩
    · exact ⟨o1, stay b o1 q1 (old b o q) hb⟩
  · refine (I.hok b o q).stay (fun c u hc hu => ?_) (fun _ z => z) fun _ _ z => z
    have hc' : H c ≠ none := by
      rcases hc with z | z
      · rw [z, q]; exact Option.some_ne_none _
      · rw [z]; exact Option.some_ne_none _
    exact stay c u hu (fun z => hc' (ha c z).2) fun z => hc' (hfr c z)
theorem leave_first (I : Inv (cxOf (Fly P w) P w K mg base N qual scope f cd A outer s₀ H₀ E₀) pins σ H s) {h' : Heap} {e : Addr} {cls : Value} {vs : List Value} (hx : Heap.MadeExcOf s.heap h' e cls vs) (hE : E₀ cls none H) :
    (cxOf (Fly P w) P w K mg base N qual scope f cd A outer s₀ H₀ E₀).xe (.ref e) { s with heap := h' } := by
  have J : Inv (cxOf (Fly P w) P w K mg base N qual scope f cd A outer s₀ H₀ E₀) pins σ H { s with heap := h' } := I.kept (t' := s.toks) hx.keeps
  obtain ⟨t, he, _, _⟩ := hx.there
  have hf : (envOfC qual scope s₀.heap.objs.size f cd).frame = some s₀.heap.objs.size := rfl
  refine wpAny_leaving_firstW (base := hideAll h' ([e] ++ frs (cxOf (Fly P w) P w K mg base N qual scope f cd A outer s₀ H₀ E₀).stack)) J.ok.frames (funFrames_hide J.stack fun env hm b hb => List.mem_append_right _ (List.mem_filterMap.mpr ⟨env, hm, hb⟩)) hf he (fun b o q => of_hideAll _ q)
    (hideAll_none _ (by simp)) rfl rfl rfl fun h'' L => ?_
  exact fly_after (as := [e]) J (fun b hb => by rw [List.mem_singleton.mp hb]; exact ⟨none_back I.base hx.new, I.hok.none_of hx.new⟩) (by simp) L hE
theorem leave_next : Passes (Fly P w) (cxOf (Fly P w) P w K mg base N qual scope f cd A outer s₀ H₀ E₀) E₀ := by
  intro pins σ H s e s' I hq
  obtain ⟨a, cls, H', rfl, ho, hb, u, hok, ⟨f1, f2, a0, oe, vs, T, oT, ts, t1, t2, t3, t4, t5, t5', t6, t7, t8, t9⟩, hE'⟩ := hq
  have J : Inv (cxOf (Fly P w) P w K mg base N qual scope f cd A outer s₀ H₀ E₀) pins σ H' s' := I.call' (ch := []) ho u hok hb (fun b z => nomatch z)
  have hf : (envOfC qual scope s₀.heap.objs.size f cd).frame = some s₀.heap.objs.size := rfl
  have back : ∀ b, s.heap.get? b = none → s₀.heap.get? b = none := fun b q => none_back I.base q
  refine wpAny_leaving_nextW (base := hideAll s'.heap ([a, T] ++ frs (cxOf (Fly P w) P w K mg base N qual scope f cd A outer s₀ H₀ E₀).stack)) J.ok.frames (funFrames_hide J.stack fun env hm b hb => List.mem_append_right _ (List.mem_filterMap.mpr ⟨env, hm, hb⟩)) hf
    ⟨oe, vs, T, oT, ts, t1, t2, t3, t4, hideAll_none _ (by simp), t6, t7, t8, t9⟩ (fun b o q => of_hideAll _ q) (hideAll_none _ (by simp)) fun h'' L => ?_
  refine fly_after (as := [a, T]) J (fun b hb => ?_) (by simp) L hE'
  rcases List.mem_cons.mp hb with z | z
  · rw [z]; exact ⟨back a f1, f2⟩
  · rw [List.mem_singleton.mp z]; exact ⟨back T t5, t5'⟩
end
def Thr (X : Cx) (E : XK) : Prop := ∀ (pins : List (Addr × Obj)) (σ : St) (H : Hp) (s : Shared) (h' : Heap) (e : Addr) (cls : Value) (vs : List Value), Inv X pins σ H s → Heap.MadeExcOf s.heap h' e cls vs → E cls none H → X.xe (.ref e) { s with heap := h' }
theorem thr_fly {P : Program} {w : World} {K : PySem.W.Frag} {mg : Str → Option Value} {base : Heap} {N : List Str} {qual : Str} {scope : Scope} {f : Addr} {cd : Value} {A : Around} {outer : List Env} {s₀ : Shared} {H₀ : Hp} {E₀ : XK} :
    Thr (cxOf (Fly P w) P w K mg base N qual scope f cd A outer s₀ H₀ E₀) E₀ := fun _ _ _ _ _ _ _ _ I hx hE => leave_first I hx hE
abbrev bmV : List Value := [.type "ValueError", .type "Exception", .type "BaseException", .type "object"]
structure ExcC (K : PySem.W.Frag) (mg : Str → Option Value) (x : Str) (C : Addr) : Prop where
  g : mg x = some (.ref C)
  q : excIn K C bmV "ValueError.__new__" = true
theorem ExcC.own {K : PySem.W.Frag} {mg : Str → Option Value} {x : Str} {C : Addr} {h₀ : Heap} (c : ExcC K mg x C) (X : K.In h₀) : OwnCls x C bmV "ValueError.__new__" mg h₀ := by
  refine ⟨c.g, ?_⟩
  have q := c.q
  unfold excIn at q
  split at q
  · rename_i dd cd sl ho
    split at q
    · rename_i C' bm k0 k1 k2 k3 n k5 hm hs
      simp only [Bool.and_eq_true, beq_iff_eq, Bool.not_eq_true'] at q
      obtain ⟨⟨⟨⟨⟨rfl, rfl⟩, hdel⟩, ht⟩, hok⟩, hni⟩ := q
      obtain ⟨nm, bs, mro, ns, qn, hd, sn, sub, ab, col, del⟩ := cd
      dsimp only at hm hdel hok hni
      subst hm hdel
      have hsl : sl = #[k0, k1, k2, k3, some (.builtin "ValueError.__new__"), k5] := by
        obtain ⟨l⟩ := sl
        simp only at hs
        rw [hs]
      subst hsl
      exact ⟨bm, ns, nm, qn, bs, hd, sn, sub, ab, col, dd, k0, k1, k2, k3, k5, _, X _ _ ho, .of_isNs (isNs_of_in X hok), nsMap_none_of_in X hok hni, tail_of_in X ht⟩
    · cases q
  · cases q
def tRaise (v : Value) (E : XK) (t : TA) : TS := fun _ σ H => t σ H fun vs H1 => vs.length ≤ sizeLine ∧ E v none H1
section
variable {X : Cx} {E : XK} {x : Str} {C : Addr} {np cpos pos : Pos} {e : Expr} {es : List Expr} {t : TA}
theorem ps_raise (hT : Thr X E) (hc : X.calm = true) (c : ExcC X.K X.mg x C) (hg : Gl X x) (ha : PA X (e :: es) t) (hdb : (x == ("__debug__" : Str)) = false := by decide)
    (he : starEach (e :: es) X.env = (false, eval e X.env) :: starEach es X.env := by rfl) (hpl : (backTo cpos (starEach es X.env)).any (·.1) = false := by rfl) :
    PS X (.Raise (some (.Call (.Name x np) (e :: es) [] cpos)) none pos) (tRaise (.ref C) E t) := by
  intro pins s σ H D I h
  obtain ⟨tl, N, nm, q, bs, hdct, sn, sub, ab, col, dd, k0, k1, k2, k3, k5, mN, hC, hN, hni, T⟩ := (c.own I.ok.mod.kin).obj
  refine wpAny_Raise_call_subT (C := C) (nm := nm) (q := q) (N := N) (bs := bs) (bm := tl) (hdct := hdct) (sn := sn) (sub := sub) (ab := ab) (col := col) (dd := dd) (k0 := k0) (k1 := k1) (k2 := k2) (k3 := k3) (k5 := k5)
    PySem.F.excBase_ValueError (mN := mN) (T.hasType PySem.F.excBase_ValueError.hasBase) (I.ok.hd hc) (by rw [he]; show (false || (backTo cpos (starEach es X.env)).any (·.1)) = false; rw [hpl]; rfl) hni (ld_glob I hg c.g ⟨rfl, ?_⟩ hdb)
  have h := ha cpos pins s σ H _ I h
  rw [he] at h ⊢
  exact Calls.evalArgs_plain (wpAny_mono h (fun us s₂ ⟨vs, H1, I1, r, hl, hE⟩ => ⟨rfl, by rw [← r.length]; exact hl, I1.bk _ _ hC, hN.keeps I1.bk, T.keeps I1.bk, fun h' e' hm => hT pins σ H1 s₂ h' e' _ _ I1 hm hE⟩) fun _ _ y => y)
end
end L2
namespace L2
open PySem PySem.Spec PyProof.Rows PySem.W
def TxOk (x : Str) : Prop := x.length ≤ 1000 ∧ ∀ c ∈ x.cps.toList, c < 16 ^ 8
section
variable {X : Cx} {e : Expr} {es : List Expr} {R R' : St → Prop} {pos : Pos}
def PX (X : Cx) (e : Expr) (R : St → Prop) : Prop := ∀ (pins : List (Addr × Obj)) (s : Shared) (σ : St) (H : Hp) (Q : Value → Shared → Prop), Inv X pins σ H s → R σ → (∀ x t s', x.length ≤ 20000 → Inv X pins σ H s' → Q (.str x t) s') → wpAny (model X.prog X.w) X.A (eval e X.env) Q X.xe s
def PXs (X : Cx) (es : List Expr) (R : St → Prop) : Prop := ∀ (pins : List (Addr × Obj)) (s : Shared) (σ : St) (H : Hp) (Q : Value → Shared → Prop) (out : Str) (k : Nat), Inv X pins σ H s → R σ → out.length ≤ 20000 * k → k + es.length ≤ 100 → (∀ x t s', x.length ≤ 2000000 → Inv X pins σ H s' → Q (.str x t) s') →
  wpAny (model X.prog X.w) X.A (joinParts out (evalEach es X.env)) Q X.xe s
theorem px_const {x : Str} {j pos} (h : x.length ≤ 20000 := by decide +kernel) : PX X (.Constant (.str x) j pos) (fun _ => True) := by
  intro pins s σ H Q I _ hq
  refine thn (pe_str (X := X) pins s σ H (fun v H' => v = .str x ∧ H' = H) I ⟨rfl, rfl⟩) fun u s' ⟨v, H', I', r, e1, e2⟩ => ?_
  subst e1 e2
  obtain ⟨t, rfl⟩ := r
  exact hq x t s' h I'
theorem px_fmtS {te : TE} (he : PE X e te) : PX X (.FormattedValue e (-1) none pos) (fun σ => ∀ H, te σ H fun v H' => H' = H ∧ ∃ x, v = .str x ∧ TxOk x) := by
  intro pins s σ H Q I hR hq
  refine FormattedValue_plain (thn (he pins s σ H _ I (hR H)) fun u s1 ⟨v, H', I', r, e1, x, e2, hx⟩ => ?_)
  subst e1 e2
  obtain ⟨t, rfl⟩ := r
  have hl : x.length ≤ 1000 := hx.1
  exact formatField_str (fun t' tk => hq x t' _ (by omega) (I'.tok tk)) (by unfold sizeLine; omega)
theorem px_fmtI {te : TE} {a : Int} (he : PE X e te) (h : ∀ σ H Q, Q (.int a) H → te σ H Q) (hd : a.natAbs.log2 < 1920 := by decide) (hl : (toString a : Str).length ≤ 20000 := by decide +kernel) : PX X (.FormattedValue e (-1) none pos) (fun _ => True) := by
  intro pins s σ H Q I hR hq
  refine FormattedValue_plain (thn (he pins s σ H (fun v H' => H' = H ∧ v = .int a) I (h _ _ _ ⟨rfl, rfl⟩)) fun u s1 ⟨v, H', I', r, e1, e2⟩ => ?_)
  subst e1 e2
  obtain ⟨t, rfl⟩ := r
  exact wpAny_formatField_int hd (hq _ _ _ hl (I'.tok _))
theorem px_fmtR {te : TE} (he : PE X e te) : PX X (.FormattedValue e 114 none pos) (fun σ => ∀ H, te σ H fun v H' => H' = H ∧ ∃ x, v = .str x ∧ TxOk x) := by
  intro pins s σ H Q I hR hq
  refine wpAny_FormattedValue_repr (thn (he pins s σ H _ I (hR H)) fun u s1 ⟨v, H', I', r, e1, x, e2, hx⟩ => ?_)
  subst e1 e2
  obtain ⟨t, rfl⟩ := r
  have hr := PySem.StrLaws.reprText_len x hx.2
  have hl : x.length ≤ 1000 := hx.1
  refine wpAny_pyReprObj_gives (typeIs_str _ _ _) PyProof.Rows.slot_str_repr PyProof.Rows.entry_str_repr (PyProof.Rows.args_str_repr _) (gives_str_repr x t) ?_ rfl (by unfold sizeLine; omega)
  exact formatField_str (fun t' tk => hq _ t' _ (by omega) (I'.tok tk)) (by unfold sizeLine; omega)
theorem pxs_nil : PXs X [] (fun _ => True) := by
  intro pins s σ H Q out k I _ ho hk hq
  exact joinParts_nil (hq _ _ _ (by simp at hk; omega) (I.tok _)) (by simp at hk; unfold sizeLine; omega)
theorem pxs_cons (h : PX X e R) (hs : PXs X es R') (he : evalEach (e :: es) X.env = eval e X.env :: evalEach es X.env := by rfl) : PXs X (e :: es) (fun σ => R σ ∧ R' σ) := by
  intro pins s σ H Q out k I hR ho hk hq
  rw [List.length_cons] at hk
  rw [he]
  refine joinParts_cons (h pins s σ H _ I hR.1 fun x t s' hx I' => ?_)
  have hl : (out ++ x).length = out.length + x.length := strLen_append ..
  refine ⟨by rw [hl]; unfold sizeLine; omega, ?_⟩
  exact hs pins s' σ H Q (out ++ x) (k + 1) I' hR.2 (by rw [hl]; omega) (by omega) hq
theorem pe_join {e' : Expr} (h : PXs X (e :: e' :: es) R) (hl : (e :: e' :: es).length ≤ 100 := by simp) : PE X (.JoinedStr (e :: e' :: es) pos) (fun σ H Q => R σ ∧ ∀ x : Str, x.length ≤ 2000000 → Q (.str x) H) := by
  intro pins s σ H Q I ⟨hR, hq⟩
  exact JoinedStr_many (h pins s σ H _ Str.empty 0 I hR (by decide) (by omega) fun x t s' hx I' => ⟨.str x, H, I', ⟨t, rfl⟩, hq x hx⟩)
end
end L2
namespace L2
open PySem PySem.Spec PyProof.Rows PySem.W
section
variable {X : Cx} {pins : List (Addr × Obj)} {σ : St} {H H' : Hp} {s : Shared} {h' : Heap}
structure Off (X : Cx) (pins : List (Addr × Obj)) (b : Addr) : Prop where
  s0 : X.s₀.heap.get? b = none
  loc : b ≠ X.env.locals
  cell : ∀ x c, X.env.cells.lookup x = some c → c ≠ b
  pin : ∀ p ∈ X.pn ++ pins, p.1 ≠ b
theorem Off.of {b : Addr} (I : Inv X pins σ H s) (he : X.ex = []) (e : s.heap.get? b = none) : Off X pins b := by
  refine ⟨none_back (he ▸ I.base) e, ?_, ?_, ?_⟩
  · rintro rfl
    obtain ⟨m, ⟨o, _, _, ho, _⟩, _⟩ := I.loc
    rw [e] at ho; cases ho
  · rintro x c hc rfl
    obtain ⟨v, o, ho, _⟩ := I.cell x c hc
    rw [e] at ho; cases ho
  · rintro p hp rfl
    have := (I.pin p hp).1
    rw [e] at this; cases this
theorem Inv.stepO {ch : List Addr} (I : Inv X pins σ H s) (hch : ∀ b ∈ ch, Off X pins b)
    (keep : ∀ b o, b ≠ X.env.locals → b ∉ X.fs → b ∉ ch → s.heap.get? b = some o → H b = none → h'.get? b = some o)
    (slot : ∀ b o, b ≠ X.env.locals → b ∈ X.fs → b ∉ ch → s.heap.get? b = some o → H b = none → ∃ sl, h'.get? b = some { o with slots := sl })
    (there : ∀ b o, b ∉ ch → s.heap.get? b = some o → ∃ o', h'.get? b = some o')
    (ns : ∀ m, s.heap.Ns X.env.locals m → h'.Ns X.env.locals m) (hok : HOk X.prog X.w H h') : Inv X pins σ H { s with heap := h' } := by
  have neL : ∀ b o, X.s₀.heap.get? b = some o → b ≠ X.env.locals := fun b o e => Nat.ne_of_lt (Nat.lt_of_lt_of_le (Heap.lt_size e) I.ok.above)
  have neC : ∀ b o, X.s₀.heap.get? b = some o → b ∉ ch := fun b o e hb => by rw [(hch b hb).s0] at e; cases e
  have cellK : ∀ x c, X.env.cells.lookup x = some c → ∀ v, s.heap.IsCell c v → h'.IsCell c v := fun x c e v ⟨o, ho, hd⟩ => by
    have nch : c ∉ ch := fun z => (hch c z).cell x c e rfl
    by_cases hc : c ∈ X.fs
    · obtain ⟨sl, q⟩ := slot c o (I.cne x c e) hc nch ho (I.freeC x c e)
      exact ⟨_, q, hd⟩
    · exact ⟨o, keep c o (I.cne x c e) hc nch ho (I.freeC x c e), hd⟩
  refine ⟨I.ok, I.os, I.bare, ⟨fun b o e n hb hx => ?_, fun b o e n hb hx => ?_, I.base.free, fun b o e hx => ?_, I.base.tups, I.base.frzs, I.base.tbls⟩, ?_, fun x c e => ?_, I.free, I.freeC, fun p hp => ?_, hok, I.len⟩
  · exact keep b o (neL b o e) hb (neC b o e) (I.base.keep b o e n hb hx) (I.base.free b o e n hx)
  · obtain ⟨sl, e1⟩ := I.base.slot b o e n hb hx
    obtain ⟨sl', e2⟩ := slot b _ (neL b o e) hb (neC b o e) e1 (I.base.free b o e n hx)
    exact ⟨sl', e2⟩
  · obtain ⟨o', e1⟩ := I.base.there b o e hx
    exact there b o' (neC b o e) e1
  · obtain ⟨m, hn, hl⟩ := I.loc
    refine ⟨m, ns m hn, fun i x v e1 e2 e3 => ?_⟩
    obtain ⟨u, r, l⟩ := hl i x v e1 e2 e3
    refine ⟨u, r, ?_⟩
    rcases l with l | ⟨k, c, e, z⟩
    · exact .inl l
    · exact .inr ⟨k, c, e, cellK x c e _ z⟩
  · obtain ⟨v, z⟩ := I.cell x c e
    exact ⟨v, cellK x c e v z⟩
  · obtain ⟨e, n, ne, nf, d⟩ := I.pin p hp
    have nch : p.1 ∉ ch := fun z => (hch p.1 z).pin p hp rfl
    exact ⟨keep p.1 p.2 ne nf nch e n, n, ne, nf, d⟩
theorem Inv.fsStk (I : Inv X pins σ H s) : ∀ b ∈ X.fs, b ∈ frs X.stack := fun b hb => by
  rcases I.ok.stk with e | ⟨e, _⟩
  · rw [e]; exact hb
  · rw [e]
    unfold frs
    rw [List.filterMap_cons]
    split
    · exact hb
    · exact List.mem_cons_of_mem _ hb
theorem Inv.flown (I : Inv X pins σ H s) {as : List Addr} (ha : ∀ b ∈ as, Off X pins b ∧ H b = none) (st : (hideAll s.heap (as ++ frs X.stack)).StaysIn h') (up : s.heap.UpToSlots h') : Inv X pins σ H { s with heap := h' } := by
  have stay : ∀ b o, s.heap.get? b = some o → b ∉ as → b ∉ frs X.stack → h'.get? b = some o := fun b o q n1 n2 => st b o (hideAll_get _ q fun z => (List.mem_append.mp z).elim n1 n2)
  have fr : ∀ b o, s.heap.get? b = some o → b ∈ frs X.stack → ∃ sl, h'.get? b = some { o with slots := sl } := fun b o q hb => by
    obtain ⟨_, o2, q2, q3⟩ := I.stack.mem hb
    rw [q] at q2
    cases q2
    exact up b o q q3
  refine I.stepO (ch := as) (fun b hb => (ha b hb).1) (fun b o n1 n2 n3 q _ => ?_) (fun b o _ hb _ q _ => fr b o q (I.fsStk b hb)) (fun b o n q => ?_) (fun m hm => up.ns hm) (fun b o q => ?_)
  · exact stay b o q n3 fun z => (List.mem_cons.mp (I.stkSub b z)).elim n1 n2
  · by_cases hb : b ∈ frs X.stack
    · obtain ⟨sl, z⟩ := fr b o q hb
      exact ⟨_, z⟩
    · exact ⟨o, stay b o q n hb⟩
  · refine (I.hok b o q).stay (fun c u hc hu => ?_) (fun _ z => z) fun _ _ z => z
    have hc' : H c ≠ none := by
      rcases hc with z | z
      · rw [z, q]; exact Option.some_ne_none _
      · rw [z]; exact Option.some_ne_none _
    exact stay c u hu (fun z => hc' (ha c z).2) fun z => hc' (I.stkFree c z)
theorem Inv.track {a : Addr} {o : HO} (I : Inv X pins σ H s) (ha : Off X pins a) (hn : H a = none) (hfs : a ∉ X.fs) (ok : ObjOk X.prog X.w (upd H a o) s.heap a o) : Inv X pins σ (upd H a o) s := by
  have ne : ∀ b, b ≠ a → upd H a o b = H b := fun b hb => upd_ne hb
  refine ⟨I.ok, I.os, I.bare, ⟨I.base.keep, I.base.slot, fun b u q n hx => ?_, I.base.there, fun b xs q => ?_, fun b u xs q => ?_, fun b ps q => ?_⟩, I.loc, I.cell, ?_, fun x c e => ?_, fun p hp => ?_, fun b u q => ?_, I.len⟩
  · rw [ne b (by rintro rfl; rw [ha.s0] at q; cases q)]; exact I.base.free b u q n hx
  · have := I.base.tups b xs q
    rw [ne b (ne_of_none this hn)]; exact this
  · have := I.base.frzs b u xs q
    rw [ne b (ne_of_none this hn)]; exact this
  · obtain ⟨more, z⟩ := I.base.tbls b ps q
    exact ⟨more, by rw [ne b (ne_of_none z hn)]; exact z⟩
  · rw [ne _ (Ne.symm ha.loc)]; exact I.free
  · rw [ne _ (ha.cell x c e)]; exact I.freeC x c e
  · obtain ⟨e1, n, e3, e4, e5⟩ := I.pin p hp
    exact ⟨e1, by rw [ne _ (ha.pin p hp)]; exact n, e3, e4, e5⟩
  · by_cases hb : b = a
    · subst hb
      rw [upd_same] at q
      cases q
      exact ok
    · rw [ne b hb] at q
      exact (I.hok b u q).stay (fun _ _ _ z => z) (fun c z => by rw [ne c (ne_of_none z hn)]; exact z) fun c xs z => by rw [ne c (ne_of_none z hn)]; exact z
theorem goes_ok {M : Model} {A : Around} {E : Value → Shared → Prop} {i : Nat} {x : Str} {pos : Pos} {Q : Unit → Shared → Prop} (I : Inv X pins σ H s) (hN : X.N.Nodup) (hi : X.N[i]? = some x) (hk : X.env.scope.names.lookup x = some .local)
    (h : ∀ s', Inv X pins (σ.set i none) H s' → Q () s') : wpAny M A (do bindName X.env x .none; unbindBehindTheSuite X.env x pos) Q E s := by
  obtain ⟨m, hn, hl⟩ := id I.loc
  have hcls : (X.env.scope.kind == .class || (X.env.scope.kind == .module && X.env.locals != X.env.globals)) = false := by rw [I.ok.kind]; rfl
  have hiσ : i < σ.length := by rw [I.len]; exact (List.getElem?_eq_some_iff.mp hi).1
  have cne := I.cne
  obtain ⟨oL, _, _, hoL, _⟩ := id hn
  refine wpAny_nameGoes_keeps hk hn hcls fun h' v hn' hs => ?_
  have hok : HOk X.prog X.w H h' := fun b ob e => by
    refine (I.hok b ob e).stay (fun c w' hc q => (hs.2 c ?_).trans q) (fun _ q => q) fun _ _ q => q
    rintro rfl
    rcases hc with rfl | hc
    · rw [I.free] at e; cases e
    · rw [I.free] at hc; cases hc
  refine h { s with heap := h', toks := s.toks + 1 } ⟨I.ok, I.os, I.bare, ⟨fun b o e n hb hx => ?_, fun b o e n hb hx => ?_, I.base.free, fun b o e hx => ?_, I.base.tups, I.base.frzs, I.base.tbls⟩, ⟨_, hn', fun j y v' e1 e2 e3 => ?_⟩, fun y c e => ?_, I.free, I.freeC, fun p hp => ?_, hok, by simpa using I.len⟩
  · exact (hs.2 b (Nat.ne_of_lt (Nat.lt_of_lt_of_le (Heap.lt_size e) I.ok.above))).trans (I.base.keep b o e n hb hx)
  · obtain ⟨sl, e1⟩ := I.base.slot b o e n hb hx
    exact ⟨sl, (hs.2 b (Nat.ne_of_lt (Nat.lt_of_lt_of_le (Heap.lt_size e) I.ok.above))).trans e1⟩
  · obtain ⟨o', e1⟩ := I.base.there b o e hx
    exact ⟨o', (hs.2 b (Nat.ne_of_lt (Nat.lt_of_lt_of_le (Heap.lt_size e) I.ok.above))).trans e1⟩
  · by_cases hj : j = i
    · subst hj
      rw [List.getElem?_set_self hiσ] at e2
      cases e2
    · rw [List.getElem?_set_ne (Ne.symm hj)] at e2
      obtain ⟨u', r', q⟩ := hl j y v' e1 e2 e3
      refine ⟨u', r', ?_⟩
      rcases q with ⟨k, e⟩ | ⟨k, c, e, z⟩
      · refine .inl ⟨k, ?_⟩
        have : y ≠ x := fun e => hj (nodup_ix hN e1 (e ▸ hi))
        simp [this, e]
      · exact .inr ⟨k, c, e, z.sameBut hs (cne y c e)⟩
  · obtain ⟨w', z⟩ := I.cell y c e
    exact ⟨w', z.sameBut hs (cne y c e)⟩
  · obtain ⟨e, n, ne, nf, d⟩ := I.pin p hp
    exact ⟨(hs.2 p.1 ne).trans e, n, ne, nf, d⟩
def InFl (X : Cx) (pins : List (Addr × Obj)) (H : Hp) (a : Addr) (cls : Value) (h : Heap) : Prop :=
  (Off X pins a ∧ H a = none) ∧ ∃ a0 oe vs T oT ts, h.get? a = some oe ∧ (oe.cls = cls ∧ vs[0]? = some a0) ∧ oe.data = .fields vs ∧ vs[1]? = some (.ref T) ∧ (Off X pins T ∧ H T = none) ∧ T ≠ a ∧ h.get? T = some oT ∧ oT.data = .fields ts ∧ ts[3]? = some .none
def PEX (X : Cx) (e : Expr) (t : St → Hp → VK → XK → Prop) : Prop := ∀ (pins : List (Addr × Obj)) (s : Shared) (σ : St) (H : Hp) (Q : VK) (E : XK) (G : Value → Shared → Prop), Inv X pins σ H s → t σ H Q E →
  (∀ a cls H' s', Inv X pins σ H' s' → InFl X pins H' a cls s'.heap → E cls none H' → G (.ref a) s') → wpAny (model X.prog X.w) X.A (eval e X.env) (EP X pins σ Q) G s
theorem PA.any {es : List Expr} {t : TA} (h : PA X.nox es t) {pos : Pos} {Q : List V → Hp → Prop} {G : Value → Shared → Prop} (I : Inv X pins σ H s) (hw : t σ H Q) : wpAny (model X.prog X.w) X.A (spliced (backTo pos (starEach es X.env))) (AP X pins σ Q) G s :=
  wpAny_mono (h pos pins s σ H Q (I.wish _) hw) (fun _ _ ⟨vs, H', I', r, q⟩ => ⟨vs, H', I'.unwish, r, q⟩) fun _ _ z => False.elim z
theorem pex_call {k : Nat} {f : Addr} {fd : FuncData} {ps : List Str} {sp : Sp} {ds : List Value} {dvs : List V} {x : Str} {p pos : Pos} {e : Expr} {es : List Expr} {t : TA} (F : FnOk X.prog X.w X.K X.mg X.base (Fly X.prog X.w) k f fd ps sp) (hr : Room k X.A) (hex : X.ex = []) (hg : Gl X x) (hm : X.mg x = some (.ref f)) (hk : PySem.W.keepIn X.K (.ref f) = true)
    (hb : Binds X.K fd ps ds) (hd : Vals dvs ds) (ha : PA X.nox (e :: es) t) (hdb : (x == ("__debug__" : Str)) = false := by decide) (he : starEach (e :: es) X.env = (false, eval e X.env) :: starEach es X.env := by rfl) (hpl : (backTo pos (starEach es X.env)).any (·.1) = false := by rfl) :
    PEX X (.Call (.Name x p) (e :: es) [] pos) (fun σ H Q E => t σ H fun vs H1 => sp (vs ++ dvs) H1 Q E) := by
  intro pins s σ H Q E G I h hG
  refine wpAny_Call_Name_kw (ld_glob I hg hm ?_ hdb)
  refine PySem.W.callWith_K (h₀ := X.base) I.ok.mod.kin hk (thn (PA.any (pos := pos) ha I h) fun us s1 ⟨vs, H1, I1, r, q⟩ => ⟨I1.kIn, ?_⟩) he hpl
  have r2 : Vals (vs ++ dvs) (us ++ ds) := r.append hd
  have hl : (us ++ ds).length = ps.length := by rw [← r2.length]; exact F.len _ _ _ _ q
  refine wpAny_call (codeAny_mono (F.run X.A X.stack s1 H1 ⟨us, []⟩ (us ++ ds) (vs ++ dvs) Q E hr I1.env0 (hb s1 us I1.kIn hl) r2 q) fun r s' hq => ?_)
  cases r with
  | error e =>
    obtain ⟨a, cls, H', rfl, ho, hb', u, hok, ⟨f1, f2, a0, oe, vs, T, oT, ts, t1, t2, t3, t4, t5, t5', t6, t7, t8, t9⟩, hE⟩ := hq
    have J : Inv X pins σ H' s' := I1.call' (ch := []) ho u hok hb' (fun b z => nomatch z)
    exact hG a cls H' s' J ⟨⟨.of I1 hex f1, f2⟩, a0, oe, vs, T, oT, ts, t1, t2, t3, t4, ⟨.of I1 hex t5, t5'⟩, t6, t7, t8, t9⟩ hE
  | ok fl =>
    cases fl with
    | ret u => exact I1.after hq
    | next => exact False.elim hq
    | brk => exact False.elim hq
    | cont => exact False.elim hq
abbrev handX (X : Cx) (a : Addr) : Cx := { X with A := X.A.mark (some (.ref a)), calm := false, xe := fun _ _ => False }
theorem Inv.hand (I : Inv X pins σ H s) (a : Addr) : Inv (handX X a) pins σ H s :=
  ⟨⟨I.ok.mod, I.ok.kind, I.ok.glob, I.ok.blt, I.ok.above, I.ok.inj, I.ok.has, I.ok.cab, (fun z => by cases z), I.ok.frames, I.ok.stk, I.ok.exf, I.ok.bs, I.ok.bsz, I.ok.noex, I.ok.exfs, I.ok.funs, I.ok.frf⟩, I.os, I.bare, I.base, I.loc, I.cell, I.free, I.freeC, I.pin, I.hok, I.len⟩
theorem Inv.unhand {a : Addr} (ok : X.Ok) (I : Inv (handX X a) pins σ H s) : Inv X pins σ H s := ⟨ok, I.os, I.bare, I.base, I.loc, I.cell, I.free, I.freeC, I.pin, I.hok, I.len⟩
theorem excP_ok {P : Program} {w : World} {C a : Addr} {H : Hp} {h : Heap} {o : Obj} (e : h.get? a = some o) (hc : o.cls = .ref C) : ObjOk P w H h a (.ext (excP C a)) :=
  ⟨⟨o, e, hc⟩, ⟨o, e⟩, fun h1 h2 ⟨o1, q1, q2⟩ k => ⟨o1, k o1 q1, q2⟩⟩
theorem InFl.fly {a : Addr} {cls : Value} (I : Inv X pins σ H s) (h : InFl X pins H a cls s.heap) : ∃ a0 T, (Off X pins T ∧ H T = none) ∧ Heap.FlyingW (hideAll s.heap ([a, T] ++ frs X.stack)) X.stack a cls a0 s.heap := by
  obtain ⟨_, a0, oe, vs, T, oT, ts, t1, t2, t3, t4, t5, t6, t7, t8, t9⟩ := h
  exact ⟨a0, T, t5, fun b o q => of_hideAll _ q, hideAll_none _ (by simp), funFrames_hide I.stack fun env hm b hb => List.mem_append_right _ (List.mem_filterMap.mpr ⟨env, hm, hb⟩), oe, vs, T, oT, ts, t1, t2, t3, t4, hideAll_none _ (by simp), t6, t7, t8, t9⟩
theorem InFl.flown {a T : Addr} {cls a0 : Value} (I : Inv X pins σ H s) (ha : Off X pins a ∧ H a = none) (hT : Off X pins T ∧ H T = none) (hf : Heap.FlyingW (hideAll s.heap ([a, T] ++ frs X.stack)) X.stack a cls a0 h') (up : s.heap.UpToSlots h') (hex : X.ex = []) :
    Inv X pins σ H { s with heap := h' } ∧ InFl X pins H a cls h' := by
  have J : Inv X pins σ H { s with heap := h' } := I.flown (as := [a, T]) (fun b hb => by
    rcases List.mem_cons.mp hb with z | z
    · rw [z]; exact ha
    · rw [List.mem_singleton.mp z]; exact hT) hf.1 up
  refine ⟨J, ha, ?_⟩
  obtain ⟨_, _, ff, oe, vs, T', oT, ts, t1, t2, t3, t4, t5, t6, t7, t8, t9⟩ := hf
  refine ⟨a0, oe, vs, T', oT, ts, t1, t2, t3, t4, ?_, t6, t7, t8, t9⟩
  have hTf : T' ∉ frs X.stack := fun z => by
    obtain ⟨_, o, ho, hd⟩ := ff.mem z
    rw [t7] at ho
    cases ho
    exact hd _ t8
  by_cases hz : T' ∈ [a, T]
  · rcases List.mem_cons.mp hz with z | z
    · rw [z]; exact ha
    · rw [List.mem_singleton.mp z]; exact hT
  · have q : s.heap.get? T' = none := by
      cases q : s.heap.get? T' with
      | none => rfl
      | some o => rw [hideAll_get _ q (fun z => (List.mem_append.mp z).elim hz hTf)] at t5; cases t5
    exact ⟨.of I hex q, I.hok.none_of q⟩
theorem InFl.ty {M : Model} {a : Addr} {cls : Value} {h : Heap} (x : InFl X pins H a cls h) : Looks M h (typeOf (.ref a)) cls := by
  obtain ⟨_, a0, oe, vs, T, oT, ts, t1, t2, _⟩ := x
  obtain ⟨rfl, _⟩ := t2
  exact (Looks.ld t1).andThen .now
theorem hb_miss {a D : Addr} {cls : Value} {x : Str} {np pos : Pos} {name : Option Str} {b₀ : Stmt} {suite : List Stmt} {rest : List ExceptHandler} {Q : Flow → Shared → Prop} (I : Inv X pins σ H s) (h : InFl X pins H a cls s.heap) (hg : Gl X x) (hm : X.mg x = some (.ref D)) (hx : exmOne X.K cls (.ref D) = some false)
    (k : wpAny (model X.prog X.w) X.A (handleBy (.ref a) X.env rest) Q X.xe s) (hdb : (x == ("__debug__" : Str)) = false := by decide) :
    wpAny (model X.prog X.w) X.A (handleBy (.ref a) X.env (.ExceptHandler (some (.Name x np)) name (b₀ :: suite) pos :: rest)) Q X.xe s := by
  refine wpAny_handleBy_cons (codeAny_handlers_test (ld_glob (X := handX X a) (I.hand a) hg hm ?_ hdb)) (by intro q; cases q)
  exact exm_one (I.hand a).kIn h.ty hx _ _ _ s (fun _ _ e => e) k
theorem hb_hit {a C D : Addr} {x : Str} {np pos : Pos} {b₀ : Stmt} {suite : List Stmt} {rest : List ExceptHandler} {B : Ends} {t : TS} (I : Inv X pins σ H s) (h : InFl X pins H a (.ref C) s.heap) (hex : X.ex = []) (hfs : a ∉ X.fs) (hg : Gl X x) (hm : X.mg x = some (.ref D)) (hx : exmOne X.K (.ref C) (.ref D) = some true)
    (hs : PSs (handX X a) (b₀ :: suite) t) (ht : t B σ (upd H a (.ext (excP C a)))) (hdb : (x == ("__debug__" : Str)) = false := by decide) :
    wpAny (model X.prog X.w) X.A (handleBy (.ref a) X.env (.ExceptHandler (some (.Name x np)) none (b₀ :: suite) pos :: rest)) (SP X pins B) X.xe s := by
  refine wpAny_handleBy_cons (codeAny_handlers_test (ld_glob (X := handX X a) (I.hand a) hg hm ?_ hdb)) (by intro q; cases q)
  refine exm_one (I.hand a).kIn h.ty hx _ _ _ s (fun _ _ e => e) (codeAny_handlers_suite ?_)
  obtain ⟨a0, T, hT, hf⟩ := h.fly I
  refine lands_againW hf fun h6 hf6 up => ?_
  obtain ⟨J, hJ⟩ := InFl.flown I h.1 hT hf6 up hex
  obtain ⟨oe, ws, hoe, hoec, _, _⟩ := hf6.first
  have J2 := J.track h.1.1 h.1.2 hfs (excP_ok hoe hoec)
  refine wpAny_mono (hs pins _ σ _ B (J2.hand a) ht) (fun f s4 q => ?_) fun _ _ z => z.elim
  cases f with
  | next => obtain ⟨σ', H', I', q⟩ := q; exact ⟨σ', H', I'.unhand I.ok, q⟩
  | brk => obtain ⟨σ', H', I', q⟩ := q; exact ⟨σ', H', I'.unhand I.ok, q⟩
  | cont => obtain ⟨σ', H', I', q⟩ := q; exact ⟨σ', H', I'.unhand I.ok, q⟩
  | ret u => obtain ⟨v, σ', H', I', r, q⟩ := q; exact ⟨v, σ', H', I'.unhand I.ok, r, q⟩
abbrev goesB (i : Nat) (B : Ends) : Ends := { nx := fun σ H => B.nx (σ.set i none) H, rt := B.rt, bk := fun σ H => B.bk (σ.set i none) H, ct := fun σ H => B.ct (σ.set i none) H }
theorem hb_hitB {a C D : Addr} {i : Nat} {n x : Str} {np pos : Pos} {b₀ : Stmt} {suite : List Stmt} {rest : List ExceptHandler} {B : Ends} {t : TS} (I : Inv X pins σ H s) (h : InFl X pins H a (.ref C) s.heap) (hex : X.ex = []) (hfs : a ∉ X.fs) (hg : Gl X x) (hm : X.mg x = some (.ref D)) (hx : exmOne X.K (.ref C) (.ref D) = some true)
    (hN : X.N.Nodup) (hi : X.N[i]? = some n) (hk : X.env.scope.names.lookup n = some .local) (hs : PSs (handX X a) (b₀ :: suite) t) (ht : t (goesB i B) (σ.set i (some (.ref a))) (upd H a (.ext (excP C a)))) (hdb : (x == ("__debug__" : Str)) = false := by decide) :
    wpAny (model X.prog X.w) X.A (handleBy (.ref a) X.env (.ExceptHandler (some (.Name x np)) (some n) (b₀ :: suite) pos :: rest)) (SP X pins B) X.xe s := by
  refine wpAny_handleBy_cons (codeAny_handlers_test (ld_glob (X := handX X a) (I.hand a) hg hm ?_ hdb)) (by intro q; cases q)
  refine exm_one (I.hand a).kIn h.ty hx _ _ _ s (fun _ _ e => e) (codeAny_handlers_suite_as ?_)
  obtain ⟨a0, T, hT, hf⟩ := h.fly I
  refine lands_againW hf fun h6 hf6 up => ?_
  obtain ⟨J, hJ⟩ := InFl.flown I h.1 hT hf6 up hex
  obtain ⟨oe, ws, hoe, hoec, _, _⟩ := hf6.first
  have J2 := J.track h.1.1 h.1.2 hfs (excP_ok hoe hoec)
  refine store_ok (X := handX X a) (v := .ref a) (J2.hand a) hN hi (.inl hk) rfl (fun s7 J7 => ?_) (.inr hk)
  refine wpAny_mono (hs pins _ _ _ (goesB i B) J7 ht) (fun f s4 q => ?_) fun _ _ z => z.elim
  cases f with
  | next => obtain ⟨σ', H', I', q⟩ := q; exact goes_ok (I'.unhand I.ok) hN hi hk fun s' I2 => ⟨_, H', I2, q⟩
  | brk => obtain ⟨σ', H', I', q⟩ := q; exact goes_ok (I'.unhand I.ok) hN hi hk fun s' I2 => ⟨_, H', I2, q⟩
  | cont => obtain ⟨σ', H', I', q⟩ := q; exact goes_ok (I'.unhand I.ok) hN hi hk fun s' I2 => ⟨_, H', I2, q⟩
  | ret u => obtain ⟨v, σ', H', I', r, q⟩ := q; exact goes_ok (I'.unhand I.ok) hN hi hk fun s' I2 => ⟨v, _, H', I2, r, q⟩
theorem to_handlers {a : Addr} {cls : Value} {hs : List ExceptHandler} {Q : Flow → Shared → Prop} (I : Inv X pins σ H s) (h : InFl X pins H a cls s.heap) (hex : X.ex = []) (hstk : X.stack = X.env :: X.outer) (hfr : X.env.frame = some X.env.locals)
    (k : ∀ s', Inv X pins σ H s' → InFl X pins H a cls s'.heap → wpAny (model X.prog X.w) X.A (handleBy (.ref a) X.env hs) Q X.xe s') :
    wpAny (model X.prog X.w) X.A (noteFrame (.ref a) X.env) (fun _ s₂ => wpAny (model X.prog X.w) X.A (setFlight (.ref a) none) (fun _ s₃ => wpAny (model X.prog X.w) X.A (handleBy (.ref a) X.env hs) Q X.xe s₃) X.xe s₂) X.xe s := by
  obtain ⟨a0, T, hT, hf⟩ := h.fly I
  rw [hstk] at hf
  refine wpAny_looks_onW (by rw [← hstk]; exact I.ok.frames) hfr hf fun h4 hh4 up4 => ?_
  refine wpAny_landsW hh4 fun h5 hf5 up5 => ?_
  rw [← hstk] at hf5
  obtain ⟨J, hJ⟩ := InFl.flown I h.1 hT hf5 (up4.trans up5) hex
  exact k _ J hJ
end
end L2
namespace L2
open PySem PySem.Spec PyProof.Rows PySem.W
section
variable {X : Cx} {pins : List (Addr × Obj)} {σ : St} {H H' : Hp} {s : Shared} {pos : Pos} {e : Expr} {es : List Expr}
theorem Off.nfs {a : Addr} (I : Inv X pins σ H s) (h : Off X pins a) : a ∉ X.fs := fun z => by
  obtain ⟨_, o, ho, _⟩ := I.ok.funs.mem z
  rw [h.s0] at ho; cases ho
abbrev TX := St → Hp → VK → XK → Prop
abbrev HDt := Value → Ends → St → Hp → Prop
def HD (X : Cx) (hs : List ExceptHandler) (hd : HDt) : Prop := ∀ (pins : List (Addr × Obj)) (s : Shared) (σ : St) (H : Hp) (B : Ends) (a : Addr) (cls : Value), Inv X pins σ H s → InFl X pins H a cls s.heap → hd cls B σ H → wpAny (model X.prog X.w) X.A (handleBy (.ref a) X.env hs) (SP X pins B) X.xe s
theorem hd_nil : HD X [] (fun _ _ _ _ => False) := fun _ _ _ _ _ _ _ _ _ h => h.elim
theorem hd_cons0 {D : Addr} {x : Str} {np hpos : Pos} {b₀ : Stmt} {suite : List Stmt} {rest : List ExceptHandler} {t : Addr → TS} {hd : HDt} (hex : X.ex = []) (hg : Gl X x) (hm : X.mg x = some (.ref D)) (hs : ∀ a, PSs (handX X a) (b₀ :: suite) (t a)) (hr : HD X rest hd) (hdb : (x == ("__debug__" : Str)) = false := by decide) :
    HD X (.ExceptHandler (some (.Name x np)) none (b₀ :: suite) hpos :: rest) (fun cls B σ H => (∃ C, cls = .ref C ∧ exmOne X.K cls (.ref D) = some true ∧ ∀ a, H a = none → t a B σ (upd H a (.ext (excP C a)))) ∨ (exmOne X.K cls (.ref D) = some false ∧ hd cls B σ H)) := by
  intro pins s σ H B a cls I hf h
  rcases h with ⟨C, rfl, hx, ht⟩ | ⟨hx, h⟩
  · exact hb_hit I hf hex (hf.1.1.nfs I) hg hm hx (hs a) (ht a hf.1.2) hdb
  · exact hb_miss I hf hg hm hx (hr pins s σ H B a cls I hf h) hdb
theorem hd_consB {D : Addr} {i : Nat} {n x : Str} {np hpos : Pos} {b₀ : Stmt} {suite : List Stmt} {rest : List ExceptHandler} {t : Addr → TS} {hd : HDt} (hex : X.ex = []) (hN : X.N.Nodup) (hi : X.N[i]? = some n) (hk : X.env.scope.names.lookup n = some .local) (hg : Gl X x) (hm : X.mg x = some (.ref D)) (hs : ∀ a, PSs (handX X a) (b₀ :: suite) (t a)) (hr : HD X rest hd)
    (hdb : (x == ("__debug__" : Str)) = false := by decide) :
    HD X (.ExceptHandler (some (.Name x np)) (some n) (b₀ :: suite) hpos :: rest) (fun cls B σ H => (∃ C, cls = .ref C ∧ exmOne X.K cls (.ref D) = some true ∧ ∀ a, H a = none → t a (goesB i B) (σ.set i (some (.ref a))) (upd H a (.ext (excP C a)))) ∨ (exmOne X.K cls (.ref D) = some false ∧ hd cls B σ H)) := by
  intro pins s σ H B a cls I hf h
  rcases h with ⟨C, rfl, hx, ht⟩ | ⟨hx, h⟩
  · exact hb_hitB I hf hex (hf.1.1.nfs I) hg hm hx hN hi hk (hs a) (ht a hf.1.2) hdb
  · exact hb_miss I hf hg hm hx (hr pins s σ H B a cls I hf h) hdb
theorem ps_tryE {t : TX} {tr : TS} {hd : HDt} {rest : List Stmt} {p1 : Pos} {h₀ : ExceptHandler} {hs : List ExceptHandler} (hex : X.ex = []) (hstk : X.stack = X.env :: X.outer) (hfr : X.env.frame = some X.env.locals) (he : PEX X e t) (hr : PSs X.nox rest tr) (hh : HD X (h₀ :: hs) hd)
    (hsw : swapsWith e none p1.line X.env = pure false := by rfl) : PS X (.Try (.Expr e p1 :: rest) (h₀ :: hs) [] [] pos) (fun B σ H => t σ H (fun _ H1 => tr B σ H1) (fun cls _ H' => hd cls B σ H')) := by
  intro pins s σ H B I h
  refine wpAny_Try_except (wpAny_execs_cons (wpAny_Expr_any (thn (he pins s σ H _ _ _ I h fun a cls H' s' J hfl hE => ?_) fun v s1 ⟨x, H1, I1, r1, q1⟩ => ?_) I.quiet hsw))
  · exact to_handlers J hfl hex hstk hfr fun s'' J'' hfl'' => hh pins s'' σ H' B a cls J'' hfl'' hE
  · refine wpAny_mono (hr pins s1 σ H1 B (I1.wish _) q1) (fun f s2 q => ?_) fun _ _ z => z.elim
    have q := q.unwish
    cases f with
    | next => exact wpAny_execs_nil q
    | brk => exact q
    | cont => exact q
    | ret u => exact q
end
end L2
namespace L2
open PySem PySem.Spec PyProof.Rows PySem.W PySem.Builtin PySem.Builtin.ObjectAttr PySem.Builtin.Getset_descriptor
def excK (K : Frag) (C : Addr) : Bool := (clsIn K C).isSome && findIn K (.ref C) "__getattribute__" == some (some (.builtin "BaseException.__getattribute__")) && findIn K (.ref C) "__getattr__" == some none && findIn K (.ref C) "__class__" == some (some (.builtin "object.__class__"))
  && specialIn K (.builtin "object.__class__") "__get__" == some (some (.builtin "getset_descriptor.__get__")) && mroIn K C (.type "object") == some true && mroIn K C (.type "BaseException") == some true
structure ExcK (K : Frag) (C : Addr) : Prop where
  cl : (clsIn K C).isSome = true
  ga : findIn K (.ref C) "__getattribute__" = some (some (.builtin "BaseException.__getattribute__"))
  gt : findIn K (.ref C) "__getattr__" = some none
  ca : findIn K (.ref C) "__class__" = some (some (.builtin "object.__class__"))
  gs : specialIn K (.builtin "object.__class__") "__get__" = some (some (.builtin "getset_descriptor.__get__"))
  ob : mroIn K C (.type "object") = some true
  be : mroIn K C (.type "BaseException") = some true
theorem ExcK.of {K : Frag} {C : Addr} (h : excK K C = true) : ExcK K C := by
  unfold excK at h
  simp only [Bool.and_eq_true, beq_iff_eq] at h
  obtain ⟨⟨⟨⟨⟨⟨h1, h2⟩, h3⟩, h4⟩, h5⟩, h6⟩, h7⟩ := h
  exact ⟨h1, h2, h3, h4, h5, h6, h7⟩
section
variable {prog : Program} {w : World} {A : Around} {E : Value → Shared → Prop} {h : Heap} {g : Array GenState} {d : Drawn} {t : Nat} {os : OsState} {K : Frag} {a C : Addr}
theorem excP.ty {M : Model} (p : excP C a h) : Looks M h (typeOf (.ref a)) (.ref C) := by
  obtain ⟨o, h1, h2⟩ := p
  exact h2 ▸ (Looks.ld h1).andThen .now
theorem exc_get {tp : Value} {R : Result → Shared → Prop} (X : K.In h) (p : excP C a h) (k : ExcK K C) (hR : R (.ok (.ret (.ref C))) ⟨h, g, d, t, os⟩) :
    codeAny (model prog w) A (.call (.builtin "getset_descriptor.__get__") ⟨[.builtin "object.__class__", .ref a, tp], []⟩) R ⟨h, g, d, t, os⟩ := by
  have q0 := p.ty (M := model prog w)
  have q1 := looks_mroIn (M := model prog w) X k.ob
  apply codeAny_call_builtin KF.slot_gs.plain KF.entry_gs
  refine KF.slot_gs.check _ _ _ _ _ _ _ _ KF.type_class (KF.args_gs _ _ _) ?_
  (unfold Builtin.«getset_descriptor.__get__» descrGet; rw [dga_obj]; refine wpAny_bind (wpAny_pure ?_))
  (unfold descrGetter descrCheckInstance; unfold descrNameAndClass isInstance; simp only [KF.owner_class]; repeat lk)
  constructor
  · exact Code.quiet_builtin _ (by decide +kernel)
  apply codeAny_builtin KF.entry_class
  (unfold Builtin.«object.__class__»; unfold shownTypeOf; repeat lk)
  exact hR
theorem exc_entry {tk : Tok} {Q : Fin → Shared → Prop} (X : K.In h) (p : excP C a h) (k : ExcK K C) (hq : Q (.done (.ret (.ref C))) ⟨h, g, d, t, os⟩) :
    wpAny (model prog w) A (Builtin.«object.__getattribute__» ⟨[.ref a, .str "__class__" tk], []⟩) Q E ⟨h, g, d, t, os⟩ := by
  have q0 := p.ty (M := model prog w)
  have q1 := looks_findIn (M := model prog w) X k.ca
  have q2 := looks_specialIn (M := model prog w) X k.gs
  unfold Builtin.«object.__getattribute__»
  repeat (any_goals (first | assumption | (with_reducible refine wpAny_call (exc_get X p k ?_)) | lk | wp_step))
theorem exc_call {tk : Tok} {R : Result → Shared → Prop} (X : K.In h) (p : excP C a h) (k : ExcK K C) (hq : R (.ok (.ret (.ref C))) ⟨h, g, d, t, os⟩) :
    codeAny (model prog w) A (.call (.builtin "BaseException.__getattribute__") ⟨[.ref a, .str "__class__" tk], []⟩) R ⟨h, g, d, t, os⟩ := by
  refine codeAny_call_builtin PySem.F.attr_ValueError.ga.plain PySem.F.entry_bexc_ga ?_
  have z1 : builtinKind "BaseException.__getattribute__" = some .slot := by decide +kernel
  have z2 : splitId "BaseException.__getattribute__" = some ("BaseException", "__getattribute__") := by decide +kernel
  have q0 := p.ty (M := model prog w)
  have q1 := looks_mroIn (M := model prog w) X k.be
  have z3 := PySem.F.args_bexc_ga (.ref a) (.str "__class__" tk)
  simp only [checkBuiltinCall, z1, z2]
  refine wpAny_bind ?_
  unfold isInstance
  repeat (any_goals (first | assumption | (with_reducible refine exc_entry X p k ?_) | lk | wp_step))
theorem exc_class {Q : Option Value → Shared → Prop} (X : K.In h) (p : excP C a h) (k : ExcK K C) (hq : Q (some (.ref C)) ⟨h, g, d, t + 1, os⟩) : wpAny (model prog w) A (getAttr? (.ref a) "__class__") Q E ⟨h, g, d, t, os⟩ := by
  have q0 := p.ty (M := model prog w)
  have q1 := looks_findIn (M := model prog w) X k.ga
  have q2 := looks_findIn (M := model prog w) X k.gt
  have z3 := PySem.F.attr_ValueError.ga.bind (.ref a)
  have z2 : (Value.builtin "BaseException.__getattribute__" == Value.builtin "object.__getattribute__") = false := by decide +kernel
  have z1 : (onTheHeap (Value.ref C) && Value.builtin "BaseException.__getattribute__" == Value.builtin "object.__getattribute__") = false := by rw [z2]; rfl
  unfold getAttr? getAttrBy? getAttrBy
  refine wpAny_bind (wpAny_mkText (wpAny_bind (wpAny_attempt (wpAny_holding (wpAny_bind (q0.at (wpAny_bind (q1.at ?_))))))))
  repeat (any_goals (first | assumption | (with_reducible refine wpAny_attempt ?_) | (with_reducible refine wpAny_call ?_) | (with_reducible refine wpAny_runValue ?_) | (with_reducible refine wpAny_run ?_) | lk | wp_step))
  show codeAny _ _ (.call (.builtin "BaseException.__getattribute__") ⟨[.ref a, .str "__class__" t], []⟩) _ _
  refine exc_call X p k ?_
  repeat (any_goals (first | assumption | lk | wp_step))
theorem kitx_exc (k : ExcK K C) : KitX K (.ref a) (.ref C) (excP C a) where
  ty := fun _ _ _ p => p.ty
  it := fun M h X _ => by
    obtain ⟨cd, hc⟩ := Option.isSome_iff_exists.mp k.cl
    unfold clsIn at hc
    split at hc
    · rename_i ho
      intro A' Q' E' s' kk q
      unfold isType loadHead
      exact wpAny_bind (wpAny_loadPart (kk _ _ (X _ _ ho)) (wpAny_pure q))
    · cases hc
  ne := fun h tp dd its n sl X htp => by
    obtain ⟨cd, hc⟩ := Option.isSome_iff_exists.mp k.cl
    refine Bool.eq_false_iff.mpr fun q => ?_
    obtain rfl : C = tp := Value.ref.inj (beq_iff_eq.mp q)
    unfold clsIn at hc
    split at hc
    · rename_i ho
      cases (X _ _ ho).symm.trans htp
    · cases hc
  ca := fun {_ _ _ _ _ s} X p q => by
    obtain ⟨h, g, d, t, os⟩ := s
    exact exc_class X p k q
end
section
variable {X : Cx}
theorem call_isx : CallR X (.builtin "isinstance") (fun xs H Q => ∃ a C c cv b, xs = [.ref a, c] ∧ H a = some (.ext (excP C a)) ∧ ExcK X.K C ∧ (∀ u, RelV c u → u = cv) ∧ kitOne X.K (.ref C) cv = some b ∧ Q (.bl b) H) := by
  intro pins s σ H xs us Q I r h
  obtain ⟨a, C, c, cv, b, rfl, ha, k, hc, e, q⟩ := h
  obtain ⟨u, v, rfl, ru, rv⟩ := vals2 r
  cases (show u = Value.ref a from ru)
  cases hc v rv
  have p : excP C a s.heap := (I.hok a _ ha).1
  exact kia_one (kitx_exc k) I.kIn p e (fun z => nomatch z) fun tk => ⟨.bl b, H, I.tok tk, rfl, q⟩
end
end L2
namespace DL
open PySem PySem.Spec PyProof.Rows L2
def ceOf (mg : Str → Option Value) (c : Str) : Value := (mg c).getD .none
abbrev EX (mg : Str → Option Value) (E0 : XK) : Str → Hp → Prop := fun c H' => E0 (ceOf mg c) none H'
def runX (body : DM Fl) (n : Nat) (ds : List D) : Ro := match body (ds.map .sh ++ List.replicate (n - ds.length) .no) with
  | .ok (.rt d) _ => .ok d
  | .ok (.rto es) _ => .own es
  | .ok .nx _ => .ok .non
  | .er c => .er c
  | _ => .un
section
variable {P : Program} {w : World} {K : PySem.W.Frag} {mg : Str → Option Value} {base : Heap} {H : Hp} {Ω : Om}
theorem fnX {x qual : Str} {st : Stmt} {f : Addr} {fd : FuncData} {N ps : List Str} {k : Nat} {body : DM Fl} (F : Fun K x qual st f fd) (S : FnScope N ps (defScope st))
    (hb : ∀ (cdv : Value) (A : Around) (outer : List Env) (s : Shared) (H : Hp) (E : XK), Room k (A.deeper (envOfC qual (defScope st) s.heap.objs.size f cdv)) →
      PSsD (cxOf (Fly P w) P w K mg base N qual (defScope st) f cdv A outer s H E) (EX mg E) [] (defBody st) body) : FnOk P w K mg base (Fly P w) (k + 1) f fd ps (spP K (ceOf mg) ps.length (runX body N.length)) := by
  obtain ⟨oc, od, kV, doc, pm, an, cdv, ct, osl, rfl, lk, hcd⟩ := F.ex
  refine fn_of lk hcd S (fun vs H Q E h => h.1) (fun A outer s H vs Q E hr h => ?_)
  obtain ⟨ts, p, d⟩ := hb cdv A outer s H E hr
  refine ⟨ts, p, ?_⟩
  obtain ⟨hl, Ω, ds, ht, h0, hr, hq⟩ := h
  refine d (L2.start N vs) H _ Ω (RepS.start hr ht) _ ?_
  unfold runX at hq
  cases e : body (ds.map .sh ++ List.replicate (N.length - ds.length) .no) with
  | un => rw [e] at hq; exact hq
  | er c => rw [e] at hq; exact hq
  | ok fl δ' =>
    rw [e] at hq
    cases fl with
    | nx => exact fun H' Ω' ex σ' R' _ => hq H' Ω' ex R'.trk .non rfl
    | bk => exact hq.elim
    | ct => exact hq.elim
    | rt d => exact fun H' Ω' ex σ' R' _ v r => hq H' Ω' ex R'.trk v r
    | rto es => exact fun H' Ω' ex σ' R' _ v r => hq H' Ω' ex R'.trk v r
end
section
variable {X : Cx} {E : Str → Hp → Prop} {E0 : XK} {pos : Pos} {e : Expr} {mp : List Nat}
structure DefX (P : Program) (w : World) (K : PySem.W.Frag) (mg : Str → Option Value) (base : Heap) (k : Nat) (x : Str) (n : Nat) (M : List D → Ro) : Prop where
  ex : ∃ (f : Addr) (fd : FuncData) (ps : List Str), FnOk P w K mg base (Fly P w) k f fd ps (spP K (ceOf mg) n M) ∧ mg x = some (.ref f) ∧ PySem.W.keepIn K (.ref f) = true ∧ Binds K fd ps []
theorem ped_callX {k n : Nat} {x : Str} {M : List D → Ro} {p : Pos} {es : List Expr} {r : DM (List DV)} (F : DefX X.prog X.w X.K X.mg X.base k x n M) (hp : Passes (Fly X.prog X.w) X E0) (hr : Room k X.A) (ha : PAD X (EX X.mg E0) (e :: es) r) (hg : Gl X x := by rfl)
    (hdb : (x == ("__debug__" : Str)) = false := by decide) (he : starEach (e :: es) X.env = (false, eval e X.env) :: starEach es X.env := by rfl) (hpl : (backTo pos (starEach es X.env)).any (·.1) = false := by rfl) :
    PED X (EX X.mg E0) (.Call (.Name x p) (e :: es) [] pos) (fCall n r M) := by
  obtain ⟨fa, fd, ps, F, hm, kp, b⟩ := F.ex
  obtain ⟨t, q, d⟩ := ha
  exact ⟨_, pe_call F hr hg hm kp b .nil hp q hdb he hpl, de_call (fun _ _ z => z) d⟩
theorem ped_callZ {k n : Nat} {x : Str} {M : List D → Ro} {p : Pos} {es : List Expr} {r : DM (List DV)} (F : DefX X.prog X.w X.K X.mg X.base k x n M) (hr : Room k X.A) (ha : PAD X EN (e :: es) r) (hg : Gl X x := by rfl)
    (hdb : (x == ("__debug__" : Str)) = false := by decide) (he : starEach (e :: es) X.env = (false, eval e X.env) :: starEach es X.env := by rfl) (hpl : (backTo pos (starEach es X.env)).any (·.1) = false := by rfl) :
    PED X EN (.Call (.Name x p) (e :: es) [] pos) (fCall n r M) := by
  obtain ⟨fa, fd, ps, F, hm, kp, b⟩ := F.ex
  obtain ⟨t, q, d⟩ := ha
  exact ⟨_, pe_call (E := fun _ _ _ => False) F hr hg hm kp b .nil (fun _ _ _ _ _ _ _ h => by obtain ⟨_, _, _, _, _, _, _, _, _, hE⟩ := h; exact hE.elim) q hdb he hpl, de_call (fun _ _ z => z.elim) d⟩
def fRaise (c : Str) (ok : DSt → Bool) : DM Fl := fun δ => if ok δ then .er c else .un
abbrev tMsg (R : St → Prop) : TE := fun σ H Q => R σ ∧ ∀ x : Str, x.length ≤ 2000000 → Q (.str x) H
def PMD (X : Cx) (e : Expr) (ok : DSt → Bool) : Prop := ∃ R, PE X e (tMsg R) ∧ ∀ {H Ω σ δ}, RepS X.K H Ω σ δ → ok δ = true → R σ
def PXD (X : Cx) (e : Expr) (ok : DSt → Bool) : Prop := ∃ R, PX X e R ∧ ∀ {H Ω σ δ}, RepS X.K H Ω σ δ → ok δ = true → R σ
def PXsD (X : Cx) (es : List Expr) (ok : DSt → Bool) : Prop := ∃ R, PXs X es R ∧ ∀ {H Ω σ δ}, RepS X.K H Ω σ δ → ok δ = true → R σ
theorem psd_raise {x : Str} {C : Addr} {np cpos : Pos} {ok : DSt → Bool} (hT : Thr X E0) (hc : X.calm = true) (c : ExcC X.K X.mg x C) (hm : PMD X e ok) (hg : Gl X x := by rfl) (hdb : (x == ("__debug__" : Str)) = false := by decide)
    (he : starEach [e] X.env = (false, eval e X.env) :: starEach [] X.env := by rfl) (hpl : (backTo cpos (starEach [] X.env)).any (·.1) = false := by rfl) :
    PSD X (EX X.mg E0) mp (.Raise (some (.Call (.Name x np) [e] [] cpos)) none pos) (fRaise x ok) := by
  obtain ⟨R, p, hR⟩ := hm
  refine ⟨_, ps_raise hT hc c hg (pa_cons p pa_nil he) hdb he hpl, fun σ H δ Ω r B h => ?_⟩
  unfold fRaise at h
  split at h
  · rename_i hok
    have h1 : E0 (ceOf X.mg x) none H := h H Ω .refl r.trk
    have h2 : ceOf X.mg x = .ref C := by unfold ceOf; rw [c.g]; rfl
    rw [h2] at h1
    exact ⟨hR r hok, fun y hy => ⟨by show 1 ≤ sizeLine; decide, h1⟩⟩
  · exact h.elim
theorem pmd_join {e' : Expr} {es : List Expr} {ok : DSt → Bool} (h : PXsD X (e :: e' :: es) ok) (hl : (e :: e' :: es).length ≤ 100 := by simp) : PMD X (.JoinedStr (e :: e' :: es) pos) ok := by
  obtain ⟨R, p, hR⟩ := h
  exact ⟨R, pe_join p hl, hR⟩
theorem pxsd_nil : PXsD X [] (fun _ => true) := ⟨_, pxs_nil, fun _ _ => trivial⟩
theorem pxsd_cons {es : List Expr} {ok ok' : DSt → Bool} (h : PXD X e ok) (hs : PXsD X es ok') (he : evalEach (e :: es) X.env = eval e X.env :: evalEach es X.env := by rfl) : PXsD X (e :: es) (fun δ => ok δ && ok' δ) := by
  obtain ⟨R, p, hR⟩ := h
  obtain ⟨R', p', hR'⟩ := hs
  exact ⟨_, pxs_cons p p' he, fun r h => ⟨hR r (Bool.and_eq_true_iff.mp h).1, hR' r (Bool.and_eq_true_iff.mp h).2⟩⟩
theorem pxd_const {x : Str} {j} (h : x.length ≤ 20000 := by decide +kernel) : PXD X (.Constant (.str x) j pos) (fun _ => true) := ⟨_, px_const h, fun _ _ => trivial⟩
def txOk (x : Str) : Bool := decide (x.length ≤ 1000) && x.cps.toList.all fun c => decide (c < 16 ^ 8)
def okS (i : Nat) (δ : DSt) : Bool := match δ[i]? with | some (.sh (.str x)) => txOk x | _ => false
theorem okS_rep {K : PySem.W.Frag} {H : Hp} {Ω : Om} {σ : St} {δ : DSt} {i : Nat} (r : RepS K H Ω σ δ) (h : okS i δ = true) : ∃ x, σ[i]? = some (some (.str x)) ∧ TxOk x := by
  unfold okS at h
  split at h
  · rename_i x e
    obtain ⟨v, e1, e2⟩ := r.sl i _ e
    have e2 : v = .str x := e2
    subst e2
    unfold txOk at h
    obtain ⟨h1, h2⟩ := Bool.and_eq_true_iff.mp h
    exact ⟨x, join_some e1, of_decide_eq_true h1, fun c hc => of_decide_eq_true (List.all_eq_true.mp h2 c hc)⟩
  · cases h
section
variable {x : Str} {p : Pos} {i : Nat}
theorem pxd_fmtS (i : Nat) (hN : X.N[i]? = some x := by rfl) (hv : Vis X.env.scope x := by first | exact Or.inl rfl | exact Or.inr (Or.inl rfl) | exact Or.inr (Or.inr rfl)) (hd : (x == ("__debug__" : Str)) = false := by decide)
    (hcd : (x == ("__classdict__" : Str)) = false := by decide) : PXD X (.FormattedValue (.Name x p) (-1) none pos) (okS i) :=
  ⟨_, px_fmtS (pv i hN hv hd hcd), fun r h H => by obtain ⟨y, h1, h2⟩ := okS_rep r h; exact ⟨_, h1, rfl, y, rfl, h2⟩⟩
theorem pxd_fmtR (i : Nat) (hN : X.N[i]? = some x := by rfl) (hv : Vis X.env.scope x := by first | exact Or.inl rfl | exact Or.inr (Or.inl rfl) | exact Or.inr (Or.inr rfl)) (hd : (x == ("__debug__" : Str)) = false := by decide)
    (hcd : (x == ("__classdict__" : Str)) = false := by decide) : PXD X (.FormattedValue (.Name x p) 114 none pos) (okS i) :=
  ⟨_, px_fmtR (pv i hN hv hd hcd), fun r h H => by obtain ⟨y, h1, h2⟩ := okS_rep r h; exact ⟨_, h1, rfl, y, rfl, h2⟩⟩
theorem pxd_fmtG {a : Int} (hm : GlobD X.K X.mg x (.int a)) (hg : Gl X x := by rfl) (hd : (x == ("__debug__" : Str)) = false := by decide) (h1 : a.natAbs.log2 < 1920 := by decide) (h2 : (toString a : Str).length ≤ 20000 := by decide +kernel) :
    PXD X (.FormattedValue (.Name x p) (-1) none pos) (fun _ => true) := by
  obtain ⟨u, v, e1, e2, e3⟩ := hm
  have e4 : v = .int a := e3 (fun _ => none) (fun _ => none)
  subst e4
  exact ⟨_, px_fmtI (a := a) (pe_glob hg e1 e2 hd) (fun _ _ _ q => q) h1 h2, fun _ _ => trivial⟩
end
end
end DL
namespace DL
open PySem PySem.Spec PyProof.Rows L2
abbrev PXv (K : PySem.W.Frag) (mg : Str → Option Value) (σ : St) (Q : VK) (Ex : XK) : Sum Str DV → DSt → Hp → Om → Prop := fun r δ' H' Ω' => match r with
  | .inl c => RepS K H' Ω' σ δ' → Ex (ceOf mg c) none H'
  | .inr a => PV K σ Q a δ' H' Ω'
def DXE (K : PySem.W.Frag) (mg : Str → Option Value) (t : TX) (fx : DM (Sum Str DV)) : Prop := ∀ σ H δ Ω, RepS K H Ω σ δ → ∀ (Q : VK) (Ex : XK), Wg EN H Ω (PXv K mg σ Q Ex) (fx δ) → t σ H Q Ex
def PXE (X : Cx) (e : Expr) (fx : DM (Sum Str DV)) : Prop := ∃ t, PEX X e t ∧ DXE X.K X.mg t fx
def fCallX (n : Nat) (fa : DM (List DV)) (M : List D → Ro) : DM (Sum Str DV) := fa.bd fun as δ => match valsOf as with
  | none => .un
  | some ds => if ds.length = n then (match M ds with
    | .un => .un
    | .er c => .ok (.inl c) δ
    | .ok d => .ok (.inr (.val d)) δ
    | .own es => .ok (.inr (.own es)) δ) else .un
section
variable {X : Cx} {pos : Pos} {e : Expr} {mp : List Nat} {K : PySem.W.Frag} {mg : Str → Option Value} {H : Hp} {Ω : Om} {σ : St} {δ : DSt}
theorem dxe_call {n : Nat} {M : List D → Ro} {t : TA} {fa : DM (List DV)} (ha : DA K EN t fa) : DXE K mg (fun σ H Q E => t σ H fun vs H1 => spP K (ceOf mg) n M (vs ++ []) H1 Q E) (fCallX n fa M) := by
  intro σ H δ Ω R Q Ex h
  refine ha.use R h fun as vs δ1 H1 Ω1 _ s1 R1 r1 h1 => ?_
  (try dsimp only at h1)
  cases q1 : valsOf as with
  | none => rw [q1] at h1; exact h1.elim
  | some ds =>
    rw [q1] at h1
    dsimp only at h1
    split at h1
    · rename_i hn
      have r := r1.vals q1
      rw [List.append_nil]
      refine ⟨by rw [← r.length]; exact hn, under Ω1, ds, trk_under R1.trk, under_zero, r.less fun b q => under_none q, ?_⟩
      cases q3 : M ds with
      | un => rw [q3] at h1; exact h1
      | er c => rw [q3] at h1; exact fun H' Ω' e' t' => h1 H' _ e'.back (R1.back e' t')
      | ok d => rw [q3] at h1; exact fun H' Ω' e' t' v rv => h1 H' _ e'.back (R1.back e' t') v (Rep.less back_none rv)
      | own es =>
        rw [q3] at h1
        intro H' Ω' e' t' v ⟨a, ws, z1, z2, z3, z4⟩
        exact h1 H' _ e'.back (R1.back e' t') v ⟨a, ws, z1, z2, back_one z3, z4.less back_none⟩
    · exact h1.elim
theorem pxe_call {k n : Nat} {x : Str} {M : List D → Ro} {p : Pos} {es : List Expr} {r : DM (List DV)} (F : DefX X.prog X.w X.K X.mg X.base k x n M) (hr : Room k X.A) (ha : PAD X.nox EN (e :: es) r) (hex : X.ex = [] := by rfl) (hg : Gl X x := by rfl)
    (hdb : (x == ("__debug__" : Str)) = false := by decide) (he : starEach (e :: es) X.env = (false, eval e X.env) :: starEach es X.env := by rfl) (hpl : (backTo pos (starEach es X.env)).any (·.1) = false := by rfl) :
    PXE X (.Call (.Name x p) (e :: es) [] pos) (fCallX n r M) := by
  obtain ⟨fa, fd, ps, F, hm, kp, b⟩ := F.ex
  obtain ⟨t, q, d⟩ := ha
  exact ⟨_, pex_call F hr hex hg hm kp b .nil q hdb he hpl, dxe_call d⟩
def HDD (X : Cx) (mp : List Nat) (hs : List ExceptHandler) (h : Str → DM Fl) : Prop := ∃ hd, HD X hs hd ∧ ∀ c σ H δ Ω B, RepS X.K H Ω σ δ → Wg EN H Ω (PF X.K mp σ B) (h c δ) → hd (ceOf X.mg c) B σ H
theorem hdd_nil : HDD X mp [] (fun _ _ => .un) := ⟨_, hd_nil, fun _ _ _ _ _ _ _ h => h⟩
def TabX (K : PySem.W.Frag) (mg : Str → Option Value) (D : Value) (tab : Str → Option Bool) : Prop := ∀ c b, tab c = some b → ∃ C, mg c = some (.ref C) ∧ PySem.W.nsIn K mainGlobals c = some (some (.ref C)) ∧ PySem.W.exmOne K (.ref C) D = some b
def rForget (i : Nat) : Rs Fl → Rs Fl
  | .ok fl δ => .ok fl (δ.set i .no)
  | r => r
theorem RepS.drop {i : Nat} (R : RepS K H Ω σ δ) : RepS K H Ω (σ.set i none) (δ.set i .no) := by
  refine ⟨by rw [List.length_set, List.length_set]; exact R.len, fun j s h => ?_, R.trk⟩
  by_cases hj : i = j
  · subst hj
    have hl : i < δ.length := by
      have := (List.getElem?_eq_some_iff.mp h).1
      rwa [List.length_set] at this
    rw [List.getElem?_set_self hl] at h
    cases h
    trivial
  · rw [List.getElem?_set_ne hj] at h
    rw [List.getElem?_set_ne hj]
    exact R.sl j s h
theorem hdd_consB (i : Nat) {D : Addr} {n x : Str} {np hpos : Pos} {b₀ : Stmt} {suite : List Stmt} {rest : List ExceptHandler} {fb : DM Fl} {h : Str → DM Fl} {tab : Str → Option Bool} (ht : TabX X.K X.mg (.ref D) tab) (hm : X.mg x = some (.ref D)) (hN : X.N.Nodup)
    (hs : ∀ a, PSsD (handX X a) EN mp (b₀ :: suite) fb) (hr : HDD X mp rest h) (hmp : i ∉ mp := by decide) (hex : X.ex = [] := by rfl) (hi : X.N[i]? = some n := by rfl) (hk : X.env.scope.names.lookup n = some .local := by rfl) (hg : Gl X x := by rfl) (hdb : (x == ("__debug__" : Str)) = false := by decide) :
    HDD X mp (.ExceptHandler (some (.Name x np)) (some n) (b₀ :: suite) hpos :: rest) (fun c => match tab c with | some true => fun δ => rForget i (fb (δ.set i (.sh (.exc c)))) | some false => h c | none => fun _ => .un) := by
  obtain ⟨hd, p, q⟩ := hr
  refine ⟨_, hd_consB hex hN hi hk hg hm (fun a => (hs a).choose_spec.1) p hdb, fun c σ H δ Ω B R w => ?_⟩
  dsimp only at w
  cases e : tab c with
  | none => rw [e] at w; exact w.elim
  | some b =>
    obtain ⟨C, m1, m2, m3⟩ := ht c b e
    have hc : ceOf X.mg c = .ref C := by unfold ceOf; rw [m1]; rfl
    rw [e] at w
    cases b with
    | false => exact .inr ⟨by rw [hc]; exact m3, q c σ H δ Ω B R w⟩
    | true =>
      refine .inl ⟨C, hc, by rw [hc]; exact m3, fun a ha => ?_⟩
      refine (hs a).choose_spec.2 (σ.set i (some (.ref a))) _ (δ.set i (.sh (.exc c))) Ω ((R.alloc ha).set ⟨.ref a, rfl, (show ∃ a C, _ from ⟨a, C, rfl, m2, upd_same⟩)⟩) _ ?_
      have ex : Ext H Ω (upd H a (.ext (excP C a))) Ω := .alloc ha R.trk
      have w : Wg EN H Ω (PF X.K mp σ B) (rForget i (fb (δ.set i (.sh (.exc c))))) := w
      cases e2 : fb (δ.set i (.sh (.exc c))) with
      | un => rw [e2] at w; exact w
      | er c' => rw [e2] at w; exact fun H' Ω' x t => w H' Ω' (ex.trans x) t
      | ok fl δ2 =>
        rw [e2] at w
        intro H2 Ω2 x2 σ2 R2 m2'
        have z := w H2 Ω2 (ex.trans x2) (σ2.set i none) R2.drop fun j hj => by
          have hne : i ≠ j := by rintro rfl; exact hmp hj
          rw [List.getElem?_set_ne hne, m2' j hj, List.getElem?_set_ne hne]
        cases fl with
        | nx => exact z
        | bk => exact z
        | ct => exact z
        | rt d => exact z
        | rto ds => exact z
theorem hdd_cons0 {D : Addr} {x : Str} {np hpos : Pos} {b₀ : Stmt} {suite : List Stmt} {rest : List ExceptHandler} {fb : DM Fl} {h : Str → DM Fl} {tab : Str → Option Bool} (ht : TabX X.K X.mg (.ref D) tab) (hm : X.mg x = some (.ref D))
    (hs : ∀ a, PSsD (handX X a) EN mp (b₀ :: suite) fb) (hr : HDD X mp rest h) (hex : X.ex = [] := by rfl) (hg : Gl X x := by rfl) (hdb : (x == ("__debug__" : Str)) = false := by decide) :
    HDD X mp (.ExceptHandler (some (.Name x np)) none (b₀ :: suite) hpos :: rest) (fun c => match tab c with | some true => fb | some false => h c | none => fun _ => .un) := by
  obtain ⟨hd, p, q⟩ := hr
  refine ⟨_, hd_cons0 hex hg hm (fun a => (hs a).choose_spec.1) p hdb, fun c σ H δ Ω B R w => ?_⟩
  dsimp only at w
  cases e : tab c with
  | none => rw [e] at w; exact w.elim
  | some b =>
    obtain ⟨C, m1, m2, m3⟩ := ht c b e
    have hc : ceOf X.mg c = .ref C := by unfold ceOf; rw [m1]; rfl
    rw [e] at w
    cases b with
    | false => exact .inr ⟨by rw [hc]; exact m3, q c σ H δ Ω B R w⟩
    | true =>
      refine .inl ⟨C, hc, by rw [hc]; exact m3, fun a ha => ?_⟩
      exact (hs a).choose_spec.2 σ _ δ Ω (R.alloc ha) _ (Wg.ext w (.alloc ha R.trk))
def fTryE (fx : DM (Sum Str DV)) (fr : DM Fl) (h : Str → DM Fl) : DM Fl := fx.bd fun r => match r with
  | .inl c => h c
  | .inr _ => fr
theorem psd_tryE {rest : List Stmt} {p1 : Pos} {h₀ : ExceptHandler} {hs : List ExceptHandler} {fx : DM (Sum Str DV)} {fr : DM Fl} {h : Str → DM Fl} (he : PXE X e fx) (hr : PSsD X.nox EN mp rest fr) (hh : HDD X mp (h₀ :: hs) h) (hex : X.ex = [] := by rfl) (hstk : X.stack = X.env :: X.outer := by rfl)
    (hfr : X.env.frame = some X.env.locals := by rfl) (hsw : swapsWith e none p1.line X.env = pure false := by rfl) : PSD X EN mp (.Try (.Expr e p1 :: rest) (h₀ :: hs) [] [] pos) (fTryE fx fr h) := by
  obtain ⟨t, p, d⟩ := he
  obtain ⟨tr, pr, dr⟩ := hr
  obtain ⟨hd, ph, dh⟩ := hh
  refine ⟨_, ps_tryE hex hstk hfr p pr ph hsw, fun σ H δ Ω R B w => ?_⟩
  refine d σ H δ Ω R _ _ (Wg.bd w fun r δ1 H1 Ω1 ex w1 => ?_)
  cases r with
  | inl c => exact fun R1 => dh c σ H1 δ1 Ω1 B R1 w1
  | inr a => exact fun R1 v _ => dr σ H1 δ1 Ω1 R1 B w1
def gIsX (tab : Str → Option Bool) : D → Option DV
  | .exc c => (tab c).map fun b => .val (.bl b)
  | _ => none
def TabI (K : PySem.W.Frag) (D : Value) (tab : Str → Option Bool) : Prop := ∀ c b, tab c = some b → ∃ C, PySem.W.nsIn K mainGlobals c = some (some (.ref C)) ∧ ExcK K C ∧ PySem.W.kitOne K (.ref C) D = some b
theorem ped_isx {E : Str → Hp → Prop} {f : DM DV} {x : Str} {p p2 : Pos} {v : V} {u : Value} {tab : Str → Option Bool} (ht : TabI X.K u tab) (hv : ∀ z, RelV v z → z = u) (hx : PE X (.Name x p2) (tC v)) (hm : X.mg "isinstance" = none) (ha : PED X E e f) (hg : Gl X "isinstance" := by rfl)
    (hs : starEach [e, .Name x p2] X.env = (false, eval e X.env) :: starEach [.Name x p2] X.env := by rfl) (hs2 : starEach [.Name x p2] X.env = (false, eval (.Name x p2) X.env) :: starEach [] X.env := by rfl)
    (hpl : (backTo pos (starEach [.Name x p2] X.env)).any (·.1) = false := by rfl) :
    PED X E (.Call (.Name "isinstance" p) [e, .Name x p2] [] pos) (fUn f (gIsX tab)) := by
  obtain ⟨t, q, d⟩ := ha
  refine ⟨_, pe_callB call_isx hg hm boot_isinstance (pa_cons q (pa_cons hx pa_nil hs2) hs) (by decide) (by decide) hs hpl, ?_⟩
  intro σ H δ Ω R Q h
  refine d.use R h fun a1 y δ1 H1 Ω1 _ s1 R1 r1 h1 => ?_
  (try dsimp only at h1)
  cases q1 : res δ1 a1 with
  | none => rw [q1] at h1; exact h1.elim
  | some d1 =>
    rw [q1] at h1
    (try dsimp only at h1)
    cases d1 with
    | exc c =>
      cases q3 : tab c with
      | none => unfold gIsX at h1; dsimp only at h1; rw [q3] at h1; exact h1.elim
      | some bb =>
        unfold gIsX at h1
        dsimp only at h1
        rw [q3] at h1
        obtain ⟨C, n1, n2, n3⟩ := ht c bb q3
        obtain ⟨a, C', z1, z2, z3⟩ := (show ∃ a C, _ from r1.res R1 q1)
        subst z1
        rw [n1] at z2
        cases z2
        exact ⟨a, C, v, u, bb, rfl, z3, n2, hv, n3, Wg.now (d := .val (.bl bb)) h1 R1 rfl⟩
    | _ => exact h1.elim
end
end DL
namespace DL
open PySem PySem.Spec PyProof.Rows L2
section
variable {δ δ1 δ2 : DSt} {d : D} {ds es : List D} {i n : Nat} {c : Str} {as : List DV} {fa r : DM (List DV)} {f g : DM DV} {body S S1 : DM Fl} {a : DV}
theorem ev_runX (h : body (ds.map .sh ++ List.replicate (n - ds.length) .no) = .ok (.rt d) δ1) : runX body n ds = .ok d := by unfold runX; rw [h]
theorem ev_runXO (h : body (ds.map .sh ++ List.replicate (n - ds.length) .no) = .ok (.rto es) δ1) : runX body n ds = .own es := by unfold runX; rw [h]
theorem ev_runXe (h : body (ds.map .sh ++ List.replicate (n - ds.length) .no) = .er c) : runX body n ds = .er c := by unfold runX; rw [h]
theorem ev_raise {ok : DSt → Bool} (h : ok δ = true) : fRaise c ok δ = .er c := by unfold fRaise; rw [h]; rfl
theorem er_seq (h : S δ = .er c) : fSeq S S1 δ = .er c := by unfold fSeq; rw [h]
theorem er_set (h : f δ = .er c) : fSet i f δ = .er c := by unfold fSet fN DM.bd; simp only [h]
theorem er_setO (h : f δ = .er c) : fSetO i f δ = .er c := by unfold fSetO DM.bd; simp only [h]
theorem er_cons1 (h : f δ = .er c) : fCons f r δ = .er c := by unfold fCons fN DM.bd; simp only [h]
theorem er_lst (h : fa δ = .er c) : fLst fa δ = .er c := by unfold fLst DM.bd; simp only [h]
theorem er_call {M : List D → Ro} (h : fa δ = .ok as δ1) (e : valsOf as = some ds) (hn : ds.length = n) (hM : M ds = .er c) : fCall n fa M δ = .er c := by unfold fCall DM.bd; simp only [h, e, hn, if_true, hM]
theorem er_app (ho : δ[i]? = some (.ow es)) (h : f δ = .er c) : fApp' i f δ = .er c := by
  unfold fApp'
  have : isOw i δ = true := by unfold isOw; rw [ho]
  rw [this]
  unfold fApp fN DM.bd
  simp only [if_true, h]
theorem er_loop {t : D → DSt → Option DSt} (ht : t d δ = some δ1) (hb : S δ1 = .er c) : loopD t S (d :: ds) δ = .er c := by unfold loopD; rw [ht]; dsimp only; rw [hb]
theorem er_callX {M : List D → Ro} (h : fa δ = .ok as δ1) (e : valsOf as = some ds) (hn : ds.length = n) (hM : M ds = .er c) : fCallX n fa M δ = .ok (.inl c) δ1 := by unfold fCallX DM.bd; simp only [h, e, hn, if_true, hM]
theorem ev_tryEe {fx : DM (Sum Str DV)} {fr : DM Fl} {h : Str → DM Fl} {R : Rs Fl} (hx : fx δ = .ok (.inl c) δ1) (hh : h c δ1 = R) : fTryE fx fr h δ = R := by unfold fTryE DM.bd; simp only [hx]; exact hh
end
section
variable {K : PySem.W.Frag} {mg : Str → Option Value} {V : Value} {k : Str} {v : Bool} {C : Addr} {l : List (Str × Bool)}
theorem lk_cons {c : Str} {b : Bool} (h : ((k, v) :: l).lookup c = some b) : (c = k ∧ v = b) ∨ l.lookup c = some b := by
  rw [List.lookup_cons] at h
  split at h
  · rename_i z
    exact .inl ⟨beq_iff_eq.mp z, Option.some.inj h⟩
  · exact .inr h
theorem tabX_nil : TabX K mg V (fun c => ([] : List (Str × Bool)).lookup c) := fun _ _ h => by cases h
theorem tabX_cons (h1 : mg k = some (.ref C)) (h2 : PySem.W.nsIn K mainGlobals k = some (some (.ref C))) (h3 : PySem.W.exmOne K (.ref C) V = some v) (h : TabX K mg V (fun c => l.lookup c)) : TabX K mg V (fun c => ((k, v) :: l).lookup c) := fun c b q => by
  rcases lk_cons q with ⟨rfl, rfl⟩ | z
  · exact ⟨C, h1, h2, h3⟩
  · exact h c b z
theorem tabI_nil : TabI K V (fun c => ([] : List (Str × Bool)).lookup c) := fun _ _ h => by cases h
theorem tabI_cons (h2 : PySem.W.nsIn K mainGlobals k = some (some (.ref C))) (hk : excK K C = true) (h3 : PySem.W.kitOne K (.ref C) V = some v) (h : TabI K V (fun c => l.lookup c)) : TabI K V (fun c => ((k, v) :: l).lookup c) := fun c b q => by
  rcases lk_cons q with ⟨rfl, rfl⟩ | z
  · exact ⟨C, h2, .of hk, h3⟩
  · exact h c b z
end
end DL
namespace Lw
open PySem L2 DL PyProof.Rows
abbrev c_MOST_CAST : D := .int 16
abbrev c_MOST_ROWS : D := .int 12
abbrev c_MOST_STITCHES : D := .int 24
def c_TAKES : List (Str × Int) := [("k", 1), ("p", 1), ("t", 1), ("s", 1), ("l", 2), ("r", 2), ("o", 0)]
abbrev c_YARNS : D := .tup [.str "a", .str "b", .str "c", .str "d", .str "e", .str "f"]
def top (i : Nat) : Stmt := PySem.Challenge.pw_loopbed_k03_unread.main.body.getD i (.Pass ⟨0, 0, 0, 0⟩)
theorem bo_ValueError : bootBuiltins "ValueError" = some (.type "ValueError") := by decide +kernel
theorem bo_all : bootBuiltins "all" = some (.builtin "all") := by decide +kernel
theorem bo_int : bootBuiltins "int" = some (.type "int") := by decide +kernel
theorem bo_len : bootBuiltins "len" = some (.builtin "len") := by decide +kernel
theorem bo_list : bootBuiltins "list" = some (.type "list") := by decide +kernel
theorem bo_str : bootBuiltins "str" = some (.type "str") := by decide +kernel
def tab_BedFault : Str → Option Bool := fun c => ([("NoPattern", false)] : List (Str × Bool)).lookup c
def tab_LoopError : Str → Option Bool := fun c => ([("NoPattern", true)] : List (Str × Bool)).lookup c
def tab_NoPattern : Str → Option Bool := fun c => ([("NoPattern", true)] : List (Str × Bool)).lookup c
def tab_Unfit : Str → Option Bool := fun c => ([("NoPattern", false)] : List (Str × Bool)).lookup c
def tab_ValueError : Str → Option Bool := fun c => ([("NoPattern", true)] : List (Str × Bool)).lookup c
structure Txt (K : PySem.W.Frag) (mg : Str → Option Value) : Prop where
  b_ValueError : mg "ValueError" = none
  b_all : mg "all" = none
  b_int : mg "int" = none
  b_isinstance : mg "isinstance" = none
  b_len : mg "len" = none
  b_list : mg "list" = none
  b_range : mg "range" = none
  b_str : mg "str" = none
  g_MOST_CAST : GlobD K mg "MOST_CAST" c_MOST_CAST
  g_MOST_ROWS : GlobD K mg "MOST_ROWS" c_MOST_ROWS
  g_MOST_STITCHES : GlobD K mg "MOST_STITCHES" c_MOST_STITCHES
  g_TAKES : GlobT K mg "TAKES" c_TAKES
  g_YARNS : GlobD K mg "YARNS" c_YARNS
  e_NoPattern : ∃ C, ExcC K mg "NoPattern" C
  h_BedFault : ∃ D, mg "BedFault" = some (.ref D) ∧ TabX K mg (.ref D) tab_BedFault ∧ TabI K (.ref D) tab_BedFault
  h_LoopError : ∃ D, mg "LoopError" = some (.ref D) ∧ TabX K mg (.ref D) tab_LoopError ∧ TabI K (.ref D) tab_LoopError
  h_NoPattern : ∃ D, mg "NoPattern" = some (.ref D) ∧ TabX K mg (.ref D) tab_NoPattern ∧ TabI K (.ref D) tab_NoPattern
  h_Unfit : ∃ D, mg "Unfit" = some (.ref D) ∧ TabX K mg (.ref D) tab_Unfit ∧ TabI K (.ref D) tab_Unfit
  h_ValueError : TabI K (.type "ValueError") tab_ValueError
theorem nd_0 : (["j", "cell"] : List Str).Nodup := by decide +kernel
theorem nd_1 : (["many"] : List Str).Nodup := by decide +kernel
theorem nd_2 : (["letter"] : List Str).Nodup := by decide +kernel
theorem nd_3 : (["k"] : List Str).Nodup := by decide +kernel
section
variable {P : Program} {w : World} {K : PySem.W.Frag} {mg : Str → Option Value} {base : Heap}
abbrev s_cell_at : Stmt := top 21
theorem sc_cell_at : FnScope ["script", "k"] ["script", "k"] (defScope s_cell_at) := ⟨rfl, rfl, rfl, by decide +kernel, rfl, by decide +kernel, by decide +kernel⟩
def b_cell_at : DM Fl :=
    (fSeq (fIf (fTest (fBin (fVar 1) (fCB (fCons (fVar 0) fNil) gLen) (gCmp lt))) (fRet (fBin (fVar 0) (fVar 1) gIx)) fNext)
    (fRet (fC (.int 0))))
def m_cell_at : List D → Ro := runP b_cell_at 2
theorem ok_cell_at {f : Addr} {fd : FuncData} (F : Fun K "_law_cell_at" "_law_cell_at" s_cell_at f fd) (T : Txt K mg)  : FnOk P w K mg base CX0 1 f fd ["script", "k"] (spP K (fun _ => .none) 2 m_cell_at) :=
  fnP F sc_cell_at fun cdv A outer s H E hr =>
      (psd_cons (psd_if (ptd_cmp cmp_lt (ped_var 1) (ped_cb cb_len T.b_len bo_len (pad_cons (ped_var 0) pad_nil)) (nomark _)) (psd_one (psd_ret (ped_ix (ped_var 0) (ped_var 1)))) psd_nil)
      (psd_one (psd_ret ped_int)))
abbrev s_mix : Stmt := top 22
theorem sc_mix : FnScope ["cell", "k", "seed"] ["cell", "k"] (defScope s_mix) := ⟨rfl, rfl, rfl, by decide +kernel, rfl, by decide +kernel, by decide +kernel⟩
def b_mix : DM Fl :=
    (fSeq (fSet 2 (fBin (fBin (fVar 0) (fBin (fC (.int 7919)) (fBin (fVar 1) (fC (.int 3)) gAdd) gMul) gAdd) (fC (.int 2147483647)) gMod))
    (fSeq (fSet 2 (fBin (fBin (fBin (fBin (fVar 2) (fVar 2) gMul) (fBin (fC (.int 104729)) (fVar 1) gMul) gAdd) (fC (.int 5)) gAdd) (fC (.int 2147483629)) gMod))
    (fRet (fBin (fBin (fVar 2) (fVar 2) gMul) (fC (.int 2147483587)) gMod))))
def m_mix : List D → Ro := runP b_mix 3
theorem ok_mix {f : Addr} {fd : FuncData} (F : Fun K "_law_mix" "_law_mix" s_mix f fd) (T : Txt K mg)  : FnOk P w K mg base CX0 1 f fd ["cell", "k"] (spP K (fun _ => .none) 2 m_mix) :=
  fnP F sc_mix fun cdv A outer s H E hr =>
      (psd_cons (psd_set 2 sc_mix.nd (ped_bin bin_mod (ped_bin bin_add (ped_var 0) (ped_bin bin_mul ped_int (ped_bin bin_add (ped_var 1) ped_int))) ped_int))
      (psd_cons (psd_set 2 sc_mix.nd (ped_bin bin_mod (ped_bin bin_add (ped_bin bin_add (ped_bin bin_mul (ped_var 2) (ped_var 2)) (ped_bin bin_mul ped_int (ped_var 1))) ped_int) ped_int))
      (psd_one (psd_ret (ped_bin bin_mod (ped_bin bin_mul (ped_var 2) (ped_var 2)) ped_int)))))
abbrev s_lines : Stmt := top 23
theorem sc_lines : FnScope ["script", "lines", "k", "cell", "size", "signs"] ["script"] (defScope s_lines) := ⟨rfl, rfl, rfl, by decide +kernel, rfl, by decide +kernel, by decide +kernel⟩
def b_lines : DM Fl :=
    (fSeq (fSetO 1 (fLst (fCons (fBin (fBin (fBin (fC (.str "cast ")) (fCB (fCons (fBin (fC (.int 1)) (fBin (fCall 2 (fCons (fVar 0) (fCons (fC (.int 0)) fNil)) m_cell_at) (fC (.int 16)) gMod) gAdd) fNil) gStr) gAdd) (fC (.str " ")) gAdd) (fBin (fC (.str "abcdef")) (fBin (fCall 2 (fCons (fVar 0) (fCons (fC (.int 1)) fNil)) m_cell_at) (fC (.int 6)) gMod) gIx) gAdd) fNil)))
    (fSeq (fFor (fRng1 (fCons (fBin (fCall 2 (fCons (fVar 0) (fCons (fC (.int 2)) fNil)) m_cell_at) (fC (.int 6)) gMod) fNil)) (sName 2) (fSeq (fSet 3 (fBin (fCall 2 (fCons (fVar 0) (fCons (fBin (fC (.int 5)) (fVar 2) gAdd) fNil)) m_cell_at) (fBin (fC (.int 5003)) (fVar 2) gMul) gAdd))
    (fSeq (fSet 4 (fBin (fC (.int 1)) (fBin (fBin (fCall 2 (fCons (fVar 3) (fCons (fC (.int 50)) fNil)) m_mix) (fC (.int 7)) gDiv) (fC (.int 24)) gMod) gAdd))
    (fSeq (fSet 5 (fBM (fC (.str "")) (fCons (fLC (fRng1 (fCons (fVar 4) fNil)) (sName 0) (.ret true) (fBin (fC (.str "kptslro")) (fBin (fBin (fCall 2 (fCons (fVar 1) (fCons (fVar 0) fNil)) m_mix) (fC (.int 13)) gDiv) (fC (.int 7)) gMod) gIx) [none, some 3]) fNil) gJoin))
    (fApp' 1 (fBin (fBin (fBin (fC (.str "row ")) (fBin (fC (.str "abcdef")) (fBin (fBin (fCall 2 (fCons (fVar 3) (fCons (fC (.int 51)) fNil)) m_mix) (fC (.int 7)) gDiv) (fC (.int 6)) gMod) gIx) gAdd) (fC (.str " ")) gAdd) (fVar 5) gAdd))))))
    (fRet (fVar 1))))
def m_lines : List D → Ro := runP b_lines 6
theorem ok_lines {f : Addr} {fd : FuncData} (F : Fun K "_law_lines" "_law_lines" s_lines f fd) (T : Txt K mg) (F_cell_at : DefP P w K mg base 1 "_law_cell_at" 2 m_cell_at) (F_mix : DefP P w K mg base 1 "_law_mix" 2 m_mix) : FnOk P w K mg base CX0 2 f fd ["script"] (spP K (fun _ => .none) 1 m_lines) :=
  fnP F sc_lines fun cdv A outer s H E hr =>
      (psd_cons (psd_setO 1 sc_lines.nd (ped_lst (pad_cons (ped_bin bin_add (ped_bin bin_add (ped_bin bin_add ped_str (ped_cty cb_str T.b_str bo_str (pad_cons (ped_bin bin_add ped_int (ped_bin bin_mod (ped_call F_cell_at (hr.mono (by decide)) (pad_cons (ped_var 0) (pad_cons ped_int pad_nil))) ped_int)) pad_nil))) ped_str) (ped_ix ped_str (ped_bin bin_mod (ped_call F_cell_at (hr.mono (by decide)) (pad_cons (ped_var 0) (pad_cons ped_int pad_nil))) ped_int))) pad_nil)))
      (psd_cons (psd_for PassesOwn.never rfl (pid_rng1 T.b_range (pad_cons (ped_bin bin_mod (ped_call F_cell_at (hr.mono (by decide)) (pad_cons (ped_var 0) (pad_cons ped_int pad_nil))) ped_int) pad_nil)) (pgd_name sc_lines.nd) (psd_cons (psd_set 3 sc_lines.nd (ped_bin bin_add (ped_call F_cell_at (hr.mono (by decide)) (pad_cons (ped_var 0) (pad_cons (ped_bin bin_add ped_int (ped_var 2)) pad_nil))) (ped_bin bin_mul ped_int (ped_var 2))))
      (psd_cons (psd_set 4 sc_lines.nd (ped_bin bin_add ped_int (ped_bin bin_mod (ped_bin bin_div (ped_call F_mix (hr.mono (by decide)) (pad_cons (ped_var 3) (pad_cons ped_int pad_nil))) ped_int) ped_int)))
      (psd_cons (psd_set 5 sc_lines.nd (ped_bm md_join PySem.F.slot_str_join PySem.F.type_str_join ped_str (pad_cons (ped_lc (N := ["j", "cell"]) (sel := [none, some 3]) ⟨rfl, rfl, rfl, rfl, rfl, rfl⟩ rfl (pid_rng1 T.b_range (pad_cons (ped_var 4) pad_nil)) (fun _ => pgd_name nd_0) (fun _ => ptsd_nil) (fun _ => (ped_ix ped_str (ped_bin bin_mod (ped_bin bin_div (ped_call F_mix (hr.mono (by decide)) (pad_cons (ped_var 1) (pad_cons (ped_var 0) pad_nil))) ped_int) ped_int)))) pad_nil)))
      (psd_one (psd_app 1 (ped_bin bin_add (ped_bin bin_add (ped_bin bin_add ped_str (ped_ix ped_str (ped_bin bin_mod (ped_bin bin_div (ped_call F_mix (hr.mono (by decide)) (pad_cons (ped_var 3) (pad_cons ped_int pad_nil))) ped_int) ped_int))) ped_str) (ped_var 5))))))))
      (psd_one (psd_ret (ped_var 1)))))
abbrev s_words_behind : Stmt := top 16
theorem sc_words_behind : FnScope ["first", "line", "words"] ["first", "line"] (defScope s_words_behind) := ⟨rfl, rfl, rfl, by decide +kernel, rfl, by decide +kernel, by decide +kernel⟩
def b_words_behind : DM Fl :=
    (fSeq (fSet 2 (fBM (fVar 1) (fCons (fC (.str " ")) fNil) gSplit))
    (fSeq (fIf (fOrT (fTest (fBin (fCB (fCons (fVar 2) fNil) gLen) (fC (.int 3)) gNe)) (fTest (fBin (fBin (fVar 2) (fC (.int 0)) gIx) (fVar 0) gNe))) (fRaise "NoPattern" (fun δ => (fun _ => true) δ && (fun δ => (okS 0) δ && (fun δ => (fun _ => true) δ && (fun δ => (okS 1) δ && (fun _ => true) δ) δ) δ) δ)) fNext)
    (fRet (fSlice (fVar 2) (fPart (fC (.int 1))) fNoPart))))
def m_words_behind : List D → Ro := runX b_words_behind 3
theorem ok_words_behind {f : Addr} {fd : FuncData} (F : Fun K "words_behind" "words_behind" s_words_behind f fd) (T : Txt K mg)  : FnOk P w K mg base (Fly P w) 1 f fd ["first", "line"] (spP K (ceOf mg) 2 m_words_behind) :=
  fnX F sc_words_behind fun cdv A outer s H E hr =>
      (psd_cons (psd_set 2 sc_words_behind.nd (ped_bm md_split PySem.F.slot_str_split PySem.F.type_str_split (ped_var 1) (pad_cons ped_str pad_nil)))
      (psd_cons (psd_if (ptd_bool (pwd_or (ptd_cmp (cmp_ne hr.units) (ped_cb cb_len T.b_len bo_len (pad_cons (ped_var 2) pad_nil)) ped_int (nomark _)) (pwd_or1 (ptd_cmp (cmp_ne hr.units) (ped_ix (ped_var 2) ped_int) (ped_var 0) (nomark _))))) (psd_one (psd_raise thr_fly rfl T.e_NoPattern.choose_spec (pmd_join (pxsd_cons pxd_const (pxsd_cons (pxd_fmtS 0) (pxsd_cons pxd_const (pxsd_cons (pxd_fmtR 1) pxsd_nil))))))) psd_nil)
      (psd_one (psd_ret (ped_slice (ped_var 2) (pod_some ped_int) pod_none)))))
abbrev s_read_many : Stmt := top 17
theorem sc_read_many : FnScope ["figures"] ["figures"] (defScope s_read_many) := ⟨rfl, rfl, rfl, by decide +kernel, rfl, by decide +kernel, by decide +kernel⟩
def b_read_many : DM Fl :=
    (fSeq (fIf (fTest (fBin (fVar 0) (fLC (fRng2 (fCons (fC (.int 1)) (fCons (fBin (fC c_MOST_CAST) (fC (.int 1)) gAdd) fNil))) (sName 0) (.ret true) (fCB (fCons (fVar 0) fNil) gStr) [none]) gNotIn)) (fRaise "NoPattern" (fun δ => (fun _ => true) δ && (fun δ => (fun _ => true) δ && (fun δ => (fun _ => true) δ && (fun δ => (okS 0) δ && (fun _ => true) δ) δ) δ) δ)) fNext)
    (fRet (fCB (fCons (fVar 0) fNil) gInt)))
def m_read_many : List D → Ro := runX b_read_many 1
theorem ok_read_many {f : Addr} {fd : FuncData} (F : Fun K "read_many" "read_many" s_read_many f fd) (T : Txt K mg)  : FnOk P w K mg base (Fly P w) 1 f fd ["figures"] (spP K (ceOf mg) 1 m_read_many) :=
  fnX F sc_read_many fun cdv A outer s H E hr =>
      (psd_cons (psd_if (ptd_cmp cmp_notin (ped_var 0) (ped_lc (N := ["many"]) (sel := [none]) ⟨rfl, rfl, rfl, rfl, rfl, rfl⟩ rfl (pid_rng2 T.b_range (pad_cons ped_int (pad_cons (ped_bin bin_add (ped_glob T.g_MOST_CAST) ped_int) pad_nil))) (fun _ => pgd_name nd_1) (fun _ => ptsd_nil) (fun _ => (ped_cty cb_str T.b_str bo_str (pad_cons (ped_var 0) pad_nil)))) (by with_unfolding_all rfl)) (psd_one (psd_raise thr_fly rfl T.e_NoPattern.choose_spec (pmd_join (pxsd_cons pxd_const (pxsd_cons (pxd_fmtG T.g_MOST_CAST) (pxsd_cons pxd_const (pxsd_cons (pxd_fmtR 0) pxsd_nil))))))) psd_nil)
      (psd_one (psd_ret (ped_cty cb_int T.b_int bo_int (pad_cons (ped_var 0) pad_nil)))))
abbrev s_read_yarn : Stmt := top 18
theorem sc_read_yarn : FnScope ["word"] ["word"] (defScope s_read_yarn) := ⟨rfl, rfl, rfl, by decide +kernel, rfl, by decide +kernel, by decide +kernel⟩
def b_read_yarn : DM Fl :=
    (fSeq (fIf (fTest (fBin (fVar 0) (fC c_YARNS) gNotIn)) (fRaise "NoPattern" (fun δ => (fun _ => true) δ && (fun δ => (okS 0) δ && (fun _ => true) δ) δ)) fNext)
    (fRet (fVar 0)))
def m_read_yarn : List D → Ro := runX b_read_yarn 1
theorem ok_read_yarn {f : Addr} {fd : FuncData} (F : Fun K "read_yarn" "read_yarn" s_read_yarn f fd) (T : Txt K mg)  : FnOk P w K mg base (Fly P w) 1 f fd ["word"] (spP K (ceOf mg) 1 m_read_yarn) :=
  fnX F sc_read_yarn fun cdv A outer s H E hr =>
      (psd_cons (psd_if (ptd_cmp cmp_notin (ped_var 0) (ped_glob T.g_YARNS) (by with_unfolding_all rfl)) (psd_one (psd_raise thr_fly rfl T.e_NoPattern.choose_spec (pmd_join (pxsd_cons pxd_const (pxsd_cons (pxd_fmtR 0) pxsd_nil))))) psd_nil)
      (psd_one (psd_ret (ped_var 0))))
abbrev s_read_cast : Stmt := top 14
theorem sc_read_cast : FnScope ["line", "words"] ["line"] (defScope s_read_cast) := ⟨rfl, rfl, rfl, by decide +kernel, rfl, by decide +kernel, by decide +kernel⟩
def b_read_cast : DM Fl :=
    (fSeq (fSet 1 (fCall 2 (fCons (fC (.str "cast")) (fCons (fVar 0) fNil)) m_words_behind))
    (fRet (fTup (fCons (fC (.str "cast")) (fCons (fCall 1 (fCons (fBin (fVar 1) (fC (.int 0)) gIx) fNil) m_read_many) (fCons (fCall 1 (fCons (fBin (fVar 1) (fC (.int 1)) gIx) fNil) m_read_yarn) fNil))))))
def m_read_cast : List D → Ro := runX b_read_cast 2
theorem ok_read_cast {f : Addr} {fd : FuncData} (F : Fun K "read_cast" "read_cast" s_read_cast f fd) (T : Txt K mg) (F_words_behind : DefX P w K mg base 1 "words_behind" 2 m_words_behind) (F_read_many : DefX P w K mg base 1 "read_many" 1 m_read_many) (F_read_yarn : DefX P w K mg base 1 "read_yarn" 1 m_read_yarn) : FnOk P w K mg base (Fly P w) 2 f fd ["line"] (spP K (ceOf mg) 1 m_read_cast) :=
  fnX F sc_read_cast fun cdv A outer s H E hr =>
      (psd_cons (psd_set 1 sc_read_cast.nd (ped_callX F_words_behind leave_next (hr.mono (by decide)) (pad_cons ped_str (pad_cons (ped_var 0) pad_nil))))
      (psd_one (psd_ret (ped_tup (pad_cons ped_str (pad_cons (ped_callX F_read_many leave_next (hr.mono (by decide)) (pad_cons (ped_ix (ped_var 1) ped_int) pad_nil)) (pad_cons (ped_callX F_read_yarn leave_next (hr.mono (by decide)) (pad_cons (ped_ix (ped_var 1) ped_int) pad_nil)) pad_nil)))))))
abbrev s_is_stitch : Stmt := top 7
theorem sc_is_stitch : FnScope ["letter"] ["letter"] (defScope s_is_stitch) := ⟨rfl, rfl, rfl, by decide +kernel, rfl, by decide +kernel, by decide +kernel⟩
def b_is_stitch : DM Fl :=
    (fRet (fUn (fVar 0) (gTabIn c_TAKES)))
def m_is_stitch : List D → Ro := runP b_is_stitch 1
theorem ok_is_stitch {f : Addr} {fd : FuncData} (F : Fun K "is_stitch" "is_stitch" s_is_stitch f fd) (T : Txt K mg)  : FnOk P w K mg base CX0 1 f fd ["letter"] (spP K (fun _ => .none) 1 m_is_stitch) :=
  fnP F sc_is_stitch fun cdv A outer s H E hr =>
      (psd_one (psd_ret (ped_tabin T.g_TAKES (ped_var 0))))
abbrev s_read_stitches : Stmt := top 19
theorem sc_read_stitches : FnScope ["word"] ["word"] (defScope s_read_stitches) := ⟨rfl, rfl, rfl, by decide +kernel, rfl, by decide +kernel, by decide +kernel⟩
def b_read_stitches : DM Fl :=
    (fSeq (fIf (fOrT (fTest (fBin (fCB (fCons (fVar 0) fNil) gLen) (fC (.int 1)) (gCmp lt))) (fTest (fBin (fCB (fCons (fVar 0) fNil) gLen) (fC c_MOST_STITCHES) (gCmp gt)))) (fRaise "NoPattern" (fun δ => (fun _ => true) δ && (fun δ => (fun _ => true) δ && (fun δ => (fun _ => true) δ && (fun δ => (okS 0) δ && (fun _ => true) δ) δ) δ) δ)) fNext)
    (fSeq (fIf (fNotT (fTest (fCB (fCons (fLC (fIt (fVar 0) gStrItems) (sName 0) (.ret true) (fCall 1 (fCons (fVar 0) fNil) m_is_stitch) [none]) fNil) gAll))) (fRaise "NoPattern" (fun δ => (fun _ => true) δ && (fun δ => (okS 0) δ && (fun _ => true) δ) δ)) fNext)
    (fRet (fVar 0))))
def m_read_stitches : List D → Ro := runX b_read_stitches 1
theorem ok_read_stitches {f : Addr} {fd : FuncData} (F : Fun K "read_stitches" "read_stitches" s_read_stitches f fd) (T : Txt K mg) (F_is_stitch : DefP P w K mg base 1 "is_stitch" 1 m_is_stitch) : FnOk P w K mg base (Fly P w) 2 f fd ["word"] (spP K (ceOf mg) 1 m_read_stitches) :=
  fnX F sc_read_stitches fun cdv A outer s H E hr =>
      (psd_cons (psd_if (ptd_bool (pwd_or (ptd_cmp cmp_lt (ped_cb cb_len T.b_len bo_len (pad_cons (ped_var 0) pad_nil)) ped_int (nomark _)) (pwd_or1 (ptd_cmp cmp_gt (ped_cb cb_len T.b_len bo_len (pad_cons (ped_var 0) pad_nil)) (ped_glob T.g_MOST_STITCHES) (nomark _))))) (psd_one (psd_raise thr_fly rfl T.e_NoPattern.choose_spec (pmd_join (pxsd_cons pxd_const (pxsd_cons (pxd_fmtG T.g_MOST_STITCHES) (pxsd_cons pxd_const (pxsd_cons (pxd_fmtR 0) pxsd_nil))))))) psd_nil)
      (psd_cons (psd_if (ptd_not (ptd_val (ped_cb (cb_all rfl) T.b_all bo_all (pad_cons (ped_lc (N := ["letter"]) (sel := [none]) ⟨rfl, rfl, rfl, rfl, rfl, rfl⟩ rfl (pid_str (ped_var 0)) (fun _ => pgd_name nd_2) (fun _ => ptsd_nil) (fun _ => (ped_call F_is_stitch (hr.mono (by decide)) (pad_cons (ped_var 0) pad_nil)))) pad_nil)))) (psd_one (psd_raise thr_fly rfl T.e_NoPattern.choose_spec (pmd_join (pxsd_cons pxd_const (pxsd_cons (pxd_fmtR 0) pxsd_nil))))) psd_nil)
      (psd_one (psd_ret (ped_var 0)))))
abbrev s_read_row : Stmt := top 15
theorem sc_read_row : FnScope ["line", "words"] ["line"] (defScope s_read_row) := ⟨rfl, rfl, rfl, by decide +kernel, rfl, by decide +kernel, by decide +kernel⟩
def b_read_row : DM Fl :=
    (fSeq (fSet 1 (fCall 2 (fCons (fC (.str "row")) (fCons (fVar 0) fNil)) m_words_behind))
    (fRet (fTup (fCons (fC (.str "row")) (fCons (fCall 1 (fCons (fBin (fVar 1) (fC (.int 0)) gIx) fNil) m_read_yarn) (fCons (fCall 1 (fCons (fBin (fVar 1) (fC (.int 1)) gIx) fNil) m_read_stitches) fNil))))))
def m_read_row : List D → Ro := runX b_read_row 2
theorem ok_read_row {f : Addr} {fd : FuncData} (F : Fun K "read_row" "read_row" s_read_row f fd) (T : Txt K mg) (F_words_behind : DefX P w K mg base 1 "words_behind" 2 m_words_behind) (F_read_yarn : DefX P w K mg base 1 "read_yarn" 1 m_read_yarn) (F_read_stitches : DefX P w K mg base 2 "read_stitches" 1 m_read_stitches) : FnOk P w K mg base (Fly P w) 3 f fd ["line"] (spP K (ceOf mg) 1 m_read_row) :=
  fnX F sc_read_row fun cdv A outer s H E hr =>
      (psd_cons (psd_set 1 sc_read_row.nd (ped_callX F_words_behind leave_next (hr.mono (by decide)) (pad_cons ped_str (pad_cons (ped_var 0) pad_nil))))
      (psd_one (psd_ret (ped_tup (pad_cons ped_str (pad_cons (ped_callX F_read_yarn leave_next (hr.mono (by decide)) (pad_cons (ped_ix (ped_var 1) ped_int) pad_nil)) (pad_cons (ped_callX F_read_stitches leave_next (hr.mono (by decide)) (pad_cons (ped_ix (ped_var 1) ped_int) pad_nil)) pad_nil)))))))
abbrev s_read : Stmt := top 13
theorem sc_read : FnScope ["text", "lines", "pattern", "line"] ["text"] (defScope s_read) := ⟨rfl, rfl, rfl, by decide +kernel, rfl, by decide +kernel, by decide +kernel⟩
def b_read : DM Fl :=
    (fSeq (fSet 1 (fBM (fVar 0) (fCons (fC (.str "\n")) fNil) gSplit))
    (fSeq (fIf (fTest (fBin (fCB (fCons (fVar 1) fNil) gLen) (fBin (fC (.int 1)) (fC c_MOST_ROWS) gAdd) (gCmp gt))) (fRaise "NoPattern" (fun δ => (fun _ => true) δ && (fun δ => (fun _ => true) δ && (fun δ => (fun _ => true) δ && (fun _ => true) δ) δ) δ)) fNext)
    (fSeq (fSetO 2 (fLst (fCons (fCall 1 (fCons (fBin (fVar 1) (fC (.int 0)) gIx) fNil) m_read_cast) fNil)))
    (fSeq (fFor (fIt (fSlice (fVar 1) (fPart (fC (.int 1))) fNoPart) gLstItems) (sName 3) (fApp' 2 (fCall 1 (fCons (fVar 3) fNil) m_read_row)))
    (fRet (fVar 2))))))
def m_read : List D → Ro := runX b_read 4
theorem ok_read {f : Addr} {fd : FuncData} (F : Fun K "read" "read" s_read f fd) (T : Txt K mg) (F_read_cast : DefX P w K mg base 2 "read_cast" 1 m_read_cast) (F_read_row : DefX P w K mg base 3 "read_row" 1 m_read_row) : FnOk P w K mg base (Fly P w) 4 f fd ["text"] (spP K (ceOf mg) 1 m_read) :=
  fnX F sc_read fun cdv A outer s H E hr =>
      (psd_cons (psd_set 1 sc_read.nd (ped_bm md_split PySem.F.slot_str_split PySem.F.type_str_split (ped_var 0) (pad_cons ped_str pad_nil)))
      (psd_cons (psd_if (ptd_cmp cmp_gt (ped_cb cb_len T.b_len bo_len (pad_cons (ped_var 1) pad_nil)) (ped_bin bin_add ped_int (ped_glob T.g_MOST_ROWS)) (nomark _)) (psd_one (psd_raise thr_fly rfl T.e_NoPattern.choose_spec (pmd_join (pxsd_cons pxd_const (pxsd_cons (pxd_fmtG T.g_MOST_ROWS) (pxsd_cons pxd_const pxsd_nil)))))) psd_nil)
      (psd_cons (psd_setO 2 sc_read.nd (ped_lst (pad_cons (ped_callX F_read_cast leave_next (hr.mono (by decide)) (pad_cons (ped_ix (ped_var 1) ped_int) pad_nil)) pad_nil)))
      (psd_cons (psd_for PassesOwn.leaving rfl (pid_list (ped_slice (ped_var 1) (pod_some ped_int) pod_none)) (pgd_name sc_read.nd) (psd_one (psd_app 2 (ped_callX F_read_row leave_next (hr.mono (by decide)) (pad_cons (ped_var 3) pad_nil)))))
      (psd_one (psd_ret (ped_var 2)))))))
abbrev s_bad_row : Stmt := top 24
theorem sc_bad_row : FnScope ["way", "cell", "place"] ["way", "cell"] (defScope s_bad_row) := ⟨rfl, rfl, rfl, by decide +kernel, rfl, by decide +kernel, by decide +kernel⟩
def b_bad_row : DM Fl :=
    (fSeq (fIf (fTest (fBin (fVar 0) (fC (.int 0)) gEq)) (fRet (fC (.str "row a "))) fNext)
    (fSeq (fIf (fTest (fBin (fVar 0) (fC (.int 1)) gEq)) (fRet (fBin (fBin (fC (.str "row a ")) (fBin (fC (.str "kpt")) (fC (.int 8)) gMul) gAdd) (fC (.str "s")) gAdd)) fNext)
    (fSeq (fIf (fTest (fBin (fVar 0) (fC (.int 2)) gEq)) (fSeq (fSet 2 (fBin (fVar 1) (fC (.int 6)) gMod))
    (fRet (fBin (fBin (fBin (fBin (fC (.str "row b ")) (fC (.str "ksl")) gAdd) (fSlice (fC (.str "pro")) fNoPart (fPart (fBin (fVar 2) (fC (.int 4)) gMod))) gAdd) (fBin (fC (.str "xKP01-n. \t")) (fBin (fBin (fVar 1) (fC (.int 6)) gDiv) (fC (.int 10)) gMod) gIx) gAdd) (fC (.str "kt")) gAdd))) fNext)
    (fSeq (fIf (fTest (fBin (fVar 0) (fC (.int 3)) gEq)) (fRet (fC (.str "row  c kk"))) fNext)
    (fSeq (fIf (fTest (fBin (fVar 0) (fC (.int 4)) gEq)) (fRet (fC (.str "row g kk"))) fNext)
    (fSeq (fIf (fTest (fBin (fVar 0) (fC (.int 5)) gEq)) (fRet (fC (.str "row ab kk"))) fNext)
    (fSeq (fIf (fTest (fBin (fVar 0) (fC (.int 6)) gEq)) (fRet (fC (.str "Row a kk"))) fNext)
    (fSeq (fIf (fTest (fBin (fVar 0) (fC (.int 7)) gEq)) (fRet (fBin (fC (.str "row a kk")) (fC (.str " ")) gAdd)) fNext)
    (fRet (fBin (fLst (fCons (fC (.str "row kk")) (fCons (fC (.str "row")) (fCons (fC (.str "")) (fCons (fC (.str " row a kk")) (fCons (fC (.str "\trow a kk")) (fCons (fC (.str "row a kk\t")) fNil))))))) (fBin (fVar 1) (fC (.int 6)) gMod) gIx))))))))))
def m_bad_row : List D → Ro := runP b_bad_row 3
theorem ok_bad_row {f : Addr} {fd : FuncData} (F : Fun K "_law_bad_row" "_law_bad_row" s_bad_row f fd) (T : Txt K mg)  : FnOk P w K mg base CX0 1 f fd ["way", "cell"] (spP K (fun _ => .none) 2 m_bad_row) :=
  fnP F sc_bad_row fun cdv A outer s H E hr =>
      (psd_cons (psd_if (ptd_cmp (cmp_eq hr.units) (ped_var 0) ped_int (nomark _)) (psd_one (psd_ret ped_str)) psd_nil)
      (psd_cons (psd_if (ptd_cmp (cmp_eq hr.units) (ped_var 0) ped_int (nomark _)) (psd_one (psd_ret (ped_bin bin_add (ped_bin bin_add ped_str (ped_bin bin_mul ped_str ped_int)) ped_str))) psd_nil)
      (psd_cons (psd_if (ptd_cmp (cmp_eq hr.units) (ped_var 0) ped_int (nomark _)) (psd_cons (psd_set 2 sc_bad_row.nd (ped_bin bin_mod (ped_var 1) ped_int))
      (psd_one (psd_ret (ped_bin bin_add (ped_bin bin_add (ped_bin bin_add (ped_bin bin_add ped_str ped_str) (ped_slice ped_str pod_none (pod_some (ped_bin bin_mod (ped_var 2) ped_int)))) (ped_ix ped_str (ped_bin bin_mod (ped_bin bin_div (ped_var 1) ped_int) ped_int))) ped_str)))) psd_nil)
      (psd_cons (psd_if (ptd_cmp (cmp_eq hr.units) (ped_var 0) ped_int (nomark _)) (psd_one (psd_ret ped_str)) psd_nil)
      (psd_cons (psd_if (ptd_cmp (cmp_eq hr.units) (ped_var 0) ped_int (nomark _)) (psd_one (psd_ret ped_str)) psd_nil)
      (psd_cons (psd_if (ptd_cmp (cmp_eq hr.units) (ped_var 0) ped_int (nomark _)) (psd_one (psd_ret ped_str)) psd_nil)
      (psd_cons (psd_if (ptd_cmp (cmp_eq hr.units) (ped_var 0) ped_int (nomark _)) (psd_one (psd_ret ped_str)) psd_nil)
      (psd_cons (psd_if (ptd_cmp (cmp_eq hr.units) (ped_var 0) ped_int (nomark _)) (psd_one (psd_ret (ped_bin bin_add ped_str ped_str))) psd_nil)
      (psd_one (psd_ret (ped_ix (ped_lst (pad_cons ped_str (pad_cons ped_str (pad_cons ped_str (pad_cons ped_str (pad_cons ped_str (pad_cons ped_str pad_nil))))))) (ped_bin bin_mod (ped_var 1) ped_int))))))))))))
abbrev s_spoiled : Stmt := top 25
theorem sc_spoiled : FnScope ["lines", "way", "cell", "at", "some"] ["lines", "way", "cell"] (defScope s_spoiled) := ⟨rfl, rfl, rfl, by decide +kernel, rfl, by decide +kernel, by decide +kernel⟩
def b_spoiled : DM Fl :=
    (fSeq (fIf (fTest (fBin (fVar 1) (fC (.int 0)) gEq)) (fRet (fBin (fSlice (fVar 0) (fPart (fC (.int 1))) fNoPart) (fLst (fCons (fC (.str "row a k")) fNil)) gAdd)) fNext)
    (fSeq (fIf (fTest (fBin (fVar 1) (fC (.int 1)) gEq)) (fSeq (fSet 3 (fBin (fC (.int 1)) (fBin (fVar 2) (fCB (fCons (fVar 0) fNil) gLen) gMod) gAdd))
    (fRet (fBin (fBin (fSlice (fVar 0) fNoPart (fPart (fVar 3))) (fLst (fCons (fC (.str "cast 3 a")) fNil)) gAdd) (fSlice (fVar 0) (fPart (fVar 3)) fNoPart) gAdd))) fNext)
    (fSeq (fIf (fTest (fBin (fVar 1) (fC (.int 2)) gEq)) (fSeq (fSet 4 (fLst (fCons (fC (.str "0")) (fCons (fC (.str "17")) (fCons (fC (.str "07")) (fCons (fC (.str "")) (fCons (fC (.str "+3")) (fCons (fC (.str "3 3")) (fCons (fC (.str "x")) (fCons (fC (.str "00")) (fCons (fC (.str "1_0")) (fCons (fC (.str "3\t")) (fCons (fC (.str "-3")) fNil)))))))))))))
    (fRet (fBin (fLst (fCons (fBin (fBin (fC (.str "cast ")) (fBin (fVar 4) (fBin (fVar 2) (fC (.int 11)) gMod) gIx) gAdd) (fC (.str " a")) gAdd) fNil)) (fSlice (fVar 0) (fPart (fC (.int 1))) fNoPart) gAdd))) fNext)
    (fSeq (fIf (fTest (fBin (fVar 1) (fC (.int 3)) gEq)) (fRet (fBin (fLst (fCons (fBin (fLst (fCons (fC (.str "cast 3 g")) (fCons (fC (.str "cast 3 ab")) (fCons (fC (.str "cast 3 ")) (fCons (fC (.str "cast 3 A")) (fCons (fC (.str "cast 3 a ")) (fCons (fC (.str "cast 3")) (fCons (fC (.str "cast")) fNil)))))))) (fBin (fVar 2) (fC (.int 7)) gMod) gIx) fNil)) (fSlice (fVar 0) (fPart (fC (.int 1))) fNoPart) gAdd)) fNext)
    (fSeq (fIf (fTest (fBin (fVar 1) (fC (.int 4)) gEq)) (fRet (fBin (fVar 0) (fLst (fCons (fC (.str "")) fNil)) gAdd)) fNext)
    (fSeq (fIf (fTest (fBin (fVar 1) (fC (.int 5)) gEq)) (fRet (fBin (fSlice (fVar 0) fNoPart (fPart (fC (.int 1)))) (fLC (fRng1 (fCons (fC (.int 13)) fNil)) (sName 0) (.ret true) (fC (.str "row a k")) [none]) gAdd)) fNext)
    (fSeq (fIf (fTest (fBin (fVar 1) (fC (.int 6)) gEq)) (fRet (fLst (fCons (fC (.str "")) fNil))) fNext)
    (fSeq (fIf (fTest (fBin (fVar 1) (fC (.int 7)) gEq)) (fRet (fBin (fLst (fCons (fBin (fC (.str " ")) (fBin (fVar 0) (fC (.int 0)) gIx) gAdd) fNil)) (fSlice (fVar 0) (fPart (fC (.int 1))) fNoPart) gAdd)) fNext)
    (fSeq (fIf (fTest (fBin (fVar 1) (fC (.int 8)) gEq)) (fRet (fBin (fLst (fCons (fC (.str "Cast 3 a")) fNil)) (fSlice (fVar 0) (fPart (fC (.int 1))) fNoPart) gAdd)) fNext)
    (fSeq (fSet 3 (fBin (fC (.int 1)) (fBin (fVar 2) (fCB (fCons (fVar 0) fNil) gLen) gMod) gAdd))
    (fRet (fBin (fBin (fSlice (fVar 0) fNoPart (fPart (fVar 3))) (fLst (fCons (fCall 2 (fCons (fBin (fVar 1) (fC (.int 9)) gSub) (fCons (fBin (fVar 2) (fC (.int 7)) gDiv) fNil)) m_bad_row) fNil)) gAdd) (fSlice (fVar 0) (fPart (fVar 3)) fNoPart) gAdd))))))))))))
def m_spoiled : List D → Ro := runP b_spoiled 5
theorem ok_spoiled {f : Addr} {fd : FuncData} (F : Fun K "_law_spoiled" "_law_spoiled" s_spoiled f fd) (T : Txt K mg) (F_bad_row : DefP P w K mg base 1 "_law_bad_row" 2 m_bad_row) : FnOk P w K mg base CX0 2 f fd ["lines", "way", "cell"] (spP K (fun _ => .none) 3 m_spoiled) :=
  fnP F sc_spoiled fun cdv A outer s H E hr =>
      (psd_cons (psd_if (ptd_cmp (cmp_eq hr.units) (ped_var 1) ped_int (nomark _)) (psd_one (psd_ret (ped_bin bin_add (ped_slice (ped_var 0) (pod_some ped_int) pod_none) (ped_lst (pad_cons ped_str pad_nil))))) psd_nil)
      (psd_cons (psd_if (ptd_cmp (cmp_eq hr.units) (ped_var 1) ped_int (nomark _)) (psd_cons (psd_set 3 sc_spoiled.nd (ped_bin bin_add ped_int (ped_bin bin_mod (ped_var 2) (ped_cb cb_len T.b_len bo_len (pad_cons (ped_var 0) pad_nil)))))
      (psd_one (psd_ret (ped_bin bin_add (ped_bin bin_add (ped_slice (ped_var 0) pod_none (pod_some (ped_var 3))) (ped_lst (pad_cons ped_str pad_nil))) (ped_slice (ped_var 0) (pod_some (ped_var 3)) pod_none))))) psd_nil)
      (psd_cons (psd_if (ptd_cmp (cmp_eq hr.units) (ped_var 1) ped_int (nomark _)) (psd_cons (psd_set 4 sc_spoiled.nd (ped_lst (pad_cons ped_str (pad_cons ped_str (pad_cons ped_str (pad_cons ped_str (pad_cons ped_str (pad_cons ped_str (pad_cons ped_str (pad_cons ped_str (pad_cons ped_str (pad_cons ped_str (pad_cons ped_str pad_nil)))))))))))))
      (psd_one (psd_ret (ped_bin bin_add (ped_lst (pad_cons (ped_bin bin_add (ped_bin bin_add ped_str (ped_ix (ped_var 4) (ped_bin bin_mod (ped_var 2) ped_int))) ped_str) pad_nil)) (ped_slice (ped_var 0) (pod_some ped_int) pod_none))))) psd_nil)
      (psd_cons (psd_if (ptd_cmp (cmp_eq hr.units) (ped_var 1) ped_int (nomark _)) (psd_one (psd_ret (ped_bin bin_add (ped_lst (pad_cons (ped_ix (ped_lst (pad_cons ped_str (pad_cons ped_str (pad_cons ped_str (pad_cons ped_str (pad_cons ped_str (pad_cons ped_str (pad_cons ped_str pad_nil)))))))) (ped_bin bin_mod (ped_var 2) ped_int)) pad_nil)) (ped_slice (ped_var 0) (pod_some ped_int) pod_none)))) psd_nil)
      (psd_cons (psd_if (ptd_cmp (cmp_eq hr.units) (ped_var 1) ped_int (nomark _)) (psd_one (psd_ret (ped_bin bin_add (ped_var 0) (ped_lst (pad_cons ped_str pad_nil))))) psd_nil)
      (psd_cons (psd_if (ptd_cmp (cmp_eq hr.units) (ped_var 1) ped_int (nomark _)) (psd_one (psd_ret (ped_bin bin_add (ped_slice (ped_var 0) pod_none (pod_some ped_int)) (ped_lc (N := ["k"]) (sel := [none]) ⟨rfl, rfl, rfl, rfl, rfl, rfl⟩ rfl (pid_rng1 T.b_range (pad_cons ped_int pad_nil)) (fun _ => pgd_name nd_3) (fun _ => ptsd_nil) (fun _ => ped_str))))) psd_nil)
      (psd_cons (psd_if (ptd_cmp (cmp_eq hr.units) (ped_var 1) ped_int (nomark _)) (psd_one (psd_ret (ped_lst (pad_cons ped_str pad_nil)))) psd_nil)
      (psd_cons (psd_if (ptd_cmp (cmp_eq hr.units) (ped_var 1) ped_int (nomark _)) (psd_one (psd_ret (ped_bin bin_add (ped_lst (pad_cons (ped_bin bin_add ped_str (ped_ix (ped_var 0) ped_int)) pad_nil)) (ped_slice (ped_var 0) (pod_some ped_int) pod_none)))) psd_nil)
      (psd_cons (psd_if (ptd_cmp (cmp_eq hr.units) (ped_var 1) ped_int (nomark _)) (psd_one (psd_ret (ped_bin bin_add (ped_lst (pad_cons ped_str pad_nil)) (ped_slice (ped_var 0) (pod_some ped_int) pod_none)))) psd_nil)
      (psd_cons (psd_set 3 sc_spoiled.nd (ped_bin bin_add ped_int (ped_bin bin_mod (ped_var 2) (ped_cb cb_len T.b_len bo_len (pad_cons (ped_var 0) pad_nil)))))
      (psd_one (psd_ret (ped_bin bin_add (ped_bin bin_add (ped_slice (ped_var 0) pod_none (pod_some (ped_var 3))) (ped_lst (pad_cons (ped_call F_bad_row (hr.mono (by decide)) (pad_cons (ped_bin bin_sub (ped_var 1) ped_int) (pad_cons (ped_bin bin_div (ped_var 2) ped_int) pad_nil))) pad_nil))) (ped_slice (ped_var 0) (pod_some (ped_var 3)) pod_none))))))))))))))
abbrev s_refused : Stmt := top 26
theorem sc_refused : FnScope ["text", "e", "own"] ["text"] (defScope s_refused) := ⟨rfl, rfl, rfl, by decide +kernel, rfl, by decide +kernel, by decide +kernel⟩
def b_refused : DM Fl :=
    (fSeq (fTryE (fCallX 1 (fCons (fVar 0) fNil) m_read) fNext (fun c => match tab_NoPattern c with | some true => fun δ => rForget 1 ((fSeq (fSet 2 (fAndV (fUn (fVar 1) (gIsX tab_LoopError)) (fUn (fVar 1) (gIsX tab_ValueError))))
    (fRet (fAndV (fVar 2) (fAndV (fNotV (fUn (fVar 1) (gIsX tab_Unfit))) (fNotV (fUn (fVar 1) (gIsX tab_BedFault))))))) (δ.set 1 (.sh (.exc c)))) | some false => (fun _ _ => .un) c | none => fun _ => .un))
    (fRet (fC (.bl false))))
def m_refused : List D → Ro := runP b_refused 3
theorem ok_refused {f : Addr} {fd : FuncData} (F : Fun K "_law_refused" "_law_refused" s_refused f fd) (T : Txt K mg) (F_read : DefX P w K mg base 4 "read" 1 m_read) : FnOk P w K mg base CX0 5 f fd ["text"] (spP K (fun _ => .none) 1 m_refused) :=
  fnP F sc_refused fun cdv A outer s H E hr =>
      (psd_cons (psd_tryE (pxe_call F_read (hr.mono (by decide)) (pad_cons (ped_var 0) pad_nil)) psd_nil (hdd_consB 1 T.h_NoPattern.choose_spec.2.1 T.h_NoPattern.choose_spec.1 sc_refused.nd (fun _ => (psd_cons (psd_set 2 sc_refused.nd (ped_and (ped_isx (v := .ref T.h_LoopError.choose) T.h_LoopError.choose_spec.2.2 (fun _ z => z) (pe_glob rfl T.h_LoopError.choose_spec.1 rfl) T.b_isinstance (ped_var 1)) (ped_one (ped_isx (v := .ty "ValueError") T.h_ValueError (fun _ z => z) (pe_bltn (v := .ty "ValueError") rfl T.b_ValueError bo_ValueError rfl) T.b_isinstance (ped_var 1)))))
      (psd_one (psd_ret (ped_and (ped_var 2) (ped_and (ped_not (ped_isx (v := .ref T.h_Unfit.choose) T.h_Unfit.choose_spec.2.2 (fun _ z => z) (pe_glob rfl T.h_Unfit.choose_spec.1 rfl) T.b_isinstance (ped_var 1))) (ped_one (ped_not (ped_isx (v := .ref T.h_BedFault.choose) T.h_BedFault.choose_spec.2.2 (fun _ z => z) (pe_glob rfl T.h_BedFault.choose_spec.1 rfl) T.b_isinstance (ped_var 1)))))))))) hdd_nil))
      (psd_one (psd_ret ped_bl)))
abbrev s_refused_by_any : Stmt := top 27
theorem sc_refused_by_any : FnScope ["text"] ["text"] (defScope s_refused_by_any) := ⟨rfl, rfl, rfl, by decide +kernel, rfl, by decide +kernel, by decide +kernel⟩
def b_refused_by_any : DM Fl :=
    (fSeq (fTryE (fCallX 1 (fCons (fVar 0) fNil) m_read) fNext (fun c => match tab_LoopError c with | some true => (fRet (fC (.bl true))) | some false => (fun _ _ => .un) c | none => fun _ => .un))
    (fRet (fC (.bl false))))
def m_refused_by_any : List D → Ro := runP b_refused_by_any 1
theorem ok_refused_by_any {f : Addr} {fd : FuncData} (F : Fun K "_law_refused_by_any" "_law_refused_by_any" s_refused_by_any f fd) (T : Txt K mg) (F_read : DefX P w K mg base 4 "read" 1 m_read) : FnOk P w K mg base CX0 5 f fd ["text"] (spP K (fun _ => .none) 1 m_refused_by_any) :=
  fnP F sc_refused_by_any fun cdv A outer s H E hr =>
      (psd_cons (psd_tryE (pxe_call F_read (hr.mono (by decide)) (pad_cons (ped_var 0) pad_nil)) psd_nil (hdd_cons0 T.h_LoopError.choose_spec.2.1 T.h_LoopError.choose_spec.1 (fun _ => (psd_one (psd_ret ped_bl))) hdd_nil))
      (psd_one (psd_ret ped_bl)))
abbrev s_law : Stmt := top 28
theorem sc_law : FnScope ["script", "lines", "bad", "found"] ["script"] (defScope s_law) := ⟨rfl, rfl, rfl, by decide +kernel, rfl, by decide +kernel, by decide +kernel⟩
def b_law : DM Fl :=
    (fSeq (fSet 1 (fCall 1 (fCons (fVar 0) fNil) m_lines))
    (fSeq (fSet 2 (fBM (fC (.str "\n")) (fCons (fCall 3 (fCons (fVar 1) (fCons (fBin (fCall 2 (fCons (fVar 0) (fCons (fC (.int 3)) fNil)) m_cell_at) (fC (.int 18)) gMod) (fCons (fBin (fCall 2 (fCons (fVar 0) (fCons (fC (.int 4)) fNil)) m_cell_at) (fC (.int 10007)) gMod) fNil))) m_spoiled) fNil) gJoin))
    (fSeq (fIf (fOrT (fNotT (fTest (fCall 1 (fCons (fVar 2) fNil) m_refused))) (fNotT (fTest (fCall 1 (fCons (fVar 2) fNil) m_refused_by_any)))) (fRet (fC (.bl false))) fNext)
    (fSeq (fSet 3 (fCall 1 (fCons (fBM (fC (.str "\n")) (fCons (fVar 1) fNil) gJoin) fNil) m_read))
    (fRet (fAndV (fUn (fVar 3) (gIs "list")) (fBin (fCB (fCons (fVar 3) fNil) gLen) (fCB (fCons (fVar 1) fNil) gLen) gEq)))))))
def m_law : List D → Ro := runP b_law 4
theorem ok_law {f : Addr} {fd : FuncData} (F : Fun K "law" "law" s_law f fd) (T : Txt K mg) (F_lines : DefP P w K mg base 2 "_law_lines" 1 m_lines) (F_read : DefX P w K mg base 4 "read" 1 m_read) (F_spoiled : DefP P w K mg base 2 "_law_spoiled" 3 m_spoiled) (F_refused : DefP P w K mg base 5 "_law_refused" 1 m_refused) (F_refused_by_any : DefP P w K mg base 5 "_law_refused_by_any" 1 m_refused_by_any) (F_cell_at : DefP P w K mg base 1 "_law_cell_at" 2 m_cell_at) : FnOk P w K mg base CX0 6 f fd ["script"] (spP K (fun _ => .none) 1 m_law) :=
  fnP F sc_law fun cdv A outer s H E hr =>
      (psd_cons (psd_set 1 sc_law.nd (ped_call F_lines (hr.mono (by decide)) (pad_cons (ped_var 0) pad_nil)))
      (psd_cons (psd_set 2 sc_law.nd (ped_bm md_join PySem.F.slot_str_join PySem.F.type_str_join ped_str (pad_cons (ped_call F_spoiled (hr.mono (by decide)) (pad_cons (ped_var 1) (pad_cons (ped_bin bin_mod (ped_call F_cell_at (hr.mono (by decide)) (pad_cons (ped_var 0) (pad_cons ped_int pad_nil))) ped_int) (pad_cons (ped_bin bin_mod (ped_call F_cell_at (hr.mono (by decide)) (pad_cons (ped_var 0) (pad_cons ped_int pad_nil))) ped_int) pad_nil)))) pad_nil)))
      (psd_cons (psd_if (ptd_bool (pwd_or (ptd_not (ptd_val (ped_call F_refused (hr.mono (by decide)) (pad_cons (ped_var 2) pad_nil)))) (pwd_or1 (ptd_not (ptd_val (ped_call F_refused_by_any (hr.mono (by decide)) (pad_cons (ped_var 2) pad_nil))))))) (psd_one (psd_ret ped_bl)) psd_nil)
      (psd_cons (psd_set 3 sc_law.nd (ped_callZ F_read (hr.mono (by decide)) (pad_cons (ped_bm md_join PySem.F.slot_str_join PySem.F.type_str_join ped_str (pad_cons (ped_var 1) pad_nil)) pad_nil)))
      (psd_one (psd_ret (ped_and (ped_isi T.b_isinstance T.b_list bo_list (ped_var 3)) (ped_one (ped_cmp (cmp_eq hr.units) (ped_cb cb_len T.b_len bo_len (pad_cons (ped_var 3) pad_nil)) (ped_cb cb_len T.b_len bo_len (pad_cons (ped_var 1) pad_nil)) (nomark _))))))))))
end
end Lw
local macro_rules | `(tactic| walk_at "ev1") => `(tactic| first
  | with_reducible exact DL.ev_c | with_reducible exact DL.ev_nil | with_reducible exact DL.ev_next | with_reducible exact DL.ev_nopart
  | ((with_reducible apply DL.ev_var); rfl) | ((with_reducible apply DL.ev_slot); rfl)
  | ((with_reducible change DL.res _ _ = _); rfl) | ((with_reducible change DL.norm _ = _); rfl) | ((with_reducible change DL.valsOf _ = _); rfl) | ((with_reducible change DL.resAll _ _ = _); rfl)
  | with_reducible assumption
  | ((with_reducible change DL.loopD _ _ _ _ = _); assumption) | ((with_reducible change DL.whileD _ _ _ _ = _); assumption) | ((with_reducible change DL.compD _ _ _ _ _ _ = _); assumption)
  | with_reducible apply DL.ev_bin | with_reducible apply DL.ev_cons | with_reducible apply DL.ev_un | with_reducible apply DL.ev_cb
  | with_reducible apply DL.ev_seqK | with_reducible apply DL.seqK_nx | with_reducible exact DL.seqK_rt | with_reducible exact DL.seqK_rto | with_reducible apply DL.ev_set | with_reducible apply DL.ev_setO | with_reducible apply DL.ev_tup | with_reducible apply DL.ev_lst
  | with_reducible apply DL.ev_test | with_reducible apply DL.ev_lc | with_reducible apply DL.ev_rng1 | with_reducible apply DL.ev_rng2 | with_reducible apply DL.ev_it | with_reducible apply DL.ev_enum | ((with_reducible apply DL.ev_rev); rfl) | ((with_reducible apply DL.ev_extend); rfl) | with_reducible apply DL.ev_for
  | with_reducible apply DL.ev_if | with_reducible apply DL.ev_and | with_reducible apply DL.ev_or | with_reducible apply DL.ev_ifE | with_reducible apply DL.ev_andTg | with_reducible apply DL.ev_orTg
  | ((with_reducible apply DL.ev_iteT); first | with_reducible assumption | decide | with_unfolding_all rfl) | ((with_reducible apply DL.ev_iteF); first | with_reducible assumption | decide | with_unfolding_all rfl)
  | with_reducible apply DL.ev_bm | with_reducible apply DL.ev_slice | with_reducible apply DL.ev_part | with_reducible apply DL.ev_not | with_reducible apply DL.ev_notT
  | ((with_reducible apply DL.ev_app); rfl)
  | with_reducible apply DL.ev_run | with_reducible apply DL.ev_runO | with_reducible apply DL.ev_runX | with_reducible apply DL.ev_runXO | with_reducible apply DL.ev_retK | with_reducible exact DL.retK_val | with_reducible exact DL.retK_own | ((with_reducible apply DL.retK_slot); rfl) | ((with_reducible change DL.valsY _ _ _ = _); rfl) | with_reducible exact DL.rnRs_ok | with_reducible exact DL.rnRs_own | with_reducible exact DL.roRs_ok | with_reducible exact DL.roRs_own
  | with_reducible apply DL.og_addS | with_reducible apply DL.og_addL | with_reducible exact DL.og_addI | with_reducible apply DL.og_mul | with_reducible apply DL.og_div | with_reducible apply DL.og_mod
  | with_reducible exact DL.og_ixL0 | with_reducible apply DL.og_join | with_reducible apply DL.og_lenS | with_reducible exact DL.og_slL | with_reducible apply DL.og_strI | with_reducible apply DL.og_eq | with_reducible apply DL.og_ne
  | with_reducible apply DL.ev_callG | with_reducible apply DL.ev_callN
  | ((with_reducible change DL.gIs _ _ = _); first | with_reducible exact DL.gis_int_non | with_reducible exact DL.gis_int_bl | with_reducible exact DL.gis_int_int | with_reducible exact DL.gis_int_str | with_reducible exact DL.gis_int_tup | with_reducible exact DL.gis_int_lst | with_reducible exact DL.gis_bool_non | with_reducible exact DL.gis_bool_bl | with_reducible exact DL.gis_bool_int | with_reducible exact DL.gis_bool_str | with_reducible exact DL.gis_bool_tup | with_reducible exact DL.gis_bool_lst | with_reducible exact DL.gis_str_non | with_reducible exact DL.gis_str_bl | with_reducible exact DL.gis_str_int | with_reducible exact DL.gis_str_str | with_reducible exact DL.gis_str_tup | with_reducible exact DL.gis_str_lst | with_reducible exact DL.gis_list_non | with_reducible exact DL.gis_list_bl | with_reducible exact DL.gis_list_int | with_reducible exact DL.gis_list_str | with_reducible exact DL.gis_list_tup | with_reducible exact DL.gis_list_lst | with_reducible exact DL.gis_tuple_non | with_reducible exact DL.gis_tuple_bl | with_reducible exact DL.gis_tuple_int | with_reducible exact DL.gis_tuple_str | with_reducible exact DL.gis_tuple_tup | with_reducible exact DL.gis_tuple_lst)
  | rfl
  | ((with_reducible apply DL.og_cmulL) <;> omega) | ((with_reducible apply DL.og_cmulR) <;> omega) | ((with_reducible apply DL.og_small) <;> omega)
  | exact Nat.le_of_ble_eq_true rfl
  | (unfold PySem.sizeLine; omega)
  | assumption)
local macro_rules | `(tactic| walk_at "ev") => `(tactic| repeat walk_at "ev1")
namespace Lw
open PySem L2 DL
def cellv (ns : List Int) (k : Int) : Int := if k < ns.length then ns.getD k.toNat 0 else 0
theorem m_cell (ns : List Int) (k : Int) (hk : 0 ≤ k) : m_cell_at [.scr ns, .int k] = .ok (.int (cellv ns k)) := by
  unfold m_cell_at b_cell_at cellv
  by_cases h : k < ns.length
  · have e : gIx (.scr ns) (.int k) = some (.val (.int (ns.getD k.toNat 0))) := by
      show (atI ns k).map _ = _
      unfold atI ixN
      rw [if_pos hk, if_pos h]
      have : k.toNat < ns.length := by omega
      show (ns[k.toNat]?).map _ = _
      rw [List.getD_eq_getElem?_getD, List.getElem?_eq_getElem this]; rfl
    rw [if_pos h]
    have hb : lt k ns.length = true := decide_eq_true h
    walk_at "ev"
  · rw [if_neg h]
    have hb : lt k ns.length = false := decide_eq_false h
    walk_at "ev"
def mixv (c k : Int) : Int :=
  let s1 := (c + 7919 * (k + 3)) % 2147483647
  let s2 := (s1 * s1 + 104729 * k + 5) % 2147483629
  s2 * s2 % 2147483587
theorem m_mixv (c k : Int) : m_mix [.int c, .int k] = .ok (.int (mixv c k)) := by
  unfold m_mix b_mix mixv
  walk_at "ev"
def yarns : List Str := ["a", "b", "c", "d", "e", "f"]
def codes : List Nat := [107, 112, 116, 115, 108, 114, 111]
def stitchs : List Str := ["k", "p", "t", "s", "l", "r", "o"]
theorem ix_yarn (x : Int) : ∃ y : Str, gIx (.str "abcdef") (.int (x % 6)) = some (.val (.str y)) ∧ y ∈ yarns := by
  have : x % 6 = 0 ∨ x % 6 = 1 ∨ x % 6 = 2 ∨ x % 6 = 3 ∨ x % 6 = 4 ∨ x % 6 = 5 := by omega
  rcases this with h | h | h | h | h | h <;> rw [h]
  · exact ⟨"a", by kernel_rfl, by decide +kernel⟩
  · exact ⟨"b", by kernel_rfl, by decide +kernel⟩
  · exact ⟨"c", by kernel_rfl, by decide +kernel⟩
  · exact ⟨"d", by kernel_rfl, by decide +kernel⟩
  · exact ⟨"e", by kernel_rfl, by decide +kernel⟩
  · exact ⟨"f", by kernel_rfl, by decide +kernel⟩
theorem ix_sign (x : Int) : ∃ y : Str, gIx (.str "kptslro") (.int (x % 7)) = some (.val (.str y)) ∧ y ∈ stitchs := by
  have : x % 7 = 0 ∨ x % 7 = 1 ∨ x % 7 = 2 ∨ x % 7 = 3 ∨ x % 7 = 4 ∨ x % 7 = 5 ∨ x % 7 = 6 := by omega
  rcases this with h | h | h | h | h | h | h <;> rw [h]
  · exact ⟨"k", by kernel_rfl, by decide +kernel⟩
  · exact ⟨"p", by kernel_rfl, by decide +kernel⟩
  · exact ⟨"t", by kernel_rfl, by decide +kernel⟩
  · exact ⟨"s", by kernel_rfl, by decide +kernel⟩
  · exact ⟨"l", by kernel_rfl, by decide +kernel⟩
  · exact ⟨"r", by kernel_rfl, by decide +kernel⟩
  · exact ⟨"o", by kernel_rfl, by decide +kernel⟩
theorem yarn_len {y : Str} (h : y ∈ yarns) : y.length = 1 := (by decide +kernel : ∀ y ∈ yarns, y.length = 1) y h
theorem stitch_len {y : Str} (h : y ∈ stitchs) : y.length = 1 := (by decide +kernel : ∀ y ∈ stitchs, y.length = 1) y h
theorem stitch_code {y : Str} (h : y ∈ stitchs) : ∀ c ∈ y.cps.toList, c ∈ codes := (by decide +kernel : ∀ y ∈ stitchs, ∀ c ∈ y.cps.toList, c ∈ codes) y h
abbrev castD (many : Int) (y : Str) : D := .tup [.str "cast", .int many, .str y]
abbrev rowD (r : Str × Str) : D := .tup [.str "row", .str r.1, .str r.2]
structure RowOk (r : Str × Str) : Prop where
  yy : r.1 ∈ yarns
  s : r.2.length ≤ 24
  s1 : 1 ≤ r.2.length
  l : ∀ c ∈ r.2.cps.toList, c ∈ codes
theorem RowOk.y {r : Str × Str} (h : RowOk r) : r.1.length = 1 := yarn_len h.yy
theorem join_emp : ∀ ys : List Str, (Str.join (Str.ofString "") ys).cps.toList = (ys.map fun y => y.cps.toList).flatten
  | [] => by decide +kernel
  | [y] => by simp [Str.join]
  | y :: z :: r => by
    show ((y ++ Str.ofString "") ++ Str.join (Str.ofString "") (z :: r)).cps.toList = _
    rw [Str.cps_append, Str.cps_append, Array.toList_append, Array.toList_append, join_emp (z :: r)]
    have : (Str.ofString "").cps.toList = [] := by decide +kernel
    rw [this, List.append_nil]; rfl
theorem join_emp_len (ys : List Str) (h : ∀ y ∈ ys, y.length = 1) : (Txt.join (Str.ofString "") ys).length = ys.length := by
  rw [txt_join]
  have e : (Str.join (Str.ofString "") ys).length = (Str.join (Str.ofString "") ys).cps.toList.length := by simp [Str.length]
  rw [e, join_emp]
  clear e
  induction ys with
  | nil => rfl
  | cons y ys ih =>
    rw [List.map_cons, List.flatten_cons, List.length_append, ih fun z hz => h z (List.mem_cons_of_mem _ hz), List.length_cons]
    have : y.cps.toList.length = 1 := by have := h y List.mem_cons_self; simpa [Str.length] using this
    omega
def fSign : DM DV := (fBin (fC (.str "kptslro")) (fBin (fBin (fCall 2 (fCons (fVar 1) (fCons (fVar 0) fNil)) m_mix) (fC (.int 13)) gDiv) (fC (.int 7)) gMod) gIx)
theorem signs (cell : Int) (n : Nat) (hn : n ≤ 24) : ∃ ys : List Str, compD (sName 0) (.ret true) fSign (rangeD 0 n) [.no, .sh (.int cell)] [] = some (ys.map D.str) ∧ (∀ y ∈ ys, y ∈ stitchs) ∧ ys.length = n := by
  let g : D → Str := fun d => match d with | .int j => (ix_sign (mixv cell j / 13)).choose | _ => Str.empty
  refine ⟨(rangeD 0 n).map g, ?_, ?_, by rw [List.length_map, rangeD_len]⟩
  · rw [comp_map (g := fun d => .str (g d)) (rangeD 0 n) .no (by rw [rangeD_len]; unfold sizeLine; omega) ?_, List.map_map]
    · rfl
    · intro d hd
      obtain ⟨k, hk, rfl⟩ := range0_mem hd
      have h1 := m_mixv cell k
      have h2 := (ix_sign (mixv cell k / 13)).choose_spec.1
      have h3 : fSign [.sh (.int k), .sh (.int cell)] = .ok (.val (.str (g (.int k)))) [.sh (.int k), .sh (.int cell)] := by
        unfold fSign
        walk_at "ev"
      unfold fN DM.bd
      rw [h3]
      rfl
  · intro y hy
    obtain ⟨d, hd, rfl⟩ := List.mem_map.mp hy
    obtain ⟨k, hk, rfl⟩ := range0_mem hd
    exact (ix_sign (mixv cell k / 13)).choose_spec.2
theorem sum_ones : ∀ {ys : List Str}, (∀ y ∈ ys, y.length = 1) → (ys.map (·.length)).sum = ys.length
  | [], _ => rfl
  | y :: ys, h => by
    rw [List.map_cons, List.sum_cons, sum_ones fun z hz => h z (List.mem_cons_of_mem _ hz), h y List.mem_cons_self, List.length_cons]
    omega
theorem join_len (sep : Str) (ys : List Str) : (Txt.join sep ys).length ≤ (ys.map (·.length)).sum + ys.length * sep.length := by
  rw [txt_join]; exact StrLaws.join_length_le sep ys
theorem num_len {many : Int} (h1 : 1 ≤ many) (h2 : many ≤ 16) : (Str.ofString (toString many)).length ≤ 4 ∧ many.natAbs.log2 < 1920 := by
  have : many = 1 ∨ many = 2 ∨ many = 3 ∨ many = 4 ∨ many = 5 ∨ many = 6 ∨ many = 7 ∨ many = 8 ∨ many = 9 ∨ many = 10 ∨ many = 11 ∨ many = 12 ∨ many = 13 ∨ many = 14 ∨ many = 15 ∨ many = 16 := by omega
  rcases this with rfl | rfl | rfl | rfl | rfl | rfl | rfl | rfl | rfl | rfl | rfl | rfl | rfl | rfl | rfl | rfl <;> exact ⟨by decide +kernel, by decide +kernel⟩
theorem l_cast : (Str.ofString "cast").length = 4 := by decide +kernel
theorem l_row : (Str.ofString "row").length = 3 := by decide +kernel
theorem l_sp : (Str.ofString " ").length = 1 := by decide +kernel
theorem l_nl : (Str.ofString "\n").length = 1 := by decide +kernel
theorem l_castS : (Str.ofString "cast ").length = 5 := by decide +kernel
theorem l_rowS : (Str.ofString "row ").length = 4 := by decide +kernel
theorem list_cut {c : Nat} : ∀ {xs ys us vs : List Nat}, c ∉ xs → c ∉ ys → xs ++ c :: us = ys ++ c :: vs → xs = ys ∧ us = vs
  | [], [], _, _, _, _, e => ⟨rfl, by simpa using e⟩
  | [], y :: ys, _, _, _, h2, e => by
    simp only [List.nil_append, List.cons_append, List.cons.injEq] at e
    exact absurd (List.mem_cons.mpr (.inl e.1)) h2
  | x :: xs, [], _, _, h1, _, e => by
    simp only [List.nil_append, List.cons_append, List.cons.injEq] at e
    exact absurd (List.mem_cons.mpr (.inl e.1.symm)) h1
  | x :: xs, y :: ys, us, vs, h1, h2, e => by
    simp only [List.cons_append, List.cons.injEq] at e
    obtain ⟨q1, q2⟩ := list_cut (fun z => h1 (List.mem_cons_of_mem _ z)) (fun z => h2 (List.mem_cons_of_mem _ z)) e.2
    exact ⟨by rw [e.1, q1], q2⟩
theorem str_ext {a b : Str} (h : a.cps.toList = b.cps.toList) : a = b := Str.ext' (Array.toList_inj.mp h)
theorem join_toList (c : Nat) (x y : Str) (r : List Str) : (Str.join ⟨#[c]⟩ (x :: y :: r)).cps.toList = x.cps.toList ++ c :: (Str.join ⟨#[c]⟩ (y :: r)).cps.toList := by
  show ((x ++ (⟨#[c]⟩ : Str)) ++ Str.join ⟨#[c]⟩ (y :: r)).cps.toList = _
  rw [Str.cps_append, Str.cps_append, Array.toList_append, Array.toList_append]
  simp
theorem join_inj (c : Nat) : ∀ (xs ys : List Str), xs ≠ [] → ys ≠ [] → (∀ p ∈ xs, c ∉ p.cps.toList) → (∀ p ∈ ys, c ∉ p.cps.toList) → (Str.join ⟨#[c]⟩ xs).cps.toList = (Str.join ⟨#[c]⟩ ys).cps.toList → xs = ys
  | [], _, h, _, _, _, _ => absurd rfl h
  | _ :: _, [], _, h, _, _, _ => absurd rfl h
  | [x], [y], _, _, _, _, e => by rw [str_ext (show x.cps.toList = y.cps.toList from e)]
  | [x], y :: z :: r, _, _, h1, _, e => by
    rw [join_toList] at e
    have e : x.cps.toList = _ := e
    exact absurd (by rw [e]; simp) (h1 x List.mem_cons_self)
  | x :: z :: r, [y], _, _, _, h2, e => by
    rw [join_toList] at e
    have e : _ = y.cps.toList := e
    exact absurd (by rw [← e]; simp) (h2 y List.mem_cons_self)
  | x :: x2 :: r, y :: y2 :: q, _, _, h1, h2, e => by
    rw [join_toList, join_toList] at e
    obtain ⟨e1, e2⟩ := list_cut (h1 x List.mem_cons_self) (h2 y List.mem_cons_self) e
    rw [str_ext e1, join_inj c (x2 :: r) (y2 :: q) (by simp) (by simp) (fun p hp => h1 p (List.mem_cons_of_mem _ hp)) (fun p hp => h2 p (List.mem_cons_of_mem _ hp)) e2]
theorem split_join (c : Nat) (ls : List Str) (h : ls ≠ []) (hf : ∀ p ∈ ls, c ∉ p.cps.toList) : Txt.split (Str.join ⟨#[c]⟩ ls) ⟨#[c]⟩ = ls := by
  refine join_inj c _ ls ?_ h (StrLaws.split_free _ c) hf ?_
  · intro e
    have := PyProof.Rows.split_pos (Str.join ⟨#[c]⟩ ls) ⟨#[c]⟩
    rw [e] at this
    exact absurd this (by decide)
  · rw [StrLaws.join_split]
theorem nl_is : Str.ofString "\n" = ⟨#[10]⟩ := by decide +kernel
theorem sp_is : Str.ofString " " = ⟨#[32]⟩ := by decide +kernel
def line3 (a b c : Str) : Str := Str.join (Str.ofString " ") [a, b, c]
theorem line3_eq (a b c : Str) : line3 a b c = a ++ Str.ofString " " ++ (b ++ Str.ofString " " ++ c) := rfl
def numS (many : Int) : Str := Str.ofString (toString many)
theorem num_cases {P : Int → Prop} (h : ∀ i ∈ [1, 2, 3, 4, 5, 6, 7, 8, 9, 10, 11, 12, 13, 14, 15, 16], P i) {many : Int} (h1 : 1 ≤ many) (h2 : many ≤ 16) : P many := by
  refine h many ?_
  have : many = 1 ∨ many = 2 ∨ many = 3 ∨ many = 4 ∨ many = 5 ∨ many = 6 ∨ many = 7 ∨ many = 8 ∨ many = 9 ∨ many = 10 ∨ many = 11 ∨ many = 12 ∨ many = 13 ∨ many = 14 ∨ many = 15 ∨ many = 16 := by omega
  rcases this with rfl | rfl | rfl | rfl | rfl | rfl | rfl | rfl | rfl | rfl | rfl | rfl | rfl | rfl | rfl | rfl <;> decide
theorem num_free {many : Int} (h1 : 1 ≤ many) (h2 : many ≤ 16) : (∀ c ∈ [10, 32], c ∉ (numS many).cps.toList) ∧ (numS many).length ≤ 4 :=
  num_cases (P := fun i => (∀ c ∈ [10, 32], c ∉ (numS i).cps.toList) ∧ (numS i).length ≤ 4) (by decide +kernel) h1 h2
theorem yarn_free {y : Str} (h : y ∈ yarns) : ∀ c ∈ [10, 32], c ∉ y.cps.toList := (by decide +kernel : ∀ y ∈ yarns, ∀ c ∈ [10, 32], c ∉ y.cps.toList) y h
theorem code_free : ∀ c ∈ [10, 32], c ∉ codes := by decide +kernel
theorem st_free {r : Str × Str} (h : RowOk r) : ∀ c ∈ [10, 32], c ∉ r.2.cps.toList := fun c hc z => code_free c hc (h.l c z)
theorem w_free : (∀ c ∈ [10, 32], c ∉ (Str.ofString "cast").cps.toList) ∧ ∀ c ∈ [10, 32], c ∉ (Str.ofString "row").cps.toList := by decide +kernel
theorem line3_free {a b c : Str} (ha : 10 ∉ a.cps.toList) (hb : 10 ∉ b.cps.toList) (hc : 10 ∉ c.cps.toList) : 10 ∉ (line3 a b c).cps.toList := by
  unfold line3
  rw [sp_is, join_toList, join_toList]
  show 10 ∉ a.cps.toList ++ 32 :: (b.cps.toList ++ 32 :: c.cps.toList)
  simp [ha, hb, hc]
theorem line3_split {a b c : Str} (ha : 32 ∉ a.cps.toList) (hb : 32 ∉ b.cps.toList) (hc : 32 ∉ c.cps.toList) : Txt.split (line3 a b c) (Str.ofString " ") = [a, b, c] := by
  unfold line3
  rw [sp_is]
  refine split_join 32 _ (by simp) fun p hp => ?_
  simp at hp
  rcases hp with rfl | rfl | rfl <;> assumption
theorem line3_len (a b c : Str) : (line3 a b c).length = a.length + b.length + c.length + 2 := by
  rw [line3_eq]; simp only [str_len, l_sp]; omega
abbrev castL (many : Int) (y : Str) : Str := line3 "cast" (numS many) y
abbrev rowL (r : Str × Str) : Str := line3 "row" r.1 r.2
theorem cast_sp : Str.ofString "cast" ++ Str.ofString " " = Str.ofString "cast " := by decide +kernel
theorem row_sp : Str.ofString "row" ++ Str.ofString " " = Str.ofString "row " := by decide +kernel
theorem og_split {s sep : Str} {ls : List Str} (h0 : (sep.length == 0) = false) (h1 : s.length ≤ sizeLine) (h2 : Txt.split s sep = ls) (h3 : ls.length ≤ sizeLine) : gSplit (.str s) [.str sep] = some (.own (ls.map D.str)) := by
  unfold gSplit
  simp only [h0, Bool.false_eq_true, if_false, h2, h1, h3, and_self, if_true]
theorem words_of {a b c : Str} (ha : 32 ∉ a.cps.toList) (hb : 32 ∉ b.cps.toList) (hc : 32 ∉ c.cps.toList) (hl : (line3 a b c).length ≤ 1000) : m_words_behind [.str a, .str (line3 a b c)] = .own [.str b, .str c] := by
  have h1 : gSplit (.str (line3 a b c)) [.str (Str.ofString " ")] = some (.own [.str a, .str b, .str c]) := og_split (ls := [a, b, c]) (by decide +kernel) (by unfold sizeLine; omega) (line3_split ha hb hc) (by show 3 ≤ sizeLine; decide)
  have h2 : gNe (.int 3) (.int 3) = some (.val (.bl false)) := og_ne (deq_self 8 _ rfl)
  have h3 : gNe (.str a) (.str a) = some (.val (.bl false)) := og_ne (deq_self 8 _ rfl)
  have h4 : gIx (.lst [.str a, .str b, .str c]) (.int 0) = some (.val (.str a)) := og_ixL0
  have h5 : gLen [.lst [.str a, .str b, .str c]] = some (.val (.int 3)) := rfl
  have h6 : gSlice (.lst [.str a, .str b, .str c]) (some 1) none = some (.own [.str b, .str c]) := rfl
  unfold m_words_behind b_words_behind
  walk_at "ev"
theorem read_many_of {many : Int} (h1 : 1 ≤ many) (h2 : many ≤ 16) : m_read_many [.str (numS many)] = .ok (.int many) := by
  have : many = 1 ∨ many = 2 ∨ many = 3 ∨ many = 4 ∨ many = 5 ∨ many = 6 ∨ many = 7 ∨ many = 8 ∨ many = 9 ∨ many = 10 ∨ many = 11 ∨ many = 12 ∨ many = 13 ∨ many = 14 ∨ many = 15 ∨ many = 16 := by omega
  rcases this with rfl | rfl | rfl | rfl | rfl | rfl | rfl | rfl | rfl | rfl | rfl | rfl | rfl | rfl | rfl | rfl <;> kernel_rfl
theorem read_yarn_of {y : Str} (h : y ∈ yarns) : m_read_yarn [.str y] = .ok (.str y) := by
  have h1 : gNotIn (.str y) c_YARNS = some (.val (.bl false)) := by
    show some (DV.val (D.bl (!memS y yarns))) = _
    rw [show memS y yarns = true from List.any_eq_true.mpr ⟨y, h, decide_eq_true rfl⟩]
    rfl
  unfold m_read_yarn b_read_yarn
  walk_at "ev"
theorem is_stitch_of {c : Nat} (h : c ∈ codes) : m_is_stitch [.str ⟨#[c]⟩] = .ok (.bl true) := by
  have h1 : gTabIn c_TAKES (.str ⟨#[c]⟩) = some (.val (.bl true)) := by
    show some (DV.val (D.bl (tabAt ⟨#[c]⟩ c_TAKES).isSome)) = _
    rw [(by decide +kernel : ∀ c ∈ codes, (tabAt ⟨#[c]⟩ c_TAKES).isSome = true) c h]
  unfold m_is_stitch b_is_stitch
  walk_at "ev"
theorem bls_true : ∀ (ds : List D), blsOf (ds.map fun _ => D.bl true) = some (ds.map fun _ => true)
  | [] => rfl
  | d :: ds => by
    show (blsOf (ds.map fun _ => D.bl true)).map _ = _
    rw [bls_true ds]; rfl
theorem read_st_of {r : Str × Str} (h : RowOk r) : m_read_stitches [.str r.2] = .ok (.str r.2) := by
  have h1 := h.s
  have h2 := h.s1
  have g1 : gLen [.str r.2] = some (.val (.int r.2.length)) := og_lenS (by unfold sizeLine; omega)
  have g2 : lt (r.2.length : Int) 1 = false := decide_eq_false (by omega)
  have g3 : gt (r.2.length : Int) 24 = false := decide_eq_false (by omega)
  have hlen : (strItems r.2).length = r.2.length := by unfold strItems; rw [List.length_map]; simp [Str.length]
  have g4 : compD (sName 0) (.ret true) (fCall 1 (fCons (fVar 0) fNil) m_is_stitch) (strItems r.2) [.no] [] = some ((strItems r.2).map fun _ => D.bl true) := by
    rw [comp_map (g := fun _ => .bl true) (strItems r.2) .no (by rw [hlen]; unfold sizeLine; omega) ?_]
    intro d hd
    obtain ⟨c, hc, rfl⟩ := List.mem_map.mp hd
    have e1 := is_stitch_of (h.l c hc)
    have h3 : (fCall 1 (fCons (fVar 0) fNil) m_is_stitch) [.sh (.str ⟨#[c]⟩)] = .ok (.val (.bl true)) [.sh (.str ⟨#[c]⟩)] := by walk_at "ev"
    unfold fN DM.bd
    rw [h3]
    rfl
  have g5 : gAll [.lst ((strItems r.2).map fun _ => D.bl true)] = some (.val (.bl true)) := by
    show (blsOf _).map _ = _
    rw [bls_true]
    show some (DV.val (.bl (List.all _ id))) = _
    rw [List.all_map, (List.all_eq_true.mpr fun _ _ => rfl : List.all (strItems r.2) (id ∘ fun _ => true) = true)]
  unfold m_read_stitches b_read_stitches
  walk_at "ev"
theorem read_cast_of {many : Int} {y : Str} (h1 : 1 ≤ many) (h2 : many ≤ 16) (hy : y ∈ yarns) : m_read_cast [.str (castL many y)] = .ok (castD many y) := by
  have n := num_free h1 h2
  have g0 : (castL many y).length ≤ 1000 := by rw [line3_len, l_cast, yarn_len hy]; omega
  have g1 := words_of (w_free.1 32 (by decide)) (n.1 32 (by decide)) (yarn_free hy 32 (by decide)) g0
  have g2 := read_many_of h1 h2
  have g3 := read_yarn_of hy
  have g4 : gIx (.lst [.str (numS many), .str y]) (.int 0) = some (.val (.str (numS many))) := og_ixL0
  have g5 : gIx (.lst [.str (numS many), .str y]) (.int 1) = some (.val (.str y)) := rfl
  unfold m_read_cast b_read_cast
  walk_at "ev"
theorem read_row_of {r : Str × Str} (h : RowOk r) : m_read_row [.str (rowL r)] = .ok (rowD r) := by
  have s := h.s
  have g0 : (rowL r).length ≤ 1000 := by rw [line3_len, l_row, h.y]; omega
  have g1 := words_of (w_free.2 32 (by decide)) (yarn_free h.yy 32 (by decide)) (st_free h 32 (by decide)) g0
  have g2 := read_yarn_of h.yy
  have g3 := read_st_of h
  have g4 : gIx (.lst [.str r.1, .str r.2]) (.int 0) = some (.val (.str r.1)) := og_ixL0
  have g5 : gIx (.lst [.str r.1, .str r.2]) (.int 1) = some (.val (.str r.2)) := rfl
  unfold m_read_row b_read_row
  walk_at "ev"
end Lw
namespace Lw
open PySem L2 DL
theorem castL_eq (many : Int) (y : Str) : Str.ofString "cast " ++ Str.ofString (toString many) ++ Str.ofString " " ++ y = castL many y := by
  show _ = line3 _ _ _
  rw [line3_eq, ← cast_sp]
  unfold numS
  simp only [str_assoc]
theorem rowL_eq (y s : Str) : Str.ofString "row " ++ y ++ Str.ofString " " ++ s = rowL (y, s) := by
  show _ = line3 _ _ _
  rw [line3_eq, ← row_sp]
  simp only [str_assoc]
def bLn : DM Fl := (fSeq (fSet 3 (fBin (fCall 2 (fCons (fVar 0) (fCons (fBin (fC (.int 5)) (fVar 2) gAdd) fNil)) m_cell_at) (fBin (fC (.int 5003)) (fVar 2) gMul) gAdd))
    (fSeq (fSet 4 (fBin (fC (.int 1)) (fBin (fBin (fCall 2 (fCons (fVar 3) (fCons (fC (.int 50)) fNil)) m_mix) (fC (.int 7)) gDiv) (fC (.int 24)) gMod) gAdd))
    (fSeq (fSet 5 (fBM (fC (.str "")) (fCons (fLC (fRng1 (fCons (fVar 4) fNil)) (sName 0) (.ret true) fSign [none, some 3]) fNil) gJoin))
    (fApp' 1 (fBin (fBin (fBin (fC (.str "row ")) (fBin (fC (.str "abcdef")) (fBin (fBin (fCall 2 (fCons (fVar 3) (fCons (fC (.int 51)) fNil)) m_mix) (fC (.int 7)) gDiv) (fC (.int 6)) gMod) gIx) gAdd) (fC (.str " ")) gAdd) (fVar 5) gAdd)))))
theorem ln_turn (ns : List Int) (ps : List D) (k : Nat) (a3 a4 a5 : Sl) (hk : k < 13) (hp : ps.length ≤ 100) : ∃ (r : Str × Str) (b3 b4 b5 : Sl), RowOk r ∧
    bLn [.sh (.scr ns), .ow ps, .sh (.int k), a3, a4, a5] = .ok .nx [.sh (.scr ns), .ow (ps ++ [.str (rowL r)]), .sh (.int k), b3, b4, b5] := by
  have h1 := m_cell ns (5 + k) (by omega)
  have h2 := m_mixv (cellv ns (5 + k) + 5003 * (k : Int)) 50
  have h3 := m_mixv (cellv ns (5 + k) + 5003 * (k : Int)) 51
  obtain ⟨y, h4, hy⟩ := ix_yarn (mixv (cellv ns (5 + k) + 5003 * (k : Int)) 51 / 7)
  have hz : 0 ≤ mixv (cellv ns (5 + k) + 5003 * (k : Int)) 50 / 7 % 24 ∧ mixv (cellv ns (5 + k) + 5003 * (k : Int)) 50 / 7 % 24 < 24 := by omega
  obtain ⟨ys, h5, h6', h7⟩ := signs (cellv ns (5 + k) + 5003 * (k : Int)) (1 + mixv (cellv ns (5 + k) + 5003 * (k : Int)) 50 / 7 % 24).toNat (by omega)
  have h6 : ∀ y ∈ ys, y.length = 1 := fun y hy => stitch_len (h6' y hy)
  have h9 := strsOf_map ys
  have h10 : (ys.map (·.length)).sum + ys.length * (Str.ofString "").length ≤ 16777216 := by
    rw [sum_ones h6]
    have : (Str.ofString "").length = 0 := by decide +kernel
    rw [this]; omega
  have h11 : (Txt.join (Str.ofString "") ys).length ≤ 24 := by
    refine Nat.le_trans (join_len _ _) ?_
    rw [sum_ones h6]
    have : (Str.ofString "").length = 0 := by decide +kernel
    rw [this]; omega
  have hL := join_emp_len ys h6
  have hC : ∀ c ∈ (Txt.join (Str.ofString "") ys).cps.toList, c ∈ codes := by
    intro c hc
    rw [txt_join, join_emp] at hc
    obtain ⟨l, hl, hc⟩ := List.mem_flatten.mp hc
    obtain ⟨z, hz, rfl⟩ := List.mem_map.mp hl
    exact stitch_code (h6' z hz) c hc
  have h12 : ps.length < sizeLine := by unfold sizeLine; omega
  have hy1 := yarn_len hy
  have g1 : (Str.ofString "row ").length + y.length ≤ sizeLine := by rw [l_rowS]; unfold sizeLine; omega
  have g2 : (Str.ofString "row " ++ y).length + (Str.ofString " ").length ≤ sizeLine := by simp only [str_len, l_rowS, l_sp]; unfold sizeLine; omega
  have g3 : (Str.ofString "row " ++ y ++ Str.ofString " ").length + (Txt.join (Str.ofString "") ys).length ≤ sizeLine := by simp only [str_len, l_rowS, l_sp]; unfold sizeLine; omega
  refine ⟨(y, Txt.join (Str.ofString "") ys), .sh (.int (cellv ns (5 + k) + 5003 * (k : Int))), .sh (.int (1 + mixv (cellv ns (5 + k) + 5003 * (k : Int)) 50 / 7 % 24)), .sh (.str (Txt.join (Str.ofString "") ys)), ⟨hy, h11, by dsimp only; omega, hC⟩, ?_⟩
  rw [← rowL_eq]
  unfold bLn
  apply Eq.trans
  walk_at "ev"
theorem ln_loop (ns : List Int) : ∀ (ks : List D) (ps : List D) (a2 a3 a4 a5 : Sl), (∀ d ∈ ks, ∃ k : Nat, k < 13 ∧ d = .int (k : Int)) → ps.length + ks.length ≤ 100 → ∃ (rs : List (Str × Str)) (b2 b3 b4 b5 : Sl), (∀ r ∈ rs, RowOk r) ∧ rs.length = ks.length ∧
    loopD (sName 2) bLn ks [.sh (.scr ns), .ow ps, a2, a3, a4, a5] = .ok .nx [.sh (.scr ns), .ow (ps ++ (rs.map rowL).map D.str), b2, b3, b4, b5]
  | [], ps, a2, a3, a4, a5, _, _ => ⟨[], a2, a3, a4, a5, (fun _ z => nomatch z), rfl, by rw [List.map_nil, List.map_nil, List.append_nil]; rfl⟩
  | d :: ks, ps, a2, a3, a4, a5, hk, hl => by
    obtain ⟨k, hk1, rfl⟩ := hk d List.mem_cons_self
    rw [List.length_cons] at hl
    obtain ⟨r, b3, b4, b5, hr, e⟩ := ln_turn ns ps k a3 a4 a5 hk1 (by omega)
    obtain ⟨rs, c2, c3, c4, c5, h1, h2, h3⟩ := ln_loop ns ks (ps ++ [.str (rowL r)]) (.sh (.int k)) b3 b4 b5 (fun x hx => hk x (List.mem_cons_of_mem _ hx)) (by rw [List.length_append, List.length_singleton]; omega)
    refine ⟨r :: rs, c2, c3, c4, c5, fun x hx => ?_, by rw [List.length_cons, List.length_cons, h2], ?_⟩
    · rcases List.mem_cons.mp hx with z | z
      · rw [z]; exact hr
      · exact h1 x z
    · refine loop_nx rfl e ?_
      rw [h3, List.map_cons, List.map_cons, List.append_assoc]
      rfl
theorem lines_of (ns : List Int) : ∃ (many : Int) (y : Str) (rs : List (Str × Str)), 1 ≤ many ∧ many ≤ 16 ∧ y ∈ yarns ∧ (∀ r ∈ rs, RowOk r) ∧ rs.length ≤ 5 ∧ m_lines [.scr ns] = .own ((castL many y :: rs.map rowL).map D.str) := by
  have h0 := m_cell ns 0 (by omega)
  have h1 := m_cell ns 1 (by omega)
  have h2 := m_cell ns 2 (by omega)
  obtain ⟨y, h3, hy⟩ := ix_yarn (cellv ns 1)
  obtain ⟨n1, n2⟩ := num_len (many := 1 + cellv ns 0 % 16) (by omega) (by omega)
  have hy1 := yarn_len hy
  obtain ⟨rs, b2, b3, b4, b5, h4, h5, h6⟩ := ln_loop ns (rangeD 0 (cellv ns 2 % 6).toNat) [.str (castL (1 + cellv ns 0 % 16) y)] .no .no .no .no (fun d hd => by
    obtain ⟨k, hk, e⟩ := range0_mem hd
    exact ⟨k, by omega, e⟩) (by rw [rangeD_len, List.length_singleton]; omega)
  rw [rangeD_len] at h5
  refine ⟨1 + cellv ns 0 % 16, y, rs, by omega, by omega, hy, h4, by omega, ?_⟩
  have g1 : (Str.ofString "cast ").length + (Str.ofString (toString (1 + cellv ns 0 % 16))).length ≤ sizeLine := by rw [l_castS]; unfold sizeLine; omega
  have g2 : (Str.ofString "cast " ++ Str.ofString (toString (1 + cellv ns 0 % 16))).length + (Str.ofString " ").length ≤ sizeLine := by simp only [str_len, l_castS, l_sp]; unfold sizeLine; omega
  have g3 : (Str.ofString "cast " ++ Str.ofString (toString (1 + cellv ns 0 % 16)) ++ Str.ofString " ").length + y.length ≤ sizeLine := by simp only [str_len, l_castS, l_sp, hy1]; unfold sizeLine; omega
  unfold bLn fSign at h6
  rw [← castL_eq] at h6
  rw [List.map_cons, ← castL_eq]
  unfold m_lines b_lines
  apply ev_runO
  walk_at "ev"
structure Ln (l : Str) : Prop where
  f : 10 ∉ l.cps.toList
  n : l.length ≤ 40
theorem text_of_lines {ls : List Str} (h0 : ls ≠ []) (hl : ls.length ≤ 20) (hL : ∀ l ∈ ls, Ln l) : (Txt.join (Str.ofString "\n") ls).length ≤ 1000 ∧ gSplit (.str (Txt.join (Str.ofString "\n") ls)) [.str (Str.ofString "\n")] = some (.own (ls.map D.str)) ∧
    gJoin (.str (Str.ofString "\n")) [.lst (ls.map D.str)] = some (.val (.str (Txt.join (Str.ofString "\n") ls))) := by
  have hs : ∀ qs : List Str, (∀ l ∈ qs, Ln l) → (qs.map (·.length)).sum ≤ 40 * qs.length := by
    intro qs
    induction qs with
    | nil => intro _; simp
    | cons q qs ih =>
      intro h
      have := ih fun l z => h l (List.mem_cons_of_mem _ z)
      have := (h q List.mem_cons_self).n
      rw [List.map_cons, List.sum_cons, List.length_cons]
      omega
  have h1 := hs ls hL
  have h2 := join_len (Str.ofString "\n") ls
  rw [l_nl] at h2
  have h3 : (Txt.join (Str.ofString "\n") ls).length ≤ 1000 := by omega
  refine ⟨h3, og_split (by decide +kernel) (by unfold sizeLine; omega) ?_ (by unfold sizeLine; omega), ?_⟩
  · rw [txt_join, nl_is]
    exact split_join 10 _ h0 fun p hp => (hL p hp).f
  · refine og_join (strsOf_map ls) ?_
    rw [l_nl]
    omega
theorem len_strs (ls : List Str) : gLen [.lst (ls.map D.str)] = some (.val (.int (ls.length : Int))) := by
  show some (DV.val (.int _)) = _
  rw [List.length_map]
theorem sl_tail (d : D) (xs : List D) : gSlice (.lst (d :: xs)) (some 1) none = some (.own xs) := by
  rw [og_slL]
  unfold cutD
  have a1 : HT.sIx (d :: xs).length 0 (some 1) = 1 := by
    have := HT.sIx_nat (d :: xs).length 0 1
    rw [List.length_cons] at this ⊢
    exact this.trans (by omega)
  rw [a1, HT.sIx_none]
  show some (DV.own (List.take _ xs)) = _
  rw [List.take_of_length_le (by rw [List.length_cons]; omega)]
theorem sl_take (xs : List D) (n : Nat) (h : n ≤ xs.length) : gSlice (.lst xs) none (some (n : Int)) = some (.own (xs.take n)) := by
  rw [og_slL]
  unfold cutD
  rw [HT.sIx_nat, HT.sIx_none, Nat.sub_zero, List.drop_zero, Nat.min_eq_left h]
theorem sl_drop (xs : List D) (n : Nat) (h : n ≤ xs.length) : gSlice (.lst xs) (some (n : Int)) none = some (.own (xs.drop n)) := by
  rw [og_slL]
  unfold cutD
  rw [HT.sIx_nat, HT.sIx_none, Nat.min_eq_left h, List.take_of_length_le (by rw [List.length_drop]; omega)]
abbrev CB (l : Str) : Prop := m_read_cast [.str l] = .er "NoPattern"
abbrev RB (l : Str) : Prop := m_read_row [.str l] = .er "NoPattern"
def RG (l : Str) : Prop := ∃ d, m_read_row [.str l] = .ok d
def CG (l : Str) : Prop := ∃ d, m_read_cast [.str l] = .ok d
def bRd : DM Fl := (fApp' 2 (fCall 1 (fCons (fVar 3) fNil) m_read_row))
theorem rd_loop (p q : Sl) : ∀ (ls : List Str) (ps : List D) (a : Sl), (∀ l ∈ ls, RG l) → ps.length + ls.length ≤ 100 → ∃ ds b, ds.length = ls.length ∧ loopD (sName 3) bRd (ls.map D.str) [p, q, .ow ps, a] = .ok .nx [p, q, .ow (ps ++ ds), b]
  | [], ps, a, _, _ => ⟨[], a, rfl, by rw [List.map_nil, List.append_nil]; rfl⟩
  | l :: ls, ps, a, h, hl => by
    rw [List.length_cons] at hl
    obtain ⟨d, g1⟩ := h l List.mem_cons_self
    obtain ⟨ds, b, e0, e⟩ := rd_loop p q ls (ps ++ [d]) (.sh (.str l)) (fun x hx => h x (List.mem_cons_of_mem _ hx)) (by rw [List.length_append, List.length_singleton]; omega)
    have g2 : ps.length < sizeLine := by unfold sizeLine; omega
    refine ⟨d :: ds, b, by rw [List.length_cons, List.length_cons, e0], ?_⟩
    rw [List.map_cons]
    refine loop_nx rfl (δ2 := [p, q, .ow (ps ++ [d]), .sh (.str l)]) ?_ ?_
    · unfold bRd
      exact ev_app (i := 2) (es := ps) (ds := ps) rfl (ev_call (ev_cons (ev_var rfl) ev_nil) rfl rfl g1) rfl rfl g2
    · rw [e, List.append_assoc]; rfl
theorem rd_bad (p q : Sl) (b : Str) (hb : RB b) (post : List Str) : ∀ (pre : List Str) (ps : List D) (a : Sl), (∀ l ∈ pre, RG l) → ps.length + pre.length ≤ 100 → loopD (sName 3) bRd ((pre ++ b :: post).map D.str) [p, q, .ow ps, a] = .er "NoPattern"
  | [], ps, a, _, _ => by
    rw [List.nil_append, List.map_cons]
    refine er_loop (δ1 := [p, q, .ow ps, .sh (.str b)]) rfl ?_
    unfold bRd
    exact er_app (i := 2) (es := ps) rfl (er_call (ev_cons (ev_var rfl) ev_nil) rfl rfl hb)
  | l :: pre, ps, a, h, hl => by
    rw [List.length_cons] at hl
    obtain ⟨d, g1⟩ := h l List.mem_cons_self
    have g2 : ps.length < sizeLine := by unfold sizeLine; omega
    rw [List.cons_append, List.map_cons]
    refine loop_nx rfl (δ2 := [p, q, .ow (ps ++ [d]), .sh (.str l)]) ?_ (rd_bad p q b hb post pre (ps ++ [d]) (.sh (.str l)) (fun x hx => h x (List.mem_cons_of_mem _ hx)) (by rw [List.length_append, List.length_singleton]; omega))
    unfold bRd
    exact ev_app (i := 2) (es := ps) (ds := ps) rfl (ev_call (ev_cons (ev_var rfl) ev_nil) rfl rfl g1) rfl rfl g2
def Bad (ls : List Str) : Prop := 13 < ls.length ∨ (ls.length ≤ 13 ∧ ∃ c rs, ls = c :: rs ∧ (CB c ∨ (CG c ∧ ∃ pre b post, rs = pre ++ b :: post ∧ (∀ l ∈ pre, RG l) ∧ RB b)))
theorem read_bad {ls : List Str} (h0 : ls ≠ []) (hl : ls.length ≤ 20) (hL : ∀ l ∈ ls, Ln l) (hb : Bad ls) : m_read [.str (Txt.join (Str.ofString "\n") ls)] = .er "NoPattern" := by
  obtain ⟨h1, g1, _⟩ := text_of_lines h0 hl hL
  have g2 := len_strs ls
  have s1 : (fSet 1 (fBM (fVar 0) (fCons (fC (.str "\n")) fNil) gSplit)) [.sh (.str (Txt.join (Str.ofString "\n") ls)), .no, .no, .no] = .ok .nx [.sh (.str (Txt.join (Str.ofString "\n") ls)), .sh (.lst (ls.map D.str)), .no, .no] := by
    apply Eq.trans
    walk_at "ev"
  unfold m_read b_read
  apply ev_runXe
  apply ev_seqK
  · exact s1
  apply seqK_nx
  have g3 : gAdd (.int 1) (.int 12) = some (.val (.int 13)) := rfl
  rcases hb with hb | ⟨hn, c, rs, rfl, hb⟩
  · have d1 : gt (ls.length : Int) 13 = true := decide_eq_true (by omega)
    refine er_seq (ev_if (ev_test (ev_bin (ev_cb (ev_cons (ev_var rfl) ev_nil) rfl g2) (ev_bin ev_c ev_c rfl rfl g3) rfl rfl rfl) rfl) (ev_iteT d1 (ev_raise rfl)))
  · have d1 : gt ((c :: rs).length : Int) 13 = false := decide_eq_false (by omega)
    refine ev_seqK (ev_if (ev_test (ev_bin (ev_cb (ev_cons (ev_var rfl) ev_nil) rfl g2) (ev_bin ev_c ev_c rfl rfl g3) rfl rfl rfl) rfl) (ev_iteF d1 ev_next)) (seqK_nx ?_)
    have g4 : gIx (.lst ((c :: rs).map D.str)) (.int 0) = some (.val (.str c)) := og_ixL0
    have g5 : gSlice (.lst ((c :: rs).map D.str)) (some 1) none = some (.own (rs.map D.str)) := sl_tail _ _
    rcases hb with hb | ⟨⟨d, hc⟩, pre, b, post, rfl, hp, hb⟩
    · exact er_seq (er_setO (er_lst (er_cons1 (er_call (ev_cons (ev_bin (ev_var rfl) ev_c rfl rfl g4) ev_nil) rfl rfl hb))))
    · refine ev_seqK (ev_setO (ev_lst (ev_cons (ev_call (ev_cons (ev_bin (ev_var rfl) ev_c rfl rfl g4) ev_nil) rfl rfl hc) ev_nil) rfl (Nat.le_of_ble_eq_true rfl))) (seqK_nx ?_)
      have e := rd_bad (.sh (.str (Txt.join (Str.ofString "\n") (c :: (pre ++ b :: post))))) (.sh (.lst ((c :: (pre ++ b :: post)).map D.str))) b hb post pre [d] .no hp (by rw [List.length_cons, List.length_append, List.length_cons] at hn; rw [List.length_singleton]; omega)
      unfold bRd at e
      exact er_seq (ev_for (ev_it (ev_slice (ev_var rfl) (ev_part ev_c rfl) ev_nopart rfl g5) rfl rfl) e)
theorem read_good {c : Str} {rs : List Str} (hl : (c :: rs).length ≤ 13) (hL : ∀ l ∈ c :: rs, Ln l) (hc : CG c) (hr : ∀ l ∈ rs, RG l) : ∃ ds, ds.length = (c :: rs).length ∧ m_read [.str (Txt.join (Str.ofString "\n") (c :: rs))] = .own ds := by
  obtain ⟨h1, g1, _⟩ := text_of_lines (by simp) (by omega) hL
  have g2 := len_strs (c :: rs)
  have g3 : gAdd (.int 1) (.int 12) = some (.val (.int 13)) := rfl
  have d1 : gt ((c :: rs).length : Int) 13 = false := decide_eq_false (by omega)
  have g4 : gIx (.lst ((c :: rs).map D.str)) (.int 0) = some (.val (.str c)) := og_ixL0
  have g5 : gSlice (.lst ((c :: rs).map D.str)) (some 1) none = some (.own (rs.map D.str)) := sl_tail _ _
  obtain ⟨d, hc⟩ := hc
  obtain ⟨ds, b, e0, e⟩ := rd_loop (.sh (.str (Txt.join (Str.ofString "\n") (c :: rs)))) (.sh (.lst ((c :: rs).map D.str))) rs [d] .no hr (by rw [List.length_cons] at hl; rw [List.length_singleton]; omega)
  refine ⟨d :: ds, by rw [List.length_cons, List.length_cons, e0], ?_⟩
  have s1 : (fSet 1 (fBM (fVar 0) (fCons (fC (.str "\n")) fNil) gSplit)) [.sh (.str (Txt.join (Str.ofString "\n") (c :: rs))), .no, .no, .no] = .ok .nx [.sh (.str (Txt.join (Str.ofString "\n") (c :: rs))), .sh (.lst ((c :: rs).map D.str)), .no, .no] := by
    apply Eq.trans
    walk_at "ev"
  unfold bRd at e
  unfold m_read b_read
  apply ev_runXO
  apply ev_seqK
  · exact s1
  apply seqK_nx
  refine ev_seqK (ev_if (ev_test (ev_bin (ev_cb (ev_cons (ev_var rfl) ev_nil) rfl g2) (ev_bin ev_c ev_c rfl rfl g3) rfl rfl rfl) rfl) (ev_iteF d1 ev_next)) (seqK_nx ?_)
  refine ev_seqK (ev_setO (ev_lst (ev_cons (ev_call (ev_cons (ev_bin (ev_var rfl) ev_c rfl rfl g4) ev_nil) rfl rfl hc) ev_nil) rfl (Nat.le_of_ble_eq_true rfl))) (seqK_nx ?_)
  refine ev_seqK (ev_for (ev_it (ev_slice (ev_var rfl) (ev_part ev_c rfl) ev_nopart rfl g5) rfl rfl) e) (seqK_nx ?_)
  walk_at "ev"
end Lw
namespace Lw
open PySem L2 DL
def isEr : Ro → Bool
  | .er c => decide (c = Str.ofString "NoPattern")
  | _ => false
theorem er_of {r : Ro} (h : isEr r = true) : r = .er "NoPattern" := by
  cases r with
  | er c => rw [of_decide_eq_true h]
  | _ => cases h
def lnB (l : Str) : Bool := !l.cps.toList.contains 10 && decide (l.length ≤ 40)
theorem ln_of {l : Str} (h : lnB l = true) : Ln l := by
  unfold lnB at h
  obtain ⟨h1, h2⟩ := Bool.and_eq_true_iff.mp h
  exact ⟨by simpa using h1, of_decide_eq_true h2⟩
theorem ix_of (L : List Str) (x : Int) (n : Int) (hn : n = L.length) (hp : 0 < n) : ∃ s ∈ L, gIx (.lst (L.map D.str)) (.int (x % n)) = some (.val (.str s)) := by
  have h1 : 0 ≤ x % n := Int.emod_nonneg _ (by omega)
  have h2 : x % n < n := Int.emod_lt_of_pos _ hp
  have h3 : (x % n).toNat < L.length := by omega
  exact ⟨L[(x % n).toNat], List.getElem_mem h3, og_ixL (atI_of h1 (by rw [List.getElem?_map, List.getElem?_eq_getElem h3]; rfl))⟩
def L2w : List Str := ["0", "17", "07", "", "+3", "3 3", "x", "00", "1_0", "3\t", "-3"]
def L3w : List Str := ["cast 3 g", "cast 3 ab", "cast 3 ", "cast 3 A", "cast 3 a ", "cast 3", "cast"]
def L8w : List Str := ["row kk", "row", "", " row a kk", "\trow a kk", "row a kk\t"]
theorem bad2 : ∀ s ∈ L2w, isEr (m_read_cast [.str (Str.ofString "cast " ++ s ++ Str.ofString " a")]) = true ∧ lnB (Str.ofString "cast " ++ s ++ Str.ofString " a") = true ∧ s.length ≤ 4 := by decide +kernel
theorem bad3 : ∀ s ∈ L3w, isEr (m_read_cast [.str s]) = true ∧ lnB s = true := by decide +kernel
theorem bad8 : ∀ s ∈ L8w, isEr (m_read_row [.str s]) = true ∧ lnB s = true := by decide +kernel
theorem badC : ∀ s ∈ ([Str.ofString "", Str.ofString "Cast 3 a"] : List Str), isEr (m_read_cast [.str s]) = true ∧ lnB s = true := by decide +kernel
theorem badR : ∀ s ∈ ([Str.ofString "cast 3 a", Str.ofString "", Str.ofString "row a ", Str.ofString "row a kptkptkptkptkptkptkptkpts", Str.ofString "row  c kk", Str.ofString "row g kk", Str.ofString "row ab kk", Str.ofString "Row a kk", Str.ofString "row a kk "] : List Str), isEr (m_read_row [.str s]) = true ∧ lnB s = true := by decide +kernel
def S4 : List Str := ["", "p", "pr", "pro"]
def Z10 : List Str := ["x", "K", "P", "0", "1", "-", "n", ".", " ", "\t"]
abbrev b2S (s z : Str) : Str := Str.ofString "row b " ++ Str.ofString "ksl" ++ s ++ z ++ Str.ofString "kt"
theorem bad22 : ∀ s ∈ S4, ∀ z ∈ Z10, isEr (m_read_row [.str (b2S s z)]) = true ∧ lnB (b2S s z) = true ∧ s.length ≤ 4 ∧ z.length ≤ 4 := by decide +kernel
theorem rowK : isEr (m_read_cast [.str (Str.ofString "row a k")]) = true ∧ lnB (Str.ofString "row a k") = true := by decide +kernel
theorem cast7 : ∀ i ∈ [1, 2, 3, 4, 5, 6, 7, 8, 9, 10, 11, 12, 13, 14, 15, 16], ∀ y ∈ yarns, isEr (m_read_cast [.str (Str.ofString " " ++ castL i y)]) = true ∧ lnB (Str.ofString " " ++ castL i y) = true := by decide +kernel
theorem sl_pro (x : Int) : ∃ s ∈ S4, gSlice (.str (Str.ofString "pro")) none (some (x % 6 % 4)) = some (.val (.str s)) := by
  have : x % 6 % 4 = 0 ∨ x % 6 % 4 = 1 ∨ x % 6 % 4 = 2 ∨ x % 6 % 4 = 3 := by omega
  rcases this with h | h | h | h <;> rw [h]
  · exact ⟨"", by decide +kernel, by kernel_rfl⟩
  · exact ⟨"p", by decide +kernel, by kernel_rfl⟩
  · exact ⟨"pr", by decide +kernel, by kernel_rfl⟩
  · exact ⟨"pro", by decide +kernel, by kernel_rfl⟩
theorem ix_z (x : Int) : ∃ z ∈ Z10, gIx (.str (Str.ofString "xKP01-n. \t")) (.int (x % 10)) = some (.val (.str z)) := by
  have : x % 10 = 0 ∨ x % 10 = 1 ∨ x % 10 = 2 ∨ x % 10 = 3 ∨ x % 10 = 4 ∨ x % 10 = 5 ∨ x % 10 = 6 ∨ x % 10 = 7 ∨ x % 10 = 8 ∨ x % 10 = 9 := by omega
  rcases this with h | h | h | h | h | h | h | h | h | h <;> rw [h]
  · exact ⟨"x", by decide +kernel, by kernel_rfl⟩
  · exact ⟨"K", by decide +kernel, by kernel_rfl⟩
  · exact ⟨"P", by decide +kernel, by kernel_rfl⟩
  · exact ⟨"0", by decide +kernel, by kernel_rfl⟩
  · exact ⟨"1", by decide +kernel, by kernel_rfl⟩
  · exact ⟨"-", by decide +kernel, by kernel_rfl⟩
  · exact ⟨"n", by decide +kernel, by kernel_rfl⟩
  · exact ⟨".", by decide +kernel, by kernel_rfl⟩
  · exact ⟨" ", by decide +kernel, by kernel_rfl⟩
  · exact ⟨"\t", by decide +kernel, by kernel_rfl⟩
abbrev BR (b : Str) : Prop := RB b ∧ Ln b
theorem br_of {b : Str} (h : isEr (m_read_row [.str b]) = true ∧ lnB b = true) : BR b := ⟨er_of h.1, ln_of h.2⟩
theorem bad_row_of (w cell : Int) (h0 : 0 ≤ w) (h8 : w ≤ 8) : ∃ b, m_bad_row [.int w, .int cell] = .ok (.str b) ∧ BR b := by
  have q : ∀ j : Int, gEq (.int w) (.int j) = some (.val (.bl (decide (w = j)))) := fun j => og_eq rfl
  have q0 := q 0
  have q1 := q 1
  have q2 := q 2
  have q3 := q 3
  have q4 := q 4
  have q5 := q 5
  have q6 := q 6
  have q7 := q 7
  have hw : w = 0 ∨ w = 1 ∨ w = 2 ∨ w = 3 ∨ w = 4 ∨ w = 5 ∨ w = 6 ∨ w = 7 ∨ w = 8 := by omega
  have F : ∀ j : Int, w ≠ j → decide (w = j) = false := fun j h => decide_eq_false h
  have T : ∀ j : Int, w = j → decide (w = j) = true := fun j h => decide_eq_true h
  unfold m_bad_row b_bad_row
  rcases hw with h | h | h | h | h | h | h | h | h
  · have t := T 0 h
    exact ⟨Str.ofString "row a ", by apply ev_run; walk_at "ev", br_of (badR _ (by simp))⟩
  · have f0 := F 0 (by omega)
    have t := T 1 h
    have g1 : gMul (.str (Str.ofString "kpt")) (.int 8) = some (.val (.str (Str.ofString "kptkptkptkptkptkptkptkpt"))) := by kernel_rfl
    have g2 : gAdd (.str (Str.ofString "row a ")) (.str (Str.ofString "kptkptkptkptkptkptkptkpt")) = some (.val (.str (Str.ofString "row a kptkptkptkptkptkptkptkpt"))) := by kernel_rfl
    have g3 : gAdd (.str (Str.ofString "row a kptkptkptkptkptkptkptkpt")) (.str (Str.ofString "s")) = some (.val (.str (Str.ofString "row a kptkptkptkptkptkptkptkpts"))) := by kernel_rfl
    exact ⟨Str.ofString "row a kptkptkptkptkptkptkptkpts", by apply ev_run; walk_at "ev", br_of (badR _ (by simp))⟩
  · have f0 := F 0 (by omega)
    have f1 := F 1 (by omega)
    have t := T 2 h
    obtain ⟨s, hs, g1⟩ := sl_pro cell
    obtain ⟨z, hz, g2⟩ := ix_z (cell / 6)
    obtain ⟨b1, b2, b3, b4⟩ := bad22 s hs z hz
    have l1 : (Str.ofString "row b ").length = 6 := by decide +kernel
    have l2 : (Str.ofString "ksl").length = 3 := by decide +kernel
    have l3 : (Str.ofString "kt").length = 2 := by decide +kernel
    have k1 : (Str.ofString "row b ").length + (Str.ofString "ksl").length ≤ sizeLine := by rw [l1, l2]; decide
    have k2 : (Str.ofString "row b " ++ Str.ofString "ksl").length + s.length ≤ sizeLine := by simp only [str_len, l1, l2]; unfold sizeLine; omega
    have k3 : (Str.ofString "row b " ++ Str.ofString "ksl" ++ s).length + z.length ≤ sizeLine := by simp only [str_len, l1, l2]; unfold sizeLine; omega
    have k4 : (Str.ofString "row b " ++ Str.ofString "ksl" ++ s ++ z).length + (Str.ofString "kt").length ≤ sizeLine := by simp only [str_len, l1, l2, l3]; unfold sizeLine; omega
    exact ⟨b2S s z, by apply ev_run; walk_at "ev", br_of ⟨b1, b2⟩⟩
  · have f0 := F 0 (by omega)
    have f1 := F 1 (by omega)
    have f2 := F 2 (by omega)
    have t := T 3 h
    exact ⟨Str.ofString "row  c kk", by apply ev_run; walk_at "ev", br_of (badR _ (by simp))⟩
  · have f0 := F 0 (by omega)
    have f1 := F 1 (by omega)
    have f2 := F 2 (by omega)
    have f3 := F 3 (by omega)
    have t := T 4 h
    exact ⟨Str.ofString "row g kk", by apply ev_run; walk_at "ev", br_of (badR _ (by simp))⟩
  · have f0 := F 0 (by omega)
    have f1 := F 1 (by omega)
    have f2 := F 2 (by omega)
    have f3 := F 3 (by omega)
    have f4 := F 4 (by omega)
    have t := T 5 h
    exact ⟨Str.ofString "row ab kk", by apply ev_run; walk_at "ev", br_of (badR _ (by simp))⟩
  · have f0 := F 0 (by omega)
    have f1 := F 1 (by omega)
    have f2 := F 2 (by omega)
    have f3 := F 3 (by omega)
    have f4 := F 4 (by omega)
    have f5 := F 5 (by omega)
    have t := T 6 h
    exact ⟨Str.ofString "Row a kk", by apply ev_run; walk_at "ev", br_of (badR _ (by simp))⟩
  · have f0 := F 0 (by omega)
    have f1 := F 1 (by omega)
    have f2 := F 2 (by omega)
    have f3 := F 3 (by omega)
    have f4 := F 4 (by omega)
    have f5 := F 5 (by omega)
    have f6 := F 6 (by omega)
    have t := T 7 h
    have g2 : gAdd (.str (Str.ofString "row a kk")) (.str (Str.ofString " ")) = some (.val (.str (Str.ofString "row a kk "))) := by kernel_rfl
    exact ⟨Str.ofString "row a kk ", by apply ev_run; walk_at "ev", br_of (badR _ (by simp))⟩
  · have f0 := F 0 (by omega)
    have f1 := F 1 (by omega)
    have f2 := F 2 (by omega)
    have f3 := F 3 (by omega)
    have f4 := F 4 (by omega)
    have f5 := F 5 (by omega)
    have f6 := F 6 (by omega)
    have f7 := F 7 (by omega)
    obtain ⟨s, hs, g1⟩ := ix_of L8w cell 6 (by decide) (by decide)
    have g1 : gIx (.lst [.str (Str.ofString "row kk"), .str (Str.ofString "row"), .str (Str.ofString ""), .str (Str.ofString " row a kk"), .str (Str.ofString "\trow a kk"), .str (Str.ofString "row a kk\t")]) (.int (cell % 6)) = some (.val (.str s)) := g1
    exact ⟨s, by apply ev_run; walk_at "ev", br_of (bad8 s hs)⟩
theorem ln_cast {many : Int} {y : Str} (h1 : 1 ≤ many) (h2 : many ≤ 16) (hy : y ∈ yarns) : Ln (castL many y) := by
  have n := num_free h1 h2
  exact ⟨line3_free (w_free.1 10 (by decide)) (n.1 10 (by decide)) (yarn_free hy 10 (by decide)), by rw [line3_len, l_cast, yarn_len hy]; omega⟩
theorem ln_row {r : Str × Str} (h : RowOk r) : Ln (rowL r) := ⟨line3_free (w_free.2 10 (by decide)) (yarn_free h.yy 10 (by decide)) (st_free h 10 (by decide)), by have := h.s; rw [line3_len, l_row, h.y]; omega⟩
theorem code_small : ∀ c ∈ codes, c < 16 ^ 8 := by decide +kernel
theorem yarn_small : ∀ y ∈ yarns, ∀ c ∈ y.cps.toList, c < 16 ^ 8 := by decide +kernel
theorem row_small : ∀ c ∈ (Str.ofString "row").cps.toList, c < 16 ^ 8 := by decide +kernel
theorem cb_row {r : Str × Str} (h : RowOk r) : CB (rowL r) := by
  have hl := (ln_row h).n
  have h1 : gSplit (.str (rowL r)) [.str (Str.ofString " ")] = some (.own [.str (Str.ofString "row"), .str r.1, .str r.2]) := og_split (ls := [Str.ofString "row", r.1, r.2]) (by decide +kernel) (by unfold sizeLine; omega) (line3_split (w_free.2 32 (by decide)) (yarn_free h.yy 32 (by decide)) (st_free h 32 (by decide))) (by show 3 ≤ sizeLine; decide)
  have h2 : gNe (.int 3) (.int 3) = some (.val (.bl false)) := og_ne (deq_self 8 _ rfl)
  have h3 : gNe (.str (Str.ofString "row")) (.str (Str.ofString "cast")) = some (.val (.bl true)) := by kernel_rfl
  have h4 : gIx (.lst [.str (Str.ofString "row"), .str r.1, .str r.2]) (.int 0) = some (.val (.str (Str.ofString "row"))) := og_ixL0
  have h5 : gLen [.lst [.str (Str.ofString "row"), .str r.1, .str r.2]] = some (.val (.int 3)) := rfl
  have ok1 : txOk (Str.ofString "cast") = true := by decide +kernel
  have ok2 : txOk (rowL r) = true := by
    unfold txOk
    refine Bool.and_eq_true_iff.mpr ⟨decide_eq_true (by omega), List.all_eq_true.mpr fun c hc => decide_eq_true ?_⟩
    have hc : c ∈ (line3 (Str.ofString "row") r.1 r.2).cps.toList := hc
    unfold line3 at hc
    rw [sp_is, join_toList, join_toList] at hc
    have hc : c ∈ (Str.ofString "row").cps.toList ++ 32 :: (r.1.cps.toList ++ 32 :: r.2.cps.toList) := hc
    rcases List.mem_append.mp hc with z | z
    · exact row_small c z
    · rcases List.mem_cons.mp z with rfl | z
      · decide
      · rcases List.mem_append.mp z with z | z
        · exact yarn_small _ h.yy c z
        · rcases List.mem_cons.mp z with rfl | z
          · decide
          · exact code_small c (h.l c z)
  have w : m_words_behind [.str (Str.ofString "cast"), .str (rowL r)] = .er "NoPattern" := by
    have s1 : (fSet 2 (fBM (fVar 1) (fCons (fC (.str " ")) fNil) gSplit)) [.sh (.str (Str.ofString "cast")), .sh (.str (rowL r)), .no] = .ok .nx [.sh (.str (Str.ofString "cast")), .sh (.str (rowL r)), .sh (.lst [.str (Str.ofString "row"), .str r.1, .str r.2])] := by
      apply Eq.trans
      walk_at "ev"
    have t : fOrT (fTest (fBin (fCB (fCons (fVar 2) fNil) gLen) (fC (.int 3)) gNe)) (fTest (fBin (fBin (fVar 2) (fC (.int 0)) gIx) (fVar 0) gNe)) [.sh (.str (Str.ofString "cast")), .sh (.str (rowL r)), .sh (.lst [.str (Str.ofString "row"), .str r.1, .str r.2])] = .ok true [.sh (.str (Str.ofString "cast")), .sh (.str (rowL r)), .sh (.lst [.str (Str.ofString "row"), .str r.1, .str r.2])] := by walk_at "ev"
    unfold m_words_behind b_words_behind
    apply ev_runXe
    apply ev_seqK
    · exact s1
    apply seqK_nx
    refine er_seq (ev_if t (ev_iteT rfl (ev_raise ?_)))
    show (true && (txOk (Str.ofString "cast") && (true && (txOk (rowL r) && true)))) = true
    rw [ok1, ok2]; rfl
  unfold CB m_read_cast b_read_cast
  apply ev_runXe
  exact er_seq (er_set (er_call (ev_cons ev_c (ev_cons (ev_var rfl) ev_nil)) rfl rfl w))
end Lw
namespace Lw
open PySem L2 DL
theorem rg_row {r : Str × Str} (h : RowOk r) : RG (rowL r) := ⟨_, read_row_of h⟩
def Spoil (ls' : List Str) : Prop := ls' ≠ [] ∧ ls'.length ≤ 20 ∧ (∀ l ∈ ls', Ln l) ∧ Bad ls'
theorem rows_ln {rs : List (Str × Str)} (hr : ∀ r ∈ rs, RowOk r) : ∀ l ∈ rs.map rowL, Ln l ∧ RG l := fun l hl => by
  obtain ⟨r, h, rfl⟩ := List.mem_map.mp hl
  exact ⟨ln_row (hr r h), rg_row (hr r h)⟩
theorem spoil_first {c : Str} {rs : List (Str × Str)} (hr : ∀ r ∈ rs, RowOk r) (hn : rs.length ≤ 5) (hc : CB c) (hl : Ln c) : Spoil (c :: rs.map rowL) := by
  refine ⟨by simp, by rw [List.length_cons, List.length_map]; omega, fun l h => ?_, .inr ⟨by rw [List.length_cons, List.length_map]; omega, c, _, rfl, .inl hc⟩⟩
  rcases List.mem_cons.mp h with rfl | h
  · exact hl
  · exact (rows_ln hr l h).1
theorem spoil_in {many : Int} {y b : Str} {rs : List (Str × Str)} (h1 : 1 ≤ many) (h2 : many ≤ 16) (hy : y ∈ yarns) (hr : ∀ r ∈ rs, RowOk r) (hn : rs.length ≤ 5) (hb : BR b) (k : Nat) : Spoil (castL many y :: ((rs.map rowL).take k ++ b :: (rs.map rowL).drop k)) := by
  have hlen : (castL many y :: ((rs.map rowL).take k ++ b :: (rs.map rowL).drop k)).length ≤ 7 := by
    rw [List.length_cons, List.length_append, List.length_cons, List.length_take, List.length_drop, List.length_map]; omega
  refine ⟨by simp, by omega, fun l h => ?_, .inr ⟨by omega, _, _, rfl, .inr ⟨⟨_, read_cast_of h1 h2 hy⟩, _, b, _, rfl, fun l h => (rows_ln hr l (List.mem_of_mem_take h)).2, hb.1⟩⟩⟩
  rcases List.mem_cons.mp h with rfl | h
  · exact ln_cast h1 h2 hy
  · rcases List.mem_append.mp h with h | h
    · exact (rows_ln hr l (List.mem_of_mem_take h)).1
    · rcases List.mem_cons.mp h with rfl | h
      · exact hb.2
      · exact (rows_ln hr l (List.mem_of_mem_drop h)).1
theorem ins_eq (c b : Str) (ws : List Str) (k : Nat) : (((c :: ws).map D.str).take (k + 1) ++ [D.str b]) ++ ((c :: ws).map D.str).drop (k + 1) = (c :: (ws.take k ++ b :: ws.drop k)).map D.str := by
  simp [List.map_take, List.map_drop]
theorem k13_comp : compD (sName 0) (.ret true) (fC (.str "row a k")) (rangeD 0 (13 : Int).toNat) [.no] [] = some ((List.replicate 13 (Str.ofString "row a k")).map D.str) := by kernel_rfl
theorem spoiled_of {many : Int} {y : Str} {rs : List (Str × Str)} (h1 : 1 ≤ many) (h2 : many ≤ 16) (hy : y ∈ yarns) (hr : ∀ r ∈ rs, RowOk r) (hn : rs.length ≤ 5) (way cell : Int) (w0 : 0 ≤ way) (w1 : way < 18) :
    ∃ ls', m_spoiled [.lst ((castL many y :: rs.map rowL).map D.str), .int way, .int cell] = .own (ls'.map D.str) ∧ Spoil ls' := by
  have q : ∀ j : Int, gEq (.int way) (.int j) = some (.val (.bl (decide (way = j)))) := fun j => og_eq rfl
  have q0 := q 0
  have q1 := q 1
  have q2 := q 2
  have q3 := q 3
  have q4 := q 4
  have q5 := q 5
  have q6 := q 6
  have q7 := q 7
  have q8 := q 8
  have F : ∀ j : Int, way ≠ j → decide (way = j) = false := fun j h => decide_eq_false h
  have T : ∀ j : Int, way = j → decide (way = j) = true := fun j h => decide_eq_true h
  have hlen : (castL many y :: rs.map rowL).length = rs.length + 1 := by rw [List.length_cons, List.length_map]
  have gl := len_strs (castL many y :: rs.map rowL)
  have gt' : gSlice (.lst ((castL many y :: rs.map rowL).map D.str)) (some 1) none = some (.own ((rs.map rowL).map D.str)) := sl_tail _ _
  have hm : 0 ≤ cell % ((castL many y :: rs.map rowL).length : Int) ∧ cell % ((castL many y :: rs.map rowL).length : Int) < ((castL many y :: rs.map rowL).length : Int) := ⟨Int.emod_nonneg _ (by omega), Int.emod_lt_of_pos _ (by omega)⟩
  have gm : gMod (.int cell) (.int ((castL many y :: rs.map rowL).length : Int)) = some (.val (.int (cell % ((castL many y :: rs.map rowL).length : Int)))) := og_mod (decide_eq_true (by omega))
  obtain ⟨k, hk⟩ : ∃ k : Nat, cell % ((castL many y :: rs.map rowL).length : Int) = (k : Int) := ⟨(cell % ((castL many y :: rs.map rowL).length : Int)).toNat, by omega⟩
  have hat : 1 + cell % ((castL many y :: rs.map rowL).length : Int) = ((k + 1 : Nat) : Int) := by omega
  have hkl : k + 1 ≤ ((castL many y :: rs.map rowL).map D.str).length := by rw [List.length_map]; omega
  have g1 : gSlice (.lst ((castL many y :: rs.map rowL).map D.str)) none (some (1 + cell % ((castL many y :: rs.map rowL).length : Int))) = some (.own (((castL many y :: rs.map rowL).map D.str).take (k + 1))) := by rw [hat]; exact sl_take _ _ hkl
  have g2 : gSlice (.lst ((castL many y :: rs.map rowL).map D.str)) (some (1 + cell % ((castL many y :: rs.map rowL).length : Int))) none = some (.own (((castL many y :: rs.map rowL).map D.str).drop (k + 1))) := by rw [hat]; exact sl_drop _ _ hkl
  have small : ∀ xs ys : List D, xs.length ≤ 100 → ys.length ≤ 100 → gAdd (.lst xs) (.lst ys) = some (.own (xs ++ ys)) := fun xs ys a b => og_addL (by unfold sizeLine; omega)
  have lt1 : (((castL many y :: rs.map rowL).map D.str).take (k + 1)).length ≤ 50 := by rw [List.length_take, List.length_map]; omega
  have lt2 : (((castL many y :: rs.map rowL).map D.str).drop (k + 1)).length ≤ 50 := by rw [List.length_drop, List.length_map]; omega
  have lt3 : ((rs.map rowL).map D.str).length ≤ 50 := by rw [List.length_map, List.length_map]; omega
  have lt4 : ((castL many y :: rs.map rowL).map D.str).length ≤ 50 := by rw [List.length_map]; omega
  unfold m_spoiled b_spoiled
  by_cases e0 : way = 0
  · have t := T 0 e0
    have a1 := small _ [D.str (Str.ofString "row a k")] (Nat.le_trans lt3 (by decide)) (by decide)
    refine ⟨rs.map rowL ++ [Str.ofString "row a k"], ?_, by simp, by rw [List.length_append, List.length_map, List.length_singleton]; omega, fun l h => ?_, .inr ⟨by rw [List.length_append, List.length_map, List.length_singleton]; omega, ?_⟩⟩
    · rw [List.map_append]
      apply ev_runO
      walk_at "ev"
    · rcases List.mem_append.mp h with h | h
      · exact (rows_ln hr l h).1
      · rw [List.mem_singleton.mp h]; exact ln_of rowK.2
    · cases rs with
      | nil => exact ⟨_, _, rfl, .inl (er_of rowK.1)⟩
      | cons r rs => exact ⟨_, _, rfl, .inl (cb_row (hr r List.mem_cons_self))⟩
  have f0 := F 0 e0
  by_cases e1 : way = 1
  · have t := T 1 e1
    have a1 := small _ [D.str (Str.ofString "cast 3 a")] (Nat.le_trans lt1 (by decide)) (by decide)
    have a2 := small (((castL many y :: rs.map rowL).map D.str).take (k + 1) ++ [D.str (Str.ofString "cast 3 a")]) _ (by rw [List.length_append, List.length_singleton]; omega) (Nat.le_trans lt2 (by decide))
    refine ⟨_, ?_, spoil_in h1 h2 hy hr hn (br_of (badR (Str.ofString "cast 3 a") (by simp))) k⟩
    rw [← ins_eq]
    apply ev_runO
    walk_at "ev"
  have f1 := F 1 e1
  by_cases e2 : way = 2
  · have t := T 2 e2
    obtain ⟨s, hs, gi⟩ := ix_of L2w cell 11 (by decide) (by decide)
    have gi : gIx (.lst [.str (Str.ofString "0"), .str (Str.ofString "17"), .str (Str.ofString "07"), .str (Str.ofString ""), .str (Str.ofString "+3"), .str (Str.ofString "3 3"), .str (Str.ofString "x"), .str (Str.ofString "00"), .str (Str.ofString "1_0"), .str (Str.ofString "3\t"), .str (Str.ofString "-3")]) (.int (cell % 11)) = some (.val (.str s)) := gi
    obtain ⟨b1, b2, b3⟩ := bad2 s hs
    have k1 : (Str.ofString "cast ").length + s.length ≤ sizeLine := by rw [l_castS]; unfold sizeLine; omega
    have l1 : (Str.ofString " a").length = 2 := by decide +kernel
    have k2 : (Str.ofString "cast " ++ s).length + (Str.ofString " a").length ≤ sizeLine := by simp only [str_len, l_castS, l1]; unfold sizeLine; omega
    have a1 := small [D.str (Str.ofString "cast " ++ s ++ Str.ofString " a")] _ (Nat.le_of_ble_eq_true rfl) (Nat.le_trans lt3 (by decide))
    refine ⟨_, ?_, spoil_first hr hn (er_of b1) (ln_of b2)⟩
    apply ev_runO
    walk_at "ev"
  have f2 := F 2 e2
  by_cases e3 : way = 3
  · have t := T 3 e3
    obtain ⟨s, hs, gi⟩ := ix_of L3w cell 7 (by decide) (by decide)
    have gi : gIx (.lst [.str (Str.ofString "cast 3 g"), .str (Str.ofString "cast 3 ab"), .str (Str.ofString "cast 3 "), .str (Str.ofString "cast 3 A"), .str (Str.ofString "cast 3 a "), .str (Str.ofString "cast 3"), .str (Str.ofString "cast")]) (.int (cell % 7)) = some (.val (.str s)) := gi
    obtain ⟨b1, b2⟩ := bad3 s hs
    have a1 := small [D.str s] _ (Nat.le_of_ble_eq_true rfl) (Nat.le_trans lt3 (by decide))
    refine ⟨_, ?_, spoil_first hr hn (er_of b1) (ln_of b2)⟩
    apply ev_runO
    walk_at "ev"
  have f3 := F 3 e3
  by_cases e4 : way = 4
  · have t := T 4 e4
    have a1 := small _ [D.str (Str.ofString "")] (Nat.le_trans lt4 (by decide)) (by decide)
    have sp := spoil_in h1 h2 hy hr hn (br_of (badR (Str.ofString "") (by simp))) rs.length
    have e : (rs.map rowL).take rs.length ++ Str.ofString "" :: (rs.map rowL).drop rs.length = rs.map rowL ++ [Str.ofString ""] := by
      rw [List.take_of_length_le (by rw [List.length_map]; omega), List.drop_eq_nil_of_le (by rw [List.length_map]; omega)]
    rw [e] at sp
    refine ⟨_, ?_, sp⟩
    rw [← List.cons_append, List.map_append]
    apply ev_runO
    walk_at "ev"
  have f4 := F 4 e4
  by_cases e5 : way = 5
  · have t := T 5 e5
    have gs : gSlice (.lst ((castL many y :: rs.map rowL).map D.str)) none (some 1) = some (.own [.str (castL many y)]) := sl_take _ 1 (by rw [List.length_map, hlen]; omega)
    have gc := k13_comp
    have a1 := small [D.str (castL many y)] ((List.replicate 13 (Str.ofString "row a k")).map D.str) (Nat.le_of_ble_eq_true rfl) (by decide)
    refine ⟨castL many y :: List.replicate 13 (Str.ofString "row a k"), ?_, by simp, by rw [List.length_cons, List.length_replicate]; decide, fun l h => ?_, .inl (by rw [List.length_cons, List.length_replicate]; decide)⟩
    · apply ev_runO
      apply ev_seqK
      · walk_at "ev"
      apply seqK_nx
      apply ev_seqK
      · walk_at "ev"
      apply seqK_nx
      apply ev_seqK
      · walk_at "ev"
      apply seqK_nx
      apply ev_seqK
      · walk_at "ev"
      apply seqK_nx
      apply ev_seqK
      · walk_at "ev"
      apply seqK_nx
      apply ev_seqK
      · exact ev_if (ev_test (ev_bin (ev_var rfl) ev_c rfl rfl q5) rfl) (ev_iteT t (ev_retK (ev_bin (ev_slice (ev_var rfl) ev_nopart (ev_part ev_c rfl) rfl gs) (ev_lc (ev_rng1 (ev_cons ev_c ev_nil) rfl (og_small (by decide) (by decide))) gc) rfl rfl a1) retK_own))
      exact seqK_rto
    · rcases List.mem_cons.mp h with rfl | h
      · exact ln_cast h1 h2 hy
      · rw [List.eq_of_mem_replicate h]; exact ln_of rowK.2
  have f5 := F 5 e5
  by_cases e6 : way = 6
  · have t := T 6 e6
    obtain ⟨b1, b2⟩ := badC (Str.ofString "") (by simp)
    refine ⟨[Str.ofString ""], ?_, by simp, by decide, fun l h => ?_, .inr ⟨by decide, _, _, rfl, .inl (er_of b1)⟩⟩
    · apply ev_runO
      walk_at "ev"
    · rw [List.mem_singleton.mp h]; exact ln_of b2
  have f6 := F 6 e6
  by_cases e7 : way = 7
  · have t := T 7 e7
    have b := num_cases (P := fun i => ∀ y ∈ yarns, isEr (m_read_cast [.str (Str.ofString " " ++ castL i y)]) = true ∧ lnB (Str.ofString " " ++ castL i y) = true) cast7 h1 h2 y hy
    have gi : gIx (.lst ((castL many y :: rs.map rowL).map D.str)) (.int 0) = some (.val (.str (castL many y))) := og_ixL0
    have hcl := (ln_cast h1 h2 hy).n
    have k1 : (Str.ofString " ").length + (castL many y).length ≤ sizeLine := by rw [l_sp]; unfold sizeLine; omega
    have a1 := small [D.str (Str.ofString " " ++ castL many y)] _ (Nat.le_of_ble_eq_true rfl) (Nat.le_trans lt3 (by decide))
    refine ⟨_, ?_, spoil_first hr hn (er_of b.1) (ln_of b.2)⟩
    apply ev_runO
    walk_at "ev"
  have f7 := F 7 e7
  by_cases e8 : way = 8
  · have t := T 8 e8
    obtain ⟨b1, b2⟩ := badC (Str.ofString "Cast 3 a") (by simp)
    have a1 := small [D.str (Str.ofString "Cast 3 a")] _ (Nat.le_of_ble_eq_true rfl) (Nat.le_trans lt3 (by decide))
    refine ⟨_, ?_, spoil_first hr hn (er_of b1) (ln_of b2)⟩
    apply ev_runO
    walk_at "ev"
  have f8 := F 8 e8
  obtain ⟨b, gb, hb⟩ := bad_row_of (way - 9) (cell / 7) (by omega) (by omega)
  have a1 := small _ [D.str b] (Nat.le_trans lt1 (by decide)) (Nat.le_of_ble_eq_true rfl)
  have a2 := small (((castL many y :: rs.map rowL).map D.str).take (k + 1) ++ [D.str b]) _ (by rw [List.length_append, List.length_singleton]; omega) (Nat.le_trans lt2 (by decide))
  refine ⟨_, ?_, spoil_in h1 h2 hy hr hn hb k⟩
  rw [← ins_eq]
  apply ev_runO
  walk_at "ev"
theorem refused_of {x : Str} (h : m_read [.str x] = .er "NoPattern") : m_refused [.str x] = .ok (.bl true) := by
  have t1 : tab_NoPattern (Str.ofString "NoPattern") = some true := by decide +kernel
  have g1 : gIsX tab_LoopError (.exc (Str.ofString "NoPattern")) = some (.val (.bl true)) := by kernel_rfl
  have g2 : gIsX tab_ValueError (.exc (Str.ofString "NoPattern")) = some (.val (.bl true)) := by kernel_rfl
  have g3 : gIsX tab_Unfit (.exc (Str.ofString "NoPattern")) = some (.val (.bl false)) := by kernel_rfl
  have g4 : gIsX tab_BedFault (.exc (Str.ofString "NoPattern")) = some (.val (.bl false)) := by kernel_rfl
  have e : (fSeq (fSet 2 (fAndV (fUn (fVar 1) (gIsX tab_LoopError)) (fUn (fVar 1) (gIsX tab_ValueError))))
    (fRet (fAndV (fVar 2) (fAndV (fNotV (fUn (fVar 1) (gIsX tab_Unfit))) (fNotV (fUn (fVar 1) (gIsX tab_BedFault))))))) [.sh (.str x), .sh (.exc (Str.ofString "NoPattern")), .no] = .ok (.rt (.bl true)) [.sh (.str x), .sh (.exc (Str.ofString "NoPattern")), .sh (.bl true)] := by
    apply Eq.trans
    walk_at "ev"
  unfold m_refused b_refused
  refine ev_run (δ1 := [.sh (.str x), .no, .sh (.bl true)]) ?_
  refine ev_seqK (R1 := .ok (.rt (.bl true)) [.sh (.str x), .no, .sh (.bl true)]) (ev_tryEe (er_callX (ev_cons (ev_var rfl) ev_nil) rfl rfl h) ?_) seqK_rt
  dsimp only
  rw [t1]
  exact (congrArg (rForget 1) e).trans rfl
theorem refused_any_of {x : Str} (h : m_read [.str x] = .er "NoPattern") : m_refused_by_any [.str x] = .ok (.bl true) := by
  have t1 : tab_LoopError (Str.ofString "NoPattern") = some true := by decide +kernel
  unfold m_refused_by_any b_refused_by_any
  refine ev_run (δ1 := [.sh (.str x)]) ?_
  refine ev_seqK (R1 := .ok (.rt (.bl true)) [.sh (.str x)]) (ev_tryEe (er_callX (ev_cons (ev_var rfl) ev_nil) rfl rfl h) ?_) seqK_rt
  dsimp only
  rw [t1]
  rfl
theorem law_true (ns : List Int) (hl : ns.length ≤ 63) : m_law [.scr ns] = .ok (.bl true) := by
  obtain ⟨many, y, rs, h1, h2, hy, hr, hn, e1⟩ := lines_of ns
  have c3 := m_cell ns 3 (by omega)
  have c4 := m_cell ns 4 (by omega)
  obtain ⟨ls', e2, s1, s2, s3, s4⟩ := spoiled_of h1 h2 hy hr hn (cellv ns 3 % 18) (cellv ns 4 % 10007) (by omega) (by omega)
  obtain ⟨_, _, j1⟩ := text_of_lines s1 s2 s3
  have rb := read_bad s1 s2 s3 s4
  have r1 := refused_of rb
  have r2 := refused_any_of rb
  have hL : ∀ l ∈ castL many y :: rs.map rowL, Ln l := fun l h => by
    rcases List.mem_cons.mp h with rfl | h
    · exact ln_cast h1 h2 hy
    · exact (rows_ln hr l h).1
  have hlen : (castL many y :: rs.map rowL).length ≤ 13 := by rw [List.length_cons, List.length_map]; omega
  obtain ⟨ds, d1, d2⟩ := read_good hlen hL ⟨_, read_cast_of h1 h2 hy⟩ fun l h => (rows_ln hr l h).2
  obtain ⟨_, _, j2⟩ := text_of_lines (ls := castL many y :: rs.map rowL) (by simp) (by omega) hL
  have gl := len_strs (castL many y :: rs.map rowL)
  have gd : gLen [.lst ds] = some (.val (.int ((castL many y :: rs.map rowL).length : Int))) := by
    show some (DV.val (.int _)) = _
    rw [d1]
  have ge : gEq (.int ((castL many y :: rs.map rowL).length : Int)) (.int ((castL many y :: rs.map rowL).length : Int)) = some (.val (.bl true)) := og_eq (deq_self 8 _ rfl)
  unfold m_law b_law
  walk_at "ev"
end Lw
namespace Lw
open PySem L2 DL PyProof.Rows
theorem all_mk {l : PySem.W.OpenLaw} {w : World} {K : PySem.W.Frag} {h : Heap} {mg : Str → Option Value} {fa : Addr} (X : K.In h) (G : h.Ns mainGlobals mg) (hfa : mg "law" = some (.ref fa))
    {f0 : Addr} {od0 an0 : Option Addr} {sl0 : Array (Option Value)} {oc0 kV0 dc0 pm0 cd0 ct0 : Value}
    {f1 : Addr} {od1 an1 : Option Addr} {sl1 : Array (Option Value)} {oc1 kV1 dc1 pm1 cd1 ct1 : Value}
    {f2 : Addr} {od2 an2 : Option Addr} {sl2 : Array (Option Value)} {oc2 kV2 dc2 pm2 cd2 ct2 : Value}
    {f3 : Addr} {od3 an3 : Option Addr} {sl3 : Array (Option Value)} {oc3 kV3 dc3 pm3 cd3 ct3 : Value}
    {f4 : Addr} {od4 an4 : Option Addr} {sl4 : Array (Option Value)} {oc4 kV4 dc4 pm4 cd4 ct4 : Value}
    {f5 : Addr} {od5 an5 : Option Addr} {sl5 : Array (Option Value)} {oc5 kV5 dc5 pm5 cd5 ct5 : Value}
    {f6 : Addr} {od6 an6 : Option Addr} {sl6 : Array (Option Value)} {oc6 kV6 dc6 pm6 cd6 ct6 : Value}
    {f7 : Addr} {od7 an7 : Option Addr} {sl7 : Array (Option Value)} {oc7 kV7 dc7 pm7 cd7 ct7 : Value}
    {f8 : Addr} {od8 an8 : Option Addr} {sl8 : Array (Option Value)} {oc8 kV8 dc8 pm8 cd8 ct8 : Value}
    {f9 : Addr} {od9 an9 : Option Addr} {sl9 : Array (Option Value)} {oc9 kV9 dc9 pm9 cd9 ct9 : Value}
    {f10 : Addr} {od10 an10 : Option Addr} {sl10 : Array (Option Value)} {oc10 kV10 dc10 pm10 cd10 ct10 : Value}
    {f11 : Addr} {od11 an11 : Option Addr} {sl11 : Array (Option Value)} {oc11 kV11 dc11 pm11 cd11 ct11 : Value}
    {f12 : Addr} {od12 an12 : Option Addr} {sl12 : Array (Option Value)} {oc12 kV12 dc12 pm12 cd12 ct12 : Value}
    {f13 : Addr} {od13 an13 : Option Addr} {sl13 : Array (Option Value)} {oc13 kV13 dc13 pm13 cd13 ct13 : Value}
    {f14 : Addr} {od14 an14 : Option Addr} {sl14 : Array (Option Value)} {oc14 kV14 dc14 pm14 cd14 ct14 : Value}
    {f15 : Addr} {od15 an15 : Option Addr} {sl15 : Array (Option Value)} {oc15 kV15 dc15 pm15 cd15 ct15 : Value}
    {t_MOST_CAST : Tok}
    {t_MOST_ROWS : Tok}
    {t_MOST_STITCHES : Tok}
    {a_TAKES : Addr}
    {a_YARNS : Addr}
    {C_BedFault : Addr}
    {C_LoopError : Addr}
    {C_NoPattern : Addr}
    {C_Unfit : Addr}
    (a0 : PySem.W.nsIn K mainGlobals "_law_cell_at" = some (some (.ref f0))) (l0 : K.lookup f0 = some ⟨oc0, od0, .func (PySem.W.fnOf "_law_cell_at" "_law_cell_at" (defArgs s_cell_at) (defBody s_cell_at) (defScope s_cell_at) .none kV0 dc0 pm0 an0 cd0 ct0), sl0⟩) (c0 : PySem.W.codeIn K cd0 "_law_cell_at" = true) (k0 : PySem.W.keepIn K (.ref f0) = true)
    (a1 : PySem.W.nsIn K mainGlobals "_law_mix" = some (some (.ref f1))) (l1 : K.lookup f1 = some ⟨oc1, od1, .func (PySem.W.fnOf "_law_mix" "_law_mix" (defArgs s_mix) (defBody s_mix) (defScope s_mix) .none kV1 dc1 pm1 an1 cd1 ct1), sl1⟩) (c1 : PySem.W.codeIn K cd1 "_law_mix" = true) (k1 : PySem.W.keepIn K (.ref f1) = true)
    (a2 : PySem.W.nsIn K mainGlobals "_law_lines" = some (some (.ref f2))) (l2 : K.lookup f2 = some ⟨oc2, od2, .func (PySem.W.fnOf "_law_lines" "_law_lines" (defArgs s_lines) (defBody s_lines) (defScope s_lines) .none kV2 dc2 pm2 an2 cd2 ct2), sl2⟩) (c2 : PySem.W.codeIn K cd2 "_law_lines" = true) (k2 : PySem.W.keepIn K (.ref f2) = true)
    (a3 : PySem.W.nsIn K mainGlobals "words_behind" = some (some (.ref f3))) (l3 : K.lookup f3 = some ⟨oc3, od3, .func (PySem.W.fnOf "words_behind" "words_behind" (defArgs s_words_behind) (defBody s_words_behind) (defScope s_words_behind) .none kV3 dc3 pm3 an3 cd3 ct3), sl3⟩) (c3 : PySem.W.codeIn K cd3 "words_behind" = true) (k3 : PySem.W.keepIn K (.ref f3) = true)
    (a4 : PySem.W.nsIn K mainGlobals "read_many" = some (some (.ref f4))) (l4 : K.lookup f4 = some ⟨oc4, od4, .func (PySem.W.fnOf "read_many" "read_many" (defArgs s_read_many) (defBody s_read_many) (defScope s_read_many) .none kV4 dc4 pm4 an4 cd4 ct4), sl4⟩) (c4 : PySem.W.codeIn K cd4 "read_many" = true) (k4 : PySem.W.keepIn K (.ref f4) = true)
    (a5 : PySem.W.nsIn K mainGlobals "read_yarn" = some (some (.ref f5))) (l5 : K.lookup f5 = some ⟨oc5, od5, .func (PySem.W.fnOf "read_yarn" "read_yarn" (defArgs s_read_yarn) (defBody s_read_yarn) (defScope s_read_yarn) .none kV5 dc5 pm5 an5 cd5 ct5), sl5⟩) (c5 : PySem.W.codeIn K cd5 "read_yarn" = true) (k5 : PySem.W.keepIn K (.ref f5) = true)
    (a6 : PySem.W.nsIn K mainGlobals "read_cast" = some (some (.ref f6))) (l6 : K.lookup f6 = some ⟨oc6, od6, .func (PySem.W.fnOf "read_cast" "read_cast" (defArgs s_read_cast) (defBody s_read_cast) (defScope s_read_cast) .none kV6 dc6 pm6 an6 cd6 ct6), sl6⟩) (c6 : PySem.W.codeIn K cd6 "read_cast" = true) (k6 : PySem.W.keepIn K (.ref f6) = true)
    (a7 : PySem.W.nsIn K mainGlobals "is_stitch" = some (some (.ref f7))) (l7 : K.lookup f7 = some ⟨oc7, od7, .func (PySem.W.fnOf "is_stitch" "is_stitch" (defArgs s_is_stitch) (defBody s_is_stitch) (defScope s_is_stitch) .none kV7 dc7 pm7 an7 cd7 ct7), sl7⟩) (c7 : PySem.W.codeIn K cd7 "is_stitch" = true) (k7 : PySem.W.keepIn K (.ref f7) = true)
    (a8 : PySem.W.nsIn K mainGlobals "read_stitches" = some (some (.ref f8))) (l8 : K.lookup f8 = some ⟨oc8, od8, .func (PySem.W.fnOf "read_stitches" "read_stitches" (defArgs s_read_stitches) (defBody s_read_stitches) (defScope s_read_stitches) .none kV8 dc8 pm8 an8 cd8 ct8), sl8⟩) (c8 : PySem.W.codeIn K cd8 "read_stitches" = true) (k8 : PySem.W.keepIn K (.ref f8) = true)
    (a9 : PySem.W.nsIn K mainGlobals "read_row" = some (some (.ref f9))) (l9 : K.lookup f9 = some ⟨oc9, od9, .func (PySem.W.fnOf "read_row" "read_row" (defArgs s_read_row) (defBody s_read_row) (defScope s_read_row) .none kV9 dc9 pm9 an9 cd9 ct9), sl9⟩) (c9 : PySem.W.codeIn K cd9 "read_row" = true) (k9 : PySem.W.keepIn K (.ref f9) = true)
    (a10 : PySem.W.nsIn K mainGlobals "read" = some (some (.ref f10))) (l10 : K.lookup f10 = some ⟨oc10, od10, .func (PySem.W.fnOf "read" "read" (defArgs s_read) (defBody s_read) (defScope s_read) .none kV10 dc10 pm10 an10 cd10 ct10), sl10⟩) (c10 : PySem.W.codeIn K cd10 "read" = true) (k10 : PySem.W.keepIn K (.ref f10) = true)
    (a11 : PySem.W.nsIn K mainGlobals "_law_bad_row" = some (some (.ref f11))) (l11 : K.lookup f11 = some ⟨oc11, od11, .func (PySem.W.fnOf "_law_bad_row" "_law_bad_row" (defArgs s_bad_row) (defBody s_bad_row) (defScope s_bad_row) .none kV11 dc11 pm11 an11 cd11 ct11), sl11⟩) (c11 : PySem.W.codeIn K cd11 "_law_bad_row" = true) (k11 : PySem.W.keepIn K (.ref f11) = true)
    (a12 : PySem.W.nsIn K mainGlobals "_law_spoiled" = some (some (.ref f12))) (l12 : K.lookup f12 = some ⟨oc12, od12, .func (PySem.W.fnOf "_law_spoiled" "_law_spoiled" (defArgs s_spoiled) (defBody s_spoiled) (defScope s_spoiled) .none kV12 dc12 pm12 an12 cd12 ct12), sl12⟩) (c12 : PySem.W.codeIn K cd12 "_law_spoiled" = true) (k12 : PySem.W.keepIn K (.ref f12) = true)
    (a13 : PySem.W.nsIn K mainGlobals "_law_refused" = some (some (.ref f13))) (l13 : K.lookup f13 = some ⟨oc13, od13, .func (PySem.W.fnOf "_law_refused" "_law_refused" (defArgs s_refused) (defBody s_refused) (defScope s_refused) .none kV13 dc13 pm13 an13 cd13 ct13), sl13⟩) (c13 : PySem.W.codeIn K cd13 "_law_refused" = true) (k13 : PySem.W.keepIn K (.ref f13) = true)
    (a14 : PySem.W.nsIn K mainGlobals "_law_refused_by_any" = some (some (.ref f14))) (l14 : K.lookup f14 = some ⟨oc14, od14, .func (PySem.W.fnOf "_law_refused_by_any" "_law_refused_by_any" (defArgs s_refused_by_any) (defBody s_refused_by_any) (defScope s_refused_by_any) .none kV14 dc14 pm14 an14 cd14 ct14), sl14⟩) (c14 : PySem.W.codeIn K cd14 "_law_refused_by_any" = true) (k14 : PySem.W.keepIn K (.ref f14) = true)
    (a15 : PySem.W.nsIn K mainGlobals "law" = some (some (.ref f15))) (l15 : K.lookup f15 = some ⟨oc15, od15, .func (PySem.W.fnOf "law" "law" (defArgs s_law) (defBody s_law) (defScope s_law) .none kV15 dc15 pm15 an15 cd15 ct15), sl15⟩) (c15 : PySem.W.codeIn K cd15 "law" = true) (k15 : PySem.W.keepIn K (.ref f15) = true)
    (z_ValueError : PySem.W.nsIn K mainGlobals "ValueError" = some none)
    (z_all : PySem.W.nsIn K mainGlobals "all" = some none)
    (z_int : PySem.W.nsIn K mainGlobals "int" = some none)
    (z_isinstance : PySem.W.nsIn K mainGlobals "isinstance" = some none)
    (z_len : PySem.W.nsIn K mainGlobals "len" = some none)
    (z_list : PySem.W.nsIn K mainGlobals "list" = some none)
    (z_range : PySem.W.nsIn K mainGlobals "range" = some none)
    (z_str : PySem.W.nsIn K mainGlobals "str" = some none)
    (g_MOST_CAST : PySem.W.nsIn K mainGlobals "MOST_CAST" = some (some (.int 16 t_MOST_CAST)))
    (g_MOST_ROWS : PySem.W.nsIn K mainGlobals "MOST_ROWS" = some (some (.int 12 t_MOST_ROWS)))
    (g_MOST_STITCHES : PySem.W.nsIn K mainGlobals "MOST_STITCHES" = some (some (.int 24 t_MOST_STITCHES)))
    (g_TAKES : PySem.W.nsIn K mainGlobals "TAKES" = some (some (.ref a_TAKES)))
    (h_TAKES : PyProof.Rows.KTD.tabLook (PyProof.Rows.KTD.datLooks fun b => K.lookup b) (fun b => K.lookup b) a_TAKES (tabD c_TAKES) = true)
    (g_YARNS : PySem.W.nsIn K mainGlobals "YARNS" = some (some (.ref a_YARNS)))
    (h_YARNS : tupLk K a_YARNS [.str "a", .str "b", .str "c", .str "d", .str "e", .str "f"] = true)
    (nc_BedFault : PySem.W.nsIn K mainGlobals "BedFault" = some (some (.ref C_BedFault)))
    (nc_LoopError : PySem.W.nsIn K mainGlobals "LoopError" = some (some (.ref C_LoopError)))
    (nc_NoPattern : PySem.W.nsIn K mainGlobals "NoPattern" = some (some (.ref C_NoPattern)))
    (nc_Unfit : PySem.W.nsIn K mainGlobals "Unfit" = some (some (.ref C_Unfit)))
    (xq_NoPattern : PySem.W.excIn K C_NoPattern bmV "ValueError.__new__" = true)
    (xk_NoPattern : excK K C_NoPattern = true)
    (xm_NoPattern_BedFault : PySem.W.exmOne K (.ref C_NoPattern) (.ref C_BedFault) = some false)
    (xi_NoPattern_BedFault : PySem.W.kitOne K (.ref C_NoPattern) (.ref C_BedFault) = some false)
    (xm_NoPattern_LoopError : PySem.W.exmOne K (.ref C_NoPattern) (.ref C_LoopError) = some true)
    (xi_NoPattern_LoopError : PySem.W.kitOne K (.ref C_NoPattern) (.ref C_LoopError) = some true)
    (xm_NoPattern_NoPattern : PySem.W.exmOne K (.ref C_NoPattern) (.ref C_NoPattern) = some true)
    (xi_NoPattern_NoPattern : PySem.W.kitOne K (.ref C_NoPattern) (.ref C_NoPattern) = some true)
    (xm_NoPattern_Unfit : PySem.W.exmOne K (.ref C_NoPattern) (.ref C_Unfit) = some false)
    (xi_NoPattern_Unfit : PySem.W.kitOne K (.ref C_NoPattern) (.ref C_Unfit) = some false)
    (xv_NoPattern : PySem.W.kitOne K (.ref C_NoPattern) (.type "ValueError") = some true) :
    ∃ fd : FuncData, (∀ (s : Shared) (v : Value), BindsTo s fd ⟨[v], []⟩ [("script", v)]) ∧ ∀ base : Heap, K.In base → base.Ns mainGlobals mg → FnOk l.prog w K mg base CX0 6 fa fd ["script"] (spP K (fun _ => .none) 1 m_law) := by
  have e := hfa.symm.trans (PySem.W.mg_of X G a15)
  cases e
  have T : Txt K mg := ⟨PySem.W.mg_none_of X G z_ValueError, PySem.W.mg_none_of X G z_all, PySem.W.mg_none_of X G z_int, PySem.W.mg_none_of X G z_isinstance, PySem.W.mg_none_of X G z_len, PySem.W.mg_none_of X G z_list, PySem.W.mg_none_of X G z_range, PySem.W.mg_none_of X G z_str, glob_int (PySem.W.mg_of X G g_MOST_CAST), glob_int (PySem.W.mg_of X G g_MOST_ROWS), glob_int (PySem.W.mg_of X G g_MOST_STITCHES), glob_tab (PySem.W.mg_of X G g_TAKES) h_TAKES, glob_tup (PySem.W.mg_of X G g_YARNS) h_YARNS, ⟨C_NoPattern, PySem.W.mg_of X G nc_NoPattern, xq_NoPattern⟩, ⟨C_BedFault, PySem.W.mg_of X G nc_BedFault, (tabX_cons (PySem.W.mg_of X G nc_NoPattern) nc_NoPattern xm_NoPattern_BedFault tabX_nil), (tabI_cons nc_NoPattern xk_NoPattern xi_NoPattern_BedFault tabI_nil)⟩, ⟨C_LoopError, PySem.W.mg_of X G nc_LoopError, (tabX_cons (PySem.W.mg_of X G nc_NoPattern) nc_NoPattern xm_NoPattern_LoopError tabX_nil), (tabI_cons nc_NoPattern xk_NoPattern xi_NoPattern_LoopError tabI_nil)⟩, ⟨C_NoPattern, PySem.W.mg_of X G nc_NoPattern, (tabX_cons (PySem.W.mg_of X G nc_NoPattern) nc_NoPattern xm_NoPattern_NoPattern tabX_nil), (tabI_cons nc_NoPattern xk_NoPattern xi_NoPattern_NoPattern tabI_nil)⟩, ⟨C_Unfit, PySem.W.mg_of X G nc_Unfit, (tabX_cons (PySem.W.mg_of X G nc_NoPattern) nc_NoPattern xm_NoPattern_Unfit tabX_nil), (tabI_cons nc_NoPattern xk_NoPattern xi_NoPattern_Unfit tabI_nil)⟩, (tabI_cons nc_NoPattern xk_NoPattern xv_NoPattern tabI_nil)⟩
  have F0 := fun_mk (st := s_cell_at) l0 c0 k0
  have F1 := fun_mk (st := s_mix) l1 c1 k1
  have F2 := fun_mk (st := s_lines) l2 c2 k2
  have F3 := fun_mk (st := s_words_behind) l3 c3 k3
  have F4 := fun_mk (st := s_read_many) l4 c4 k4
  have F5 := fun_mk (st := s_read_yarn) l5 c5 k5
  have F6 := fun_mk (st := s_read_cast) l6 c6 k6
  have F7 := fun_mk (st := s_is_stitch) l7 c7 k7
  have F8 := fun_mk (st := s_read_stitches) l8 c8 k8
  have F9 := fun_mk (st := s_read_row) l9 c9 k9
  have F10 := fun_mk (st := s_read) l10 c10 k10
  have F11 := fun_mk (st := s_bad_row) l11 c11 k11
  have F12 := fun_mk (st := s_spoiled) l12 c12 k12
  have F13 := fun_mk (st := s_refused) l13 c13 k13
  have F14 := fun_mk (st := s_refused_by_any) l14 c14 k14
  have F15 := fun_mk (st := s_law) l15 c15 k15
  refine ⟨PySem.W.fnOf "law" "law" (defArgs s_law) (defBody s_law) (defScope s_law) .none kV15 dc15 pm15 an15 cd15 ct15, fun s v => .of_eq rfl, fun base _ _ => ?_⟩
  have D_cell_at : DefP l.prog w K mg base 1 "_law_cell_at" 2 m_cell_at := ⟨_, _, _, ok_cell_at F0 T , PySem.W.mg_of X G a0, k0, F0.binds (ps := ["script", "k"]) fun _ _ _ _ _ _ us hl => match us, hl with | [_, _], _ => rfl⟩
  have D_mix : DefP l.prog w K mg base 1 "_law_mix" 2 m_mix := ⟨_, _, _, ok_mix F1 T , PySem.W.mg_of X G a1, k1, F1.binds (ps := ["cell", "k"]) fun _ _ _ _ _ _ us hl => match us, hl with | [_, _], _ => rfl⟩
  have D_lines : DefP l.prog w K mg base 2 "_law_lines" 1 m_lines := ⟨_, _, _, ok_lines F2 T D_cell_at D_mix, PySem.W.mg_of X G a2, k2, F2.binds (ps := ["script"]) fun _ _ _ _ _ _ us hl => match us, hl with | [_], _ => rfl⟩
  have D_words_behind : DefX l.prog w K mg base 1 "words_behind" 2 m_words_behind := ⟨_, _, _, ok_words_behind F3 T , PySem.W.mg_of X G a3, k3, F3.binds (ps := ["first", "line"]) fun _ _ _ _ _ _ us hl => match us, hl with | [_, _], _ => rfl⟩
  have D_read_many : DefX l.prog w K mg base 1 "read_many" 1 m_read_many := ⟨_, _, _, ok_read_many F4 T , PySem.W.mg_of X G a4, k4, F4.binds (ps := ["figures"]) fun _ _ _ _ _ _ us hl => match us, hl with | [_], _ => rfl⟩
  have D_read_yarn : DefX l.prog w K mg base 1 "read_yarn" 1 m_read_yarn := ⟨_, _, _, ok_read_yarn F5 T , PySem.W.mg_of X G a5, k5, F5.binds (ps := ["word"]) fun _ _ _ _ _ _ us hl => match us, hl with | [_], _ => rfl⟩
  have D_read_cast : DefX l.prog w K mg base 2 "read_cast" 1 m_read_cast := ⟨_, _, _, ok_read_cast F6 T D_words_behind D_read_many D_read_yarn, PySem.W.mg_of X G a6, k6, F6.binds (ps := ["line"]) fun _ _ _ _ _ _ us hl => match us, hl with | [_], _ => rfl⟩
  have D_is_stitch : DefP l.prog w K mg base 1 "is_stitch" 1 m_is_stitch := ⟨_, _, _, ok_is_stitch F7 T , PySem.W.mg_of X G a7, k7, F7.binds (ps := ["letter"]) fun _ _ _ _ _ _ us hl => match us, hl with | [_], _ => rfl⟩
  have D_read_stitches : DefX l.prog w K mg base 2 "read_stitches" 1 m_read_stitches := ⟨_, _, _, ok_read_stitches F8 T D_is_stitch, PySem.W.mg_of X G a8, k8, F8.binds (ps := ["word"]) fun _ _ _ _ _ _ us hl => match us, hl with | [_], _ => rfl⟩
  have D_read_row : DefX l.prog w K mg base 3 "read_row" 1 m_read_row := ⟨_, _, _, ok_read_row F9 T D_words_behind D_read_yarn D_read_stitches, PySem.W.mg_of X G a9, k9, F9.binds (ps := ["line"]) fun _ _ _ _ _ _ us hl => match us, hl with | [_], _ => rfl⟩
  have D_read : DefX l.prog w K mg base 4 "read" 1 m_read := ⟨_, _, _, ok_read F10 T D_read_cast D_read_row, PySem.W.mg_of X G a10, k10, F10.binds (ps := ["text"]) fun _ _ _ _ _ _ us hl => match us, hl with | [_], _ => rfl⟩
  have D_bad_row : DefP l.prog w K mg base 1 "_law_bad_row" 2 m_bad_row := ⟨_, _, _, ok_bad_row F11 T , PySem.W.mg_of X G a11, k11, F11.binds (ps := ["way", "cell"]) fun _ _ _ _ _ _ us hl => match us, hl with | [_, _], _ => rfl⟩
  have D_spoiled : DefP l.prog w K mg base 2 "_law_spoiled" 3 m_spoiled := ⟨_, _, _, ok_spoiled F12 T D_bad_row, PySem.W.mg_of X G a12, k12, F12.binds (ps := ["lines", "way", "cell"]) fun _ _ _ _ _ _ us hl => match us, hl with | [_, _, _], _ => rfl⟩
  have D_refused : DefP l.prog w K mg base 5 "_law_refused" 1 m_refused := ⟨_, _, _, ok_refused F13 T D_read, PySem.W.mg_of X G a13, k13, F13.binds (ps := ["text"]) fun _ _ _ _ _ _ us hl => match us, hl with | [_], _ => rfl⟩
  have D_refused_by_any : DefP l.prog w K mg base 5 "_law_refused_by_any" 1 m_refused_by_any := ⟨_, _, _, ok_refused_by_any F14 T D_read, PySem.W.mg_of X G a14, k14, F14.binds (ps := ["text"]) fun _ _ _ _ _ _ us hl => match us, hl with | [_], _ => rfl⟩
  exact ok_law F15 T D_lines D_read D_spoiled D_refused D_refused_by_any D_cell_at
theorem walk {l : PySem.W.OpenLaw} {q : Program} {loose : List Str} {XP : (Str → Option Value) → Heap → Prop} {YP : World → Heap → Prop} {d : DefRec} {K : Params → PySem.W.Frag} (hn : l.most = some 63) (hdf : d.params.defaults = [])
    (hY : ∀ (w : World) (h : Heap), YP w h → (K w.params).In h)
    (F : ∀ (w : World) (mg : Str → Option Value) (fa : Addr) (h : Heap), (K w.params).In h → h.Ns mainGlobals mg → mg d.name = some (.ref fa) →
      ∃ fd : FuncData, (∀ (s : Shared) (u : Value), BindsTo s fd ⟨[u], []⟩ [("script", u)]) ∧ ∀ base : Heap, (K w.params).In base → base.Ns mainGlobals mg → FnOk l.prog w (K w.params) mg base CX0 6 fa fd ["script"] (spP (K w.params) (fun _ => .none) 1 m_law)) :
    PySem.W.WalkO q loose XP YP l.row.toRowW d [] (fun f vs => PySem.call f vs) :=
  L2.walk_of (n := 63) (k := 6) (x := "script") (CX := fun _ => CX0) (sp := fun w => spP (K w.params) (fun _ => .none) 1 m_law) hn (by decide) hdf ⟨rfl, by decide, by decide⟩ hY F (fun w H a ns hl hO hS => script_sp (law_true ns hl) hO hS) fun _ _ _ _ _ z => z
end Lw
open PySem PySem.W PyProof.Rows
set_option maxRecDepth 100000 in
set_option maxHeartbeats 0 in
theorem PySem.Challenge.cw_loopbed_k03_unread_holds : PySem.Challenge.rw_loopbed_k03_unread.Holds := by
  w_on; o_law; k_head; (case hw => w_witness2)
  k_fill
  refine Lw.walk (l := PySem.Challenge.rw_loopbed_k03_unread) rfl rfl (fun w h Y => PySem.W.kIn_of Y) ?F
  case F =>
    intro w mg fa h KX G hmg
    refine' Lw.all_mk KX G hmg ?a0 ?l0 ?c0 ?k0 ?a1 ?l1 ?c1 ?k1 ?a2 ?l2 ?c2 ?k2 ?a3 ?l3 ?c3 ?k3 ?a4 ?l4 ?c4 ?k4 ?a5 ?l5 ?c5 ?k5 ?a6 ?l6 ?c6 ?k6 ?a7 ?l7 ?c7 ?k7 ?a8 ?l8 ?c8 ?k8 ?a9 ?l9 ?c9 ?k9 ?a10 ?l10 ?c10 ?k10 ?a11 ?l11 ?c11 ?k11 ?a12 ?l12 ?c12 ?k12 ?a13 ?l13 ?c13 ?k13 ?a14 ?l14 ?c14 ?k14 ?a15 ?l15 ?c15 ?k15 ?z_ValueError ?z_all ?z_int ?z_isinstance ?z_len ?z_list ?z_range ?z_str ?g_MOST_CAST ?g_MOST_ROWS ?g_MOST_STITCHES ?g_TAKES ?h_TAKES ?g_YARNS ?h_YARNS ?nc_BedFault ?nc_LoopError ?nc_NoPattern ?nc_Unfit ?xq_NoPattern ?xk_NoPattern ?xm_NoPattern_BedFault ?xi_NoPattern_BedFault ?xm_NoPattern_LoopError ?xi_NoPattern_LoopError ?xm_NoPattern_NoPattern ?xi_NoPattern_NoPattern ?xm_NoPattern_Unfit ?xi_NoPattern_Unfit ?xv_NoPattern
    (case a0 => k_is)
    (case l0 => k_is)
    (case c0 => k_is)
    (case k0 => k_is)
    (case a1 => k_is)
    (case l1 => k_is)
    (case c1 => k_is)
    (case k1 => k_is)
    (case a2 => k_is)
    (case l2 => k_is)
    (case c2 => k_is)
    (case k2 => k_is)
    (case a3 => k_is)
    (case l3 => k_is)
    (case c3 => k_is)
    (case k3 => k_is)
    (case a4 => k_is)
    (case l4 => k_is)
    (case c4 => k_is)
    (case k4 => k_is)
    (case a5 => k_is)
    (case l5 => k_is)
    (case c5 => k_is)
    (case k5 => k_is)
    (case a6 => k_is)
    (case l6 => k_is)
    (case c6 => k_is)
    (case k6 => k_is)
    (case a7 => k_is)
    (case l7 => k_is)
    (case c7 => k_is)
    (case k7 => k_is)
    (case a8 => k_is)
    (case l8 => k_is)
    (case c8 => k_is)
    (case k8 => k_is)
    (case a9 => k_is)
    (case l9 => k_is)
    (case c9 => k_is)
    (case k9 => k_is)
    (case a10 => k_is)
    (case l10 => k_is)
    (case c10 => k_is)
    (case k10 => k_is)
    (case a11 => k_is)
    (case l11 => k_is)
    (case c11 => k_is)
    (case k11 => k_is)
    (case a12 => k_is)
    (case l12 => k_is)
    (case c12 => k_is)
    (case k12 => k_is)
    (case a13 => k_is)
    (case l13 => k_is)
    (case c13 => k_is)
    (case k13 => k_is)
    (case a14 => k_is)
    (case l14 => k_is)
    (case c14 => k_is)
    (case k14 => k_is)
    (case a15 => k_is)
    (case l15 => k_is)
    (case c15 => k_is)
    (case k15 => k_is)
    (case z_ValueError => k_is)
    (case z_all => k_is)
    (case z_int => k_is)
    (case z_isinstance => k_is)
    (case z_len => k_is)
    (case z_list => k_is)
    (case z_range => k_is)
    (case z_str => k_is)
    (case g_MOST_CAST => k_is)
    (case g_MOST_ROWS => k_is)
    (case g_MOST_STITCHES => k_is)
    (case g_TAKES => k_is)
    (case h_TAKES => kernel_rfl)
    (case g_YARNS => k_is)
    (case h_YARNS => kernel_rfl)
    (case nc_BedFault => k_is)
    (case nc_LoopError => k_is)
    (case nc_NoPattern => k_is)
    (case nc_Unfit => k_is)
    (case xq_NoPattern => kernel_rfl)
    (case xk_NoPattern => kernel_rfl)
    (case xm_NoPattern_BedFault => kernel_rfl)
    (case xi_NoPattern_BedFault => kernel_rfl)
    (case xm_NoPattern_LoopError => kernel_rfl)
    (case xi_NoPattern_LoopError => kernel_rfl)
    (case xm_NoPattern_NoPattern => kernel_rfl)
    (case xi_NoPattern_NoPattern => kernel_rfl)
    (case xm_NoPattern_Unfit => kernel_rfl)
    (case xi_NoPattern_Unfit => kernel_rfl)
    (case xv_NoPattern => kernel_rfl)
