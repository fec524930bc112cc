/-
  Chains on plain lists: where they lead; a chain leads just if its parts do.
-/
import Derived.Test.YtbclepdcngaonaaDoorLkStep
namespace Go.Proofs.YtbclepdcngaonaaDoor
open Go.RowKit Go.Maps Go.Sort

/-- Where links lead, from a configuration on, behind a height: the configuration at the end, how many lead or which one doesn't, and why. -/
def walkN : Int → List MemX → Int → Nat → List LkX → (Int × List MemX) × Nat × Int
  | ep, ms, _, i, [] => ((ep, ms), i, 0)
  | ep, ms, h, i, l :: r => if stepN ep ms h l = 0 then walkN l.ep l.ms l.b.height (i + 1) r else ((0, []), i, stepN ep ms h l)
def checkN (ep : Int) (ms : List MemX) (ls : List LkX) : (Int × List MemX) × Nat × Int :=
  if goodB ep ms = false then ((0, []), 0, 1) else if 1024 < ls.length then ((0, []), 0, 11) else walkN ep ms 0 0 ls
/-- What a chain is answered. -/
def ChkIs (w : World) (r : (Int × List MemX) × Nat × Int) (e : Ending) (w' : World) : Prop :=
  ∃ A c, e = .returned (.tuple #[.agg (cfgV r.1.1 A r.1.2.length c), .int .i64 (r.2.1 : Int), .int .i64 r.2.2]) ∧ MK.Own w' w.heap.size (.slice A r.1.2.length c) r.1.2 ∧ Below w.heap.size w w'
set_option maxRecDepth 100000 in
theorem ChkIs.stop {w w' : World} {k : Nat} {x : Int} {r : (Int × List MemX) × Nat × Int} (hr : r = ((0, []), k, x)) (h : Below w.heap.size w w') : ChkIs w r (.returned (.tuple #[.agg (cfgV 0 none 0 0), .int .i64 (k : Int), .int .i64 x])) w' := by
  subst hr
  exact ⟨none, 0, rfl, EK.own_nil _ _ _, h⟩

/-- The box that an answer is kept in. -/
structure CkBox (w0 : World) (r : (Int × List MemX) × Nat × Int) (g : Nat) (w : World) : Prop where
  lo : w0.heap.size ≤ g
  far : Below w0.heap.size w0 w
  box : ∃ A c, Box w g 24 (cfgV r.1.1 A r.1.2.length c) ∧ Mems w w.heap.size A r.1.2
set_option maxRecDepth 100000 in
theorem CkBox.late {w0 w w' : World} {r : (Int × List MemX) × Nat × Int} {A : Option Addr} {c : Nat} (hf : Below w0.heap.size w0 w) (ho : Mems w w.heap.size A r.1.2) (hb : Box w' w.heap.size 24 (cfgV r.1.1 A r.1.2.length c)) (hl : Below w.heap.size w w') : CkBox w0 r w.heap.size w' :=
  ⟨hf.size, hf.trans (hl.mono hf.size), A, c, hb, ho.far hl⟩
set_option maxRecDepth 100000 in
theorem CkBox.early {w0 w w' : World} {r : (Int × List MemX) × Nat × Int} {g base : Nat} {A : Option Addr} {c : Nat} {cs : Array Value} (hlo : w0.heap.size ≤ g) (hf : Below w0.heap.size w0 w) (ho : MK.Own w base (.slice A r.1.2.length c) r.1.2) (hx : Box w g 24 cs) (hb : Box w' g 24 (cfgV r.1.1 A r.1.2.length c)) (hg : w.grownBy w' (some g)) : CkBox w0 r g w' :=
  ⟨hlo, hf.trans (below_only hg hlo hf.size), A, c, hb, EK.Own.see (own_box ho hx (by decide) hg)⟩
set_option maxRecDepth 100000 in
theorem CkBox.call {w0 w w' : World} {r : (Int × List MemX) × Nat × Int} {g : Nat} (h : CkBox w0 r g w) (hb : Below w.heap.size w w') : CkBox w0 r g w' := by
  obtain ⟨A, c, h1, h2⟩ := h.box
  exact ⟨h.lo, h.far.trans (hb.mono h.far.size), A, c, h1.below hb h1.lt, h2.far hb⟩
set_option maxRecDepth 100000 in
theorem walkN_cons (ep : Int) (ms : List MemX) (h : Int) (i : Nat) (l : LkX) (r : List LkX) : walkN ep ms h i (l :: r) = if stepN ep ms h l = 0 then walkN l.ep l.ms l.b.height (i + 1) r else ((0, []), i, stepN ep ms h l) := by rw [walkN]
set_option maxRecDepth 100000 in
theorem stepN_ok {ep : Int} {ms : List MemX} {h : Int} {x : LkX} (hs : stepN ep ms h x = 0) : h < x.b.height ∧ goodB x.ep x.ms = true ∧ ep < x.ep ∧ certB ep ms x.b x.r x.vs = true ∧ cfgD x.ep x.ms = x.b.next := by
  unfold stepN at hs
  split at hs
  · cases hs
  · rename_i h1
    split at hs
    · cases hs
    · rename_i h2
      split at hs
      · rename_i h3
        have h4 : goodB x.ep x.ms = true := by
          cases hg : goodB x.ep x.ms with
          | true => rfl
          | false => exact absurd (by rw [hg]; simp) h1
        have h5 : ¬ x.b.height ≤ h := fun h5 => h1 (by rw [decide_eq_true h5]; rfl)
        have h6 : ¬ x.ep ≤ ep := fun h6 => h1 (by rw [decide_eq_true h6]; simp)
        exact ⟨by omega, h4, by omega, by simpa using h2, h3⟩
      · cases hs
set_option maxRecDepth 100000 in
theorem stepN_below {ep : Int} {ms : List MemX} {h h' : Int} {x : LkX} (hs : stepN ep ms h x = 0) (hh : h' ≤ h) : stepN ep ms h' x = 0 := by
  obtain ⟨h1, h2, h3, h4, h5⟩ := stepN_ok hs
  unfold stepN
  rw [if_neg (by
    rw [h2, decide_eq_false (by omega), decide_eq_false (by omega)]
    simp), if_neg (by rw [h4]; simp), if_pos h5]
set_option maxRecDepth 100000 in
theorem certB_epoch15 {ep : Int} {ms : List MemX} {b : BlkX} {r : Int} {xs : List VtX} (h : certB ep ms b r xs = true) : b.epoch = ep := by
  unfold certB at h
  simp only [Bool.and_eq_true, decide_eq_true_eq] at h
  exact h.2.2.1
set_option maxRecDepth 100000 in
/-- A chain goes on. -/
theorem walkN_app (ep : Int) (ms : List MemX) (h : Int) (i : Nat) (xs : List LkX) : ∀ (ys : List LkX) (E : Int) (M : List MemX) (n : Nat), walkN ep ms h i xs = ((E, M), n, 0) → ∃ h', h ≤ h' ∧ (xs = [] → h' = h) ∧ (∀ x, xs.getLast? = some x → h' = x.b.height) ∧ n = i + xs.length ∧ walkN ep ms h i (xs ++ ys) = walkN E M h' (i + xs.length) ys := by
  induction xs generalizing ep ms h i with
  | nil =>
    intro ys E M n hw
    unfold walkN at hw
    injection hw with e1 e2
    injection e1 with e3 e4
    injection e2 with e5 e6
    subst e3 e4
    exact ⟨h, Int.le_refl _, fun _ => rfl, fun x hx => (by cases hx), e5.symm, rfl⟩
  | cons l r ih =>
    intro ys E M n hw
    unfold walkN at hw
    split at hw
    · rename_i hs
      obtain ⟨h', h0, h1, h2, h3, h4⟩ := ih l.ep l.ms l.b.height (i + 1) ys E M n hw
      refine ⟨h', by have := (stepN_ok hs).1; omega, fun e => (by cases e), fun x hx => ?_, by rw [h3, List.length_cons]; omega, ?_⟩
      · cases r with
        | nil =>
          injection hx with hx
          subst hx
          exact h1 rfl
        | cons y r => exact h2 x (by rw [List.getLast?_cons_cons] at hx; exact hx)
      · rw [List.cons_append]
        show (if stepN ep ms h l = 0 then _ else _) = _
        rw [if_pos hs, h4, List.length_cons]
        congr 1
        omega
    · rename_i hs
      injection hw with e1 e2
      injection e2 with e3 e4
      exact absurd e4 hs
set_option maxRecDepth 100000 in
/-- Where a beginning doesn't lead, what it begins doesn't, at the same link. -/
theorem walkN_stop (ep : Int) (ms : List MemX) (h : Int) (i : Nat) (xs ys : List LkX) (hw : (walkN ep ms h i xs).2.2 ≠ 0) : walkN ep ms h i (xs ++ ys) = walkN ep ms h i xs := by
  induction xs generalizing ep ms h i with
  | nil => exact absurd rfl hw
  | cons l r ih =>
    rw [List.cons_append]
    unfold walkN
    unfold walkN at hw
    split
    · rename_i hs
      rw [if_pos hs] at hw
      exact ih _ _ _ _ hw
    · rfl
set_option maxRecDepth 100000 in
theorem walkN_at (ep : Int) (ms : List MemX) (h : Int) (i : Nat) (xs : List LkX) : i ≤ (walkN ep ms h i xs).2.1 ∧ (walkN ep ms h i xs).2.1 ≤ i + xs.length ∧ ((walkN ep ms h i xs).2.2 = 0 → (walkN ep ms h i xs).2.1 = i + xs.length) := by
  induction xs generalizing ep ms h i with
  | nil => exact ⟨Nat.le_refl _, Nat.le_refl _, fun _ => rfl⟩
  | cons l r ih =>
    unfold walkN
    split
    · obtain ⟨h1, h2, h3⟩ := ih l.ep l.ms l.b.height (i + 1)
      refine ⟨by omega, by rw [List.length_cons]; omega, fun e => ?_⟩
      rw [h3 e, List.length_cons]
      omega
    · rename_i hs
      exact ⟨Nat.le_refl _, by show i ≤ _; omega, fun e => absurd e hs⟩
set_option maxRecDepth 100000 in
/-- Behind a lower height a chain that leads does, too, to the same end. -/
theorem walkN_lower {ep : Int} {ms : List MemX} {h h' : Int} {i j : Nat} {xs : List LkX} (hh : h' ≤ h) (hw : (walkN ep ms h i xs).2.2 = 0) : (walkN ep ms h' j xs).2.2 = 0 ∧ (walkN ep ms h' j xs).1 = (walkN ep ms h i xs).1 := by
  have same : ∀ (xs : List LkX) (ep : Int) (ms : List MemX) (h : Int) (i j : Nat), (walkN ep ms h i xs).2.2 = (walkN ep ms h j xs).2.2 ∧ (walkN ep ms h i xs).1 = (walkN ep ms h j xs).1 := by
    intro xs
    induction xs with
    | nil => exact fun _ _ _ _ _ => ⟨rfl, rfl⟩
    | cons l r ih =>
      intro ep ms h i j
      unfold walkN
      split
      · exact ih _ _ _ _ _
      · exact ⟨rfl, rfl⟩
  cases xs with
  | nil => exact ⟨rfl, rfl⟩
  | cons l r =>
    unfold walkN at hw ⊢
    split at hw
    · rename_i hs
      rw [if_pos hs, if_pos (stepN_below hs hh)]
      obtain ⟨h1, h2⟩ := same r l.ep l.ms l.b.height (j + 1) (i + 1)
      exact ⟨h1.trans hw, h2⟩
    · rename_i hs
      exact absurd hw hs
set_option maxRecDepth 100000 in
/-- Epochs and heights rise along a chain that leads. -/
theorem walkN_step {ep : Int} {ms : List MemX} {h : Int} {i : Nat} {l : LkX} {r : List LkX} (hw : (walkN ep ms h i (l :: r)).2.2 = 0) : (h < l.b.height ∧ ep < l.ep ∧ l.b.epoch = ep ∧ goodB l.ep l.ms = true) ∧ (walkN l.ep l.ms l.b.height (i + 1) r).2.2 = 0 ∧ walkN ep ms h i (l :: r) = walkN l.ep l.ms l.b.height (i + 1) r := by
  rw [walkN_cons] at hw ⊢
  split at hw
  · rename_i hs
    obtain ⟨h1, h2, h3, h4, _⟩ := stepN_ok hs
    rw [if_pos hs]
    exact ⟨⟨h1, h3, certB_epoch15 h4, h2⟩, hw, rfl⟩
  · rename_i hs
    exact absurd hw hs
set_option maxRecDepth 100000 in
theorem walkN_good {ep : Int} {ms : List MemX} {h : Int} {i : Nat} {xs : List LkX} (hg : goodB ep ms = true) (hh : 0 ≤ h) (hw : (walkN ep ms h i xs).2.2 = 0) : goodB (walkN ep ms h i xs).1.1 (walkN ep ms h i xs).1.2 = true := by
  induction xs generalizing ep ms h i with
  | nil => exact hg
  | cons l r ih =>
    obtain ⟨⟨h1, h2, _, h4⟩, h5, h6⟩ := walkN_step hw
    rw [h6]
    exact ih h4 (by omega) h5
set_option maxRecDepth 100000 in
theorem goodB_len15 {ep : Int} {ms : List MemX} (h : goodB ep ms = true) : ms.length ≤ 10 := by
  unfold goodB inB at h
  simp only [Bool.and_eq_true, decide_eq_true_eq] at h
  omega
set_option maxRecDepth 100000 in
/-- A chain leads just if its parts do. -/
theorem checkN_parts {ep : Int} {ms : List MemX} {xs : List LkX} {a : Nat} (ha : a ≤ xs.length) (hx : xs.length ≤ 6) :
    ((checkN ep ms xs).2.2 ≠ 0 → ((checkN ep ms (xs.take a)).2.2 = 0 ∧ (checkN ep ms (xs.take a)).2.1 = a ∧ a ≤ (checkN ep ms xs).2.1) ∨ ((checkN ep ms (xs.take a)).2.2 = (checkN ep ms xs).2.2 ∧ (checkN ep ms (xs.take a)).2.1 = (checkN ep ms xs).2.1)) ∧
    ((checkN ep ms xs).2.2 = 0 → (checkN ep ms (xs.take a)).2.2 = 0 ∧ (checkN ep ms xs).2.1 = xs.length ∧ (checkN ep ms (xs.take a)).1.2.length ≤ 10 ∧ (walkN ep ms 0 0 xs).2.2 = 0 ∧
      (checkN (checkN ep ms (xs.take a)).1.1 (checkN ep ms (xs.take a)).1.2 (xs.drop a)).2.2 = 0 ∧ (checkN (checkN ep ms (xs.take a)).1.1 (checkN ep ms (xs.take a)).1.2 (xs.drop a)).1 = (checkN ep ms xs).1 ∧ (checkN ep ms xs).1.2.length ≤ 10) := by
  have un : ∀ (E : Int) (M : List MemX) (ys : List LkX), ys.length ≤ 6 → goodB E M = true → checkN E M ys = walkN E M 0 0 ys := fun E M ys hy hg => by
    unfold checkN
    rw [if_neg (by rw [hg]; simp), if_neg (by omega)]
  cases hg : goodB ep ms with
  | false =>
    have h : ∀ ys, checkN ep ms ys = ((0, []), 0, 1) := fun ys => by
      unfold checkN
      rw [if_pos hg]
    rw [h xs, h (xs.take a)]
    exact ⟨fun _ => .inr ⟨rfl, rfl⟩, fun e => by cases e⟩
  | true =>
    rw [un ep ms xs hx hg, un ep ms (xs.take a) (by rw [List.length_take]; omega) hg]
    have hap := List.take_append_drop a xs
    have hlt : (xs.take a).length = a := by rw [List.length_take]; omega
    by_cases h0 : (walkN ep ms 0 0 (xs.take a)).2.2 = 0
    rotate_left
    · have h1 := walkN_stop ep ms 0 0 (xs.take a) (xs.drop a) h0
      rw [hap] at h1
      rw [h1]
      exact ⟨fun _ => .inr ⟨rfl, rfl⟩, fun e => absurd e h0⟩
    obtain ⟨h1, h2, h3⟩ := walkN_at ep ms 0 0 (xs.take a)
    have h4 := h3 h0
    rw [hlt, Nat.zero_add] at h4
    have hw : walkN ep ms 0 0 (xs.take a) = ((((walkN ep ms 0 0 (xs.take a)).1.1, (walkN ep ms 0 0 (xs.take a)).1.2)), a, 0) := Prod.ext rfl (Prod.ext h4 h0)
    obtain ⟨h', hlo, _, _, _, happ⟩ := walkN_app ep ms 0 0 (xs.take a) (xs.drop a) _ _ _ hw
    rw [hap, hlt, Nat.zero_add] at happ
    refine ⟨fun _ => .inl ⟨h0, h4, by rw [happ]; exact (walkN_at _ _ _ _ _).1⟩, fun he => ?_⟩
    have hgm := walkN_good hg (Int.le_refl 0) h0
    rw [happ] at he
    obtain ⟨hl1, hl2⟩ := walkN_lower (h' := 0) (j := 0) hlo he
    rw [un _ _ (xs.drop a) (by rw [List.length_drop]; omega) hgm]
    refine ⟨h0, ?_, goodB_len15 hgm, by rw [happ]; exact he, hl1, by rw [happ]; exact hl2, goodB_len15 (walkN_good hg (Int.le_refl 0) (by rw [happ]; exact he))⟩
    rw [← happ] at he
    rw [(walkN_at ep ms 0 0 xs).2.2 he, Nat.zero_add]
set_option maxRecDepth 100000 in
/-- A chain that leads goes on by a link just if that leads from its end. -/
theorem checkN_grow {ep : Int} {ms : List MemX} {xs : List LkX} (hx : xs.length ≤ 5) (h0 : (checkN ep ms xs).2.2 = 0) :
    (checkN ep ms xs).2.1 = xs.length ∧ (checkN ep ms xs).1.2.length ≤ 10 ∧ ∀ (x : LkX) (h' : Int), (xs = [] → h' = 0) → (∀ y, xs.getLast? = some y → h' = y.b.height) →
      checkN ep ms (xs ++ [x]) = if stepN (checkN ep ms xs).1.1 (checkN ep ms xs).1.2 h' x = 0 then ((x.ep, x.ms), xs.length + 1, 0) else ((0, []), xs.length, stepN (checkN ep ms xs).1.1 (checkN ep ms xs).1.2 h' x) := by
  have un : ∀ (ys : List LkX), ys.length ≤ 6 → goodB ep ms = true → checkN ep ms ys = walkN ep ms 0 0 ys := fun ys hy hg => by
    unfold checkN
    rw [if_neg (by rw [hg]; simp), if_neg (by omega)]
  cases hg : goodB ep ms with
  | false =>
    unfold checkN at h0
    rw [if_pos hg] at h0
    cases h0
  | true =>
    rw [un xs (by omega) hg] at h0 ⊢
    have h1 := (walkN_at ep ms 0 0 xs).2.2 h0
    rw [Nat.zero_add] at h1
    refine ⟨h1, goodB_len15 (walkN_good hg (Int.le_refl 0) h0), fun x h' e1 e2 => ?_⟩
    have hw : walkN ep ms 0 0 xs = ((((walkN ep ms 0 0 xs).1.1, (walkN ep ms 0 0 xs).1.2)), xs.length, 0) := Prod.ext rfl (Prod.ext h1 h0)
    obtain ⟨h2, _, h3, h4, _, happ⟩ := walkN_app ep ms 0 0 xs [x] _ _ _ hw
    have e3 : h' = h2 := by
      cases hl : xs.getLast? with
      | none =>
        have he : xs = [] := by simpa using hl
        rw [e1 he, h3 he]
      | some y => rw [e2 y hl, h4 y hl]
    subst e3
    rw [un (xs ++ [x]) (by rw [List.length_append]; simp; omega) hg, happ, walkN_cons, Nat.zero_add]
    rfl
end Go.Proofs.YtbclepdcngaonaaDoor
