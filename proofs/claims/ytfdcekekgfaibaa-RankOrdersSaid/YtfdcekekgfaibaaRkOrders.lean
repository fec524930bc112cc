/-
  RankOrders: the walk of the law.
-/
import Derived.Test.YtfdcekekgfaibaaRkMoves
import Derived.Test.YtfdcekekgfaibaaKB
import Derived.Deep.QuietTactic
import Derived.BigQuiet
import Derived.Deep.Draws
import Derived.Deep.Cut
import Derived.BigRegion
namespace Go.Proofs.Ytfdcekekgfaibaa
open Go.RowKit

set_option maxRecDepth 100000 in
theorem less_self (a b : Nat) : lessF a b a b = false := by
  unfold lessF
  simp
set_option maxRecDepth 100000 in
theorem less_trans (a b c d x y : Nat) (h : lessF a b c d = true) (k : lessF c d x y = true) : lessF a b x y = true := by
  unfold lessF at *
  simp only [Bool.and_eq_true, Bool.or_eq_true, decide_eq_true_eq, beq_iff_eq] at *
  obtain ⟨⟨h1, h2⟩, h3⟩ := h
  obtain ⟨⟨k1, k2⟩, k3⟩ := k
  exact ⟨⟨h1, k2⟩, by omega⟩
set_option maxRecDepth 100000 in
theorem less_total (a b c d : Nat) (h : goodF a b = true) (k : goodF c d = true) (hne : ¬ (FloatKind.f64.format.order a c = some .eq ∧ FloatKind.f64.format.order b d = some .eq)) : lessF a b c d = !lessF c d a b := by
  obtain ⟨n, m, hn, hm⟩ := good_wh h
  obtain ⟨i, j, hi, hj⟩ := good_wh k
  rw [less_at hn hm hi hj, less_at hi hj hn hm]
  have : ¬ (n = i ∧ m = j) := fun ⟨e1, e2⟩ => hne ⟨ord_eq hn hi e1, ord_eq hm hj e2⟩
  rw [Bool.eq_iff_iff]
  simp only [Bool.or_eq_true, Bool.and_eq_true, decide_eq_true_eq, beq_iff_eq, Bool.not_eq_true', Bool.or_eq_false_iff, Bool.and_eq_false_iff, decide_eq_false_iff_not, beq_eq_false_iff_ne]
  omega

set_option maxRecDepth 100000 in
set_option maxHeartbeats 1600000 in
theorem orders_walk (a b c d x y : Nat) (w : World) : Calls Try.prog 5 #[.agg #[.float .f64 a, .float .f64 b], .agg #[.float .f64 c, .float .f64 d], .agg #[.float .f64 x, .float .f64 y]] w fun e w' => e = .returned (.bool true) ∧ Below w.heap.size w w' := by
  go_enter Try.func5, Try.ntmps5
  go_wp2_with (first
    | (with_reducible refine (less_32 _).mono ?_; rintro e w' ⟨rfl, rfl⟩)
    | (with_reducible refine (less_40 _).mono ?_; rintro e w' ⟨rfl, rfl⟩))
  have hF : Hid (Below w.heap.size w (((w.alloc (.cells #[.float .f64 a, .float .f64 b] 33)).alloc (.cells #[.float .f64 c, .float .f64 d] 33)).alloc (.cells #[.float .f64 x, .float .f64 y] 33))) :=
    (((Below.refl _ _).alloc (Nat.le_refl _) _).alloc (by simp) _).alloc (by simp; omega) _
  have hB1 : Box (((w.alloc (.cells #[.float .f64 a, .float .f64 b] 33)).alloc (.cells #[.float .f64 c, .float .f64 d] 33)).alloc (.cells #[.float .f64 x, .float .f64 y] 33)) w.heap.size 33 #[.float .f64 a, .float .f64 b] := ((Box.made _ _ _).alloc _).alloc _
  have hB2 : Box (((w.alloc (.cells #[.float .f64 a, .float .f64 b] 33)).alloc (.cells #[.float .f64 c, .float .f64 d] 33)).alloc (.cells #[.float .f64 x, .float .f64 y] 33)) (w.heap.size + 1) 33 #[.float .f64 c, .float .f64 d] := by
    have h := (Box.made (w.alloc (.cells #[.float .f64 a, .float .f64 b] 33)) 33 #[.float .f64 c, .float .f64 d]).alloc (.cells #[.float .f64 x, .float .f64 y] 33)
    simpa using h
  have hB3 : Box (((w.alloc (.cells #[.float .f64 a, .float .f64 b] 33)).alloc (.cells #[.float .f64 c, .float .f64 d] 33)).alloc (.cells #[.float .f64 x, .float .f64 y] 33)) (w.heap.size + 1 + 1) 33 #[.float .f64 x, .float .f64 y] := by
    have h := Box.made ((w.alloc (.cells #[.float .f64 a, .float .f64 b] 33)).alloc (.cells #[.float .f64 c, .float .f64 d] 33)) 33 #[.float .f64 x, .float .f64 y]
    simpa using h
  generalize (((w.alloc (.cells #[.float .f64 a, .float .f64 b] 33)).alloc (.cells #[.float .f64 c, .float .f64 d] 33)).alloc (.cells #[.float .f64 x, .float .f64 y] 33)) = w3 at *
  have c0 := hB1.cell 0
  have c1 := hB1.cell 1
  have c2 := hB2.cell 0
  have c3 := hB2.cell 1
  have c4 := hB3.cell 0
  have c5 := hB3.cell 1
  simp only [List.getElem?_toArray, List.getElem?_cons_zero, List.getElem?_cons_succ] at c0 c1 c2 c3 c4 c5
  clear hB1 hB2 hB3
  go_quiet (fail)
  have hF2 : Hid (Below w.heap.size w (w3.drewN nq)) := Lib.hid (hF.out.trans ⟨rfl, rfl, rfl, Nat.le_refl _, fun _ _ => rfl⟩)
  clear hF c0 c1 c2 c3 c4 c5
  generalize w3.drewN nq = w4 at *
  have HL1 := Lib.hid (less_any a b c d)
  have HL2 := Lib.hid (rless_any a b c d)
  have HL3 := Lib.hid (less_any a b a b)
  have HL4 := Lib.hid (less_any c d x y)
  have HL5 := Lib.hid (less_any a b x y)
  have HL6 := Lib.hid (less_any c d a b)
  have HG1 := Lib.hid (good_any a b)
  have HG2 := Lib.hid (good_any c d)
  rw [less_self] at HL3
  have t1 := less_trans a b c d x y
  have t2 := less_total a b c d
  generalize lessF a b c d = l1 at *
  generalize lessF c d x y = l4 at *
  generalize lessF a b x y = l5 at *
  generalize lessF c d a b = l6 at *
  generalize goodF a b = g1 at *
  generalize goodF c d = g2 at *
  have five : (g1 = false) ∨ (g1 = true ∧ g2 = false) ∨ (g1 = true ∧ g2 = true ∧ FloatKind.f64.format.order a c = some .eq ∧ FloatKind.f64.format.order b d = some .eq) ∨ (g1 = true ∧ g2 = true ∧ (FloatKind.f64.format.order a c == some .eq) = false ∧ l6 = !l1) ∨ (g1 = true ∧ g2 = true ∧ FloatKind.f64.format.order a c = some .eq ∧ (FloatKind.f64.format.order b d == some .eq) = false ∧ l6 = !l1) := by
    have flip : l1 = (!l6) → l6 = !l1 := fun e => by rw [e]; cases l6 <;> rfl
    cases g1
    · exact .inl rfl
    · cases g2
      · exact .inr (.inl ⟨rfl, rfl⟩)
      · by_cases e1 : FloatKind.f64.format.order a c = some .eq
        · by_cases e2 : FloatKind.f64.format.order b d = some .eq
          · exact .inr (.inr (.inl ⟨rfl, rfl, e1, e2⟩))
          · exact .inr (.inr (.inr (.inr ⟨rfl, rfl, e1, by simpa using e2, flip (t2 rfl rfl (fun e => e2 e.2))⟩)))
        · exact .inr (.inr (.inr (.inl ⟨rfl, rfl, by simpa using e1, flip (t2 rfl rfl (fun e => e1 e.1))⟩)))
  have two : l1 = false ∨ (l1 = true ∧ l4 = false) ∨ (l1 = true ∧ l4 = true ∧ l5 = true) := by
    cases l1
    · exact .inl rfl
    · cases l4
      · exact .inr (.inl ⟨rfl, rfl⟩)
      · exact .inr (.inr ⟨rfl, rfl, t1 rfl rfl⟩)
  clear t1 t2
  rcases two with rfl | ⟨rfl, rfl⟩ | ⟨rfl, rfl, rfl⟩ <;> rcases five with rfl | ⟨rfl, rfl⟩ | ⟨rfl, rfl, f1, f2⟩ | ⟨rfl, rfl, f1, rfl⟩ | ⟨rfl, rfl, f1, f2, rfl⟩ <;>
  · go_wp2_with (first
      | (with_reducible refine (HL3.out _).mono ?_; rintro e w' ⟨rfl, rfl⟩)
      | (with_reducible refine (HL1.out _).mono ?_; rintro e w' ⟨rfl, rfl⟩)
      | (with_reducible refine (HL2.out _).mono ?_; rintro e w' ⟨rfl, rfl⟩)
      | (with_reducible refine (HL4.out _).mono ?_; rintro e w' ⟨rfl, rfl⟩)
      | (with_reducible refine (HL5.out _).mono ?_; rintro e w' ⟨rfl, rfl⟩)
      | (with_reducible refine (HL6.out _).mono ?_; rintro e w' ⟨rfl, rfl⟩)
      | (with_reducible refine (HG1.out _).mono ?_; rintro e w' ⟨rfl, rfl⟩)
      | (with_reducible refine (HG2.out _).mono ?_; rintro e w' ⟨rfl, rfl⟩))
    go_ret
    exact ⟨rfl, hF2.out⟩
end Go.Proofs.Ytfdcekekgfaibaa
