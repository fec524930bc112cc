/-
  What the laws of rank begin with: known places; a number compared with itself.
-/
import Derived.Test.YtfdcekekgfaibaaRkPat
namespace Go.Proofs.Ytfdcekekgfaibaa
open Go.RowKit

set_option maxRecDepth 100000 in
theorem order_self (d : Ieee.Datum) (h : d.isNaN = false) : d.order d = some .eq := by
  have hc : ∀ x : Int, compare x x = Ordering.eq := fun x => by
    show compareOfLessAndEq x x = _
    unfold compareOfLessAndEq
    simp
  cases d with
  | nan => cases h
  | infinity s =>
    cases s <;> rfl
  | number s m i =>
    unfold Ieee.Datum.order
    simp only [hc]
set_option maxRecDepth 100000 in
theorem read_not_nan (s : Bool) (r : Nat) (h : r ≤ 2047 * 2 ^ 52) : (dbl.read (dbl.word s r)).isNaN = false := by
  have e1 : dbl.signWeight = 2 ^ 63 := by decide +kernel
  have e2 : dbl.binade = 2 ^ 52 := by decide +kernel
  have e3 : dbl.infRung = 2047 * 2 ^ 52 := by decide +kernel
  have e : dbl.word s r % 2 ^ 63 = r := by
    unfold Ieee.Format.word
    rw [e1]
    cases s <;> simp <;> omega
  unfold Ieee.Format.read
  simp only [e1, e2, e3, e]
  generalize (dbl.word s r / 2 ^ 63 % 2 == 1) = t
  by_cases h1 : r < 2 ^ 52
  · rw [if_pos h1]
    rfl
  · rw [if_neg h1]
    by_cases h2 : r < 2047 * 2 ^ 52
    · rw [if_pos h2]
      rfl
    · rw [if_neg h2, if_pos (by omega)]
      rfl
set_option maxRecDepth 100000 in
theorem nF_self (n : Int) : FloatKind.f64.format.order (floatOfInt .f64 n) (floatOfInt .f64 n) = some .eq := by
  refine order_self _ ?_
  by_cases hn : n = 0
  · subst hn
    decide +kernel
  · obtain ⟨r, h1, h2, h3⟩ := nearest_rung (decide (n < 0)) n.natAbs (by omega)
    have e : floatOfInt .f64 n = dbl.word (decide (n < 0)) r := h1
    rw [e]
    exact read_not_nan _ _ h3

set_option maxRecDepth 100000 in
theorem ord_33 : FloatKind.f64.format.order 4613937818241073152 4613937818241073152 = some .eq := by decide +kernel
set_option maxRecDepth 100000 in
theorem ord_22 : FloatKind.f64.format.order 4611686018427387904 4611686018427387904 = some .eq := by decide +kernel
set_option maxRecDepth 100000 in
theorem ord_44 : FloatKind.f64.format.order 4616189618054758400 4616189618054758400 = some .eq := by decide +kernel
set_option maxRecDepth 100000 in
theorem ord_00 : FloatKind.f64.format.order 0 0 = some .eq := by decide +kernel
set_option maxRecDepth 100000 in
theorem wh_3 (lo : Nat) (h : lo ≤ 3) : whF lo 4613937818241073152 = some 3 := by
  rw [show (4613937818241073152 : Nat) = nF 3 from by decide +kernel, whF_nF, if_pos (by omega)]
  rfl
set_option maxRecDepth 100000 in
theorem wh_2 (lo : Nat) (h : lo ≤ 2) : whF lo 4611686018427387904 = some 2 := by
  rw [show (4611686018427387904 : Nat) = nF 2 from by decide +kernel, whF_nF, if_pos (by omega)]
  rfl
set_option maxRecDepth 100000 in
theorem wh_4 (lo : Nat) (h : lo ≤ 4) : whF lo 4616189618054758400 = some 4 := by
  rw [show (4616189618054758400 : Nat) = nF 4 from by decide +kernel, whF_nF, if_pos (by omega)]
  rfl
set_option maxRecDepth 100000 in
theorem wh_0 : whF 0 0 = some 0 := by
  have h := whF_nF 0 0
  rw [nF_0, if_pos (by omega)] at h
  exact h
set_option maxRecDepth 100000 in
theorem at_32 (w : World) : Calls Try.prog 8 #[.int .i64 3, .int .i64 2] w fun e w' => e = .returned (.complex .f64 4613937818241073152 4611686018427387904) ∧ w = w' := by
  have h := at_any 3 2 w
  rw [show nF 3 = 4613937818241073152 from by decide +kernel, show nF 2 = 4611686018427387904 from by decide +kernel] at h
  exact h
set_option maxRecDepth 100000 in
theorem good_32 (w : World) : Calls Try.prog 9 #[.complex .f64 4613937818241073152 4611686018427387904] w fun e w' => e = .returned (.bool true) ∧ w = w' := by
  have h := good_any 4613937818241073152 4611686018427387904 w
  rw [(hgt_of (wh_3 1 (by omega)) (wh_2 0 (by omega))).1] at h
  exact h
set_option maxRecDepth 100000 in
theorem next_32 (w : World) : Calls Try.prog 13 #[.complex .f64 4613937818241073152 4611686018427387904] w fun e w' => e = .returned (.complex .f64 4613937818241073152 4613937818241073152) ∧ w = w' :=
  next_any _ _ _ _ (by decide +kernel) (by decide +kernel) w
set_option maxRecDepth 100000 in
theorem rise_32 (w : World) : Calls Try.prog 14 #[.complex .f64 4613937818241073152 4611686018427387904] w fun e w' => e = .returned (.complex .f64 4616189618054758400 0) ∧ w = w' :=
  rise_any _ _ _ (by decide +kernel) w
set_option maxRecDepth 100000 in
theorem less_32 (w : World) : Calls Try.prog 15 #[.complex .f64 4613937818241073152 4611686018427387904, .complex .f64 4613937818241073152 4613937818241073152] w fun e w' => e = .returned (.bool true) ∧ w = w' := by
  have h := less_any 4613937818241073152 4611686018427387904 4613937818241073152 4613937818241073152 w
  rw [less_at (wh_3 1 (by omega)) (wh_2 0 (by omega)) (wh_3 1 (by omega)) (wh_3 0 (by omega))] at h
  exact h
set_option maxRecDepth 100000 in
theorem less_40 (w : World) : Calls Try.prog 15 #[.complex .f64 4616189618054758400 0, .complex .f64 4613937818241073152 4613937818241073152] w fun e w' => e = .returned (.bool false) ∧ w = w' := by
  have h := less_any 4616189618054758400 0 4613937818241073152 4613937818241073152 w
  rw [less_at (wh_4 1 (by omega)) wh_0 (wh_3 1 (by omega)) (wh_3 0 (by omega))] at h
  exact h
set_option maxRecDepth 100000 in
theorem lead_32 (w : World) : Calls Try.prog 17 #[.int .i64 4, .complex .f64 4613937818241073152 4611686018427387904] w fun e w' => e = .returned (.int .i64 1) ∧ w = w' := by
  have h := lead_any 4 4613937818241073152 4611686018427387904 w
  unfold leadF at h
  rw [(hgt_of (wh_3 1 (by omega)) (wh_2 0 (by omega))).2.1, (hgt_of (wh_3 1 (by omega)) (wh_2 0 (by omega))).2.2] at h
  exact h
set_option maxRecDepth 100000 in
theorem pat_32 (w : World) : Calls Try.prog 18 #[.int .i64 10, .complex .f64 4613937818241073152 4611686018427387904] w fun e w' => e = .returned (.int .i64 40) ∧ w = w' := by
  have h := pat_any 10 4613937818241073152 4611686018427387904 w
  unfold patF at h
  rw [(hgt_of (wh_3 1 (by omega)) (wh_2 0 (by omega))).2.2] at h
  exact h

set_option maxRecDepth 100000 in
theorem parts_walk (x y : Nat) (h r : Int) (w : World) : Calls Try.prog 3 #[.float .f64 x, .float .f64 y, .int .i64 h, .int .i64 r] w fun e w' => e = .returned (.bool true) ∧ w = w' := by
  have s1 := nF_self h
  have s2 := nF_self r
  have o3 := ord_33
  have o2 := ord_22
  have HA := Lib.hid (at_any h r)
  have HG := Lib.hid (good_any x y)
  have HH := Lib.hid (hgt_any x y)
  have HR := Lib.hid (rnd_any x y)
  have HP := Lib.hid (parts_any x y)
  unfold nF at HA
  generalize goodF x y = g at *
  generalize hgtF x y = n at *
  generalize rndF x y = m at *
  go_enter Try.func3, Try.ntmps3
  go_wp2_with (first
    | (with_reducible refine (at_32 _).mono ?_; rintro e w' ⟨rfl, rfl⟩)
    | (with_reducible refine (good_32 _).mono ?_; rintro e w' ⟨rfl, rfl⟩)
    | (with_reducible refine (HA.out _).mono ?_; rintro e w' ⟨rfl, rfl⟩)
    | (with_reducible refine (HG.out _).mono ?_; rintro e w' ⟨rfl, rfl⟩)
    | (with_reducible refine (HH.out _).mono ?_; rintro e w' ⟨rfl, rfl⟩)
    | (with_reducible refine (HR.out _).mono ?_; rintro e w' ⟨rfl, rfl⟩)
    | (with_reducible refine (HP.out _).mono ?_; rintro e w' ⟨rfl, rfl⟩))
  go_ret
  exact ⟨rfl, rfl⟩
end Go.Proofs.Ytfdcekekgfaibaa
