/-
  RankMoves: the walk of the law.
-/
import Derived.Test.YtfdcekekgfaibaaRkSelf
namespace Go.Proofs.Ytfdcekekgfaibaa
open Go.RowKit

set_option maxRecDepth 100000 in
theorem made_wh {h : Int} (lo : Nat) (a : (lo : Int) ≤ h) (b : h ≤ 1024) : whF lo (nF h) = some h.toNat := by
  rw [whF_nF, if_pos ⟨a, b⟩]
set_option maxRecDepth 100000 in
theorem less_made (h r k j : Int) : lessF (nF h) (nF r) (nF k) (nF j) = decide ((1 ≤ h ∧ h ≤ 1024 ∧ 0 ≤ r ∧ r ≤ 1024) ∧ (1 ≤ k ∧ k ≤ 1024 ∧ 0 ≤ j ∧ j ≤ 1024) ∧ (h < k ∨ h = k ∧ r < j)) := by
  by_cases a : 1 ≤ h ∧ h ≤ 1024 ∧ 0 ≤ r ∧ r ≤ 1024
  · by_cases b : 1 ≤ k ∧ k ≤ 1024 ∧ 0 ≤ j ∧ j ≤ 1024
    · rw [less_at (made_wh 1 (by omega) (by omega)) (made_wh 0 (by omega) (by omega)) (made_wh 1 (by omega) (by omega)) (made_wh 0 (by omega) (by omega)), Bool.eq_iff_iff]
      simp only [Bool.or_eq_true, Bool.and_eq_true, decide_eq_true_eq, beq_iff_eq]
      omega
    · rw [less_no2 (by rw [good_made]; exact decide_eq_false b), decide_eq_false (fun e => b e.2.1)]
  · rw [less_no1 (by rw [good_made]; exact decide_eq_false a), decide_eq_false (fun e => a e.1)]
set_option maxRecDepth 100000 in
theorem next_made (h r : Int) (a : 1 ≤ h ∧ h ≤ 1024 ∧ 0 ≤ r ∧ r ≤ 1024) (w : World) : Calls Try.prog 13 #[.complex .f64 (nF h) (nF r)] w fun e w' => e = .returned (.complex .f64 (nF h) (nF (r + 1))) ∧ w = w' := by
  obtain ⟨n, rfl⟩ : ∃ n : Nat, h = (n : Int) := ⟨h.toNat, by omega⟩
  obtain ⟨m, rfl⟩ : ∃ m : Nat, r = (m : Int) := ⟨r.toNat, by omega⟩
  exact next_any _ _ _ _ (nF_zero n (by omega)) (nF_add m (by omega)) w
set_option maxRecDepth 100000 in
theorem rise_made (h r : Int) (a : 1 ≤ h ∧ h ≤ 1024 ∧ 0 ≤ r ∧ r ≤ 1024) (w : World) : Calls Try.prog 14 #[.complex .f64 (nF h) (nF r)] w fun e w' => e = .returned (.complex .f64 (nF (h + 1)) 0) ∧ w = w' := by
  obtain ⟨n, rfl⟩ : ∃ n : Nat, h = (n : Int) := ⟨h.toNat, by omega⟩
  exact rise_any _ _ _ (nF_add n (by omega)) w

set_option maxRecDepth 100000 in
set_option maxHeartbeats 1600000 in
theorem moves_walk (h r o m : Int) (w : World) : Calls Try.prog 4 #[.int .i64 h, .int .i64 r, .int .i64 o, .int .i64 m] w fun e w' => e = .returned (.bool true) ∧ w = w' := by
  have o33 := ord_33
  have o44 := ord_44
  have o00 := ord_00
  have HA := Lib.hid (at_any h r)
  by_cases hg : 1 ≤ h ∧ h ≤ 1024 ∧ 0 ≤ r ∧ r ≤ 1024
  · have HN := Lib.hid (next_made h r hg)
    have HR := Lib.hid (rise_made h r hg)
    have HA2 := Lib.hid (at_any h (r + 1))
    have HA3 := Lib.hid (at_any (h + 1) 0)
    have HA4 := Lib.hid (at_any o m)
    have HG1 := Lib.hid (good_any (nF h) (nF r))
    have HG2 := Lib.hid (good_any (nF h) (nF (r + 1)))
    have HG3 := Lib.hid (good_any (nF (h + 1)) (nF 0))
    have HL1 := Lib.hid (less_any (nF h) (nF r) (nF o) (nF m))
    have HL2 := Lib.hid (less_any (nF o) (nF m) (nF h) (nF (r + 1)))
    have HL3 := Lib.hid (less_any (nF h) (nF r) (nF h) (nF (r + 1)))
    have HL4 := Lib.hid (less_any (nF h) (nF r) (nF (h + 1)) (nF 0))
    rw [good_made, decide_eq_true hg] at HG1
    have e2 : goodF (nF h) (nF (r + 1)) = decide (r < 1024) := by
      rw [good_made, decide_eq_decide]
      omega
    have e3 : goodF (nF (h + 1)) (nF 0) = decide (h < 1024) := by
      rw [good_made, decide_eq_decide]
      omega
    have e4 : r < 1024 → lessF (nF h) (nF r) (nF h) (nF (r + 1)) = true := fun q => by
      rw [less_made]
      exact decide_eq_true (by omega)
    have e5 : h < 1024 → lessF (nF h) (nF r) (nF (h + 1)) (nF 0) = true := fun q => by
      rw [less_made]
      exact decide_eq_true (by omega)
    have e6 : lessF (nF h) (nF r) (nF o) (nF m) = true → lessF (nF o) (nF m) (nF h) (nF (r + 1)) = false := fun q => by
      rw [less_made] at q ⊢
      have := of_decide_eq_true q
      exact decide_eq_false (by omega)
    rw [e2] at HG2
    rw [e3] at HG3
    rw [nF_0] at HA3 HG3 HL4 e5
    have s1 : FloatKind.f64.format.order (nF h) (nF h) = some .eq := nF_self h
    have s2 : FloatKind.f64.format.order (nF (r + 1)) (nF (r + 1)) = some .eq := nF_self (r + 1)
    have s3 : FloatKind.f64.format.order (nF (h + 1)) (nF (h + 1)) = some .eq := nF_self (h + 1)
    clear e2 e3
    generalize lessF (nF h) (nF r) (nF h) (nF (r + 1)) = l3 at *
    generalize lessF (nF h) (nF r) (nF (h + 1)) 0 = l4 at *
    generalize lessF (nF h) (nF r) (nF o) (nF m) = l1 at *
    generalize lessF (nF o) (nF m) (nF h) (nF (r + 1)) = l2 at *
    generalize nF h = a at *
    generalize nF r = b at *
    generalize nF (h + 1) = d at *
    generalize nF (r + 1) = c at *
    generalize nF o = x at *
    generalize nF m = y at *
    obtain ⟨b1, b2, b3, b4⟩ := hg
    have key : ∀ (q1 q2 : Bool), decide (r < 1024) = q1 → decide (h < 1024) = q2 → Calls Try.prog 4 #[.int .i64 h, .int .i64 r, .int .i64 o, .int .i64 m] w fun e w' => e = .returned (.bool true) ∧ w = w' := by
      intro q1 q2 f1 f2
      rw [f1] at HG2
      rw [f2] at HG3
      cases l1
      · clear e6
        cases q1 <;> cases q2 <;> simp only [decide_eq_true_eq, decide_eq_false_iff_not] at f1 f2 <;> (try have e4' := e4 f1) <;> (try have e5' := e5 f2) <;> clear e4 e5 <;> (try subst e4') <;> (try subst e5') <;>
        · go_enter Try.func4, Try.ntmps4
          go_wp2_with (first
            | (with_reducible refine (next_32 _).mono ?_; rintro e w' ⟨rfl, rfl⟩)
            | (with_reducible refine (rise_32 _).mono ?_; rintro e w' ⟨rfl, rfl⟩)
            | (with_reducible refine (HA.out _).mono ?_; rintro e w' ⟨rfl, rfl⟩)
            | (with_reducible refine (HA2.out _).mono ?_; rintro e w' ⟨rfl, rfl⟩)
            | (with_reducible refine (HA3.out _).mono ?_; rintro e w' ⟨rfl, rfl⟩)
            | (with_reducible refine (HA4.out _).mono ?_; rintro e w' ⟨rfl, rfl⟩)
            | (with_reducible refine (HN.out _).mono ?_; rintro e w' ⟨rfl, rfl⟩)
            | (with_reducible refine (HR.out _).mono ?_; rintro e w' ⟨rfl, rfl⟩)
            | (with_reducible refine (HG1.out _).mono ?_; rintro e w' ⟨rfl, rfl⟩)
            | (with_reducible refine (HG2.out _).mono ?_; rintro e w' ⟨rfl, rfl⟩)
            | (with_reducible refine (HG3.out _).mono ?_; rintro e w' ⟨rfl, rfl⟩)
            | (with_reducible refine (HL1.out _).mono ?_; rintro e w' ⟨rfl, rfl⟩)
            | (with_reducible refine (HL3.out _).mono ?_; rintro e w' ⟨rfl, rfl⟩)
            | (with_reducible refine (HL4.out _).mono ?_; rintro e w' ⟨rfl, rfl⟩))
          go_ret
          exact ⟨rfl, rfl⟩
      · have e6' := e6 rfl
        clear e6
        subst e6'
        cases q1 <;> cases q2 <;> simp only [decide_eq_true_eq, decide_eq_false_iff_not] at f1 f2 <;> (try have e4' := e4 f1) <;> (try have e5' := e5 f2) <;> clear e4 e5 <;> (try subst e4') <;> (try subst e5') <;>
        · go_enter Try.func4, Try.ntmps4
          go_wp2_with (first
            | (with_reducible refine (next_32 _).mono ?_; rintro e w' ⟨rfl, rfl⟩)
            | (with_reducible refine (rise_32 _).mono ?_; rintro e w' ⟨rfl, rfl⟩)
            | (with_reducible refine (HA.out _).mono ?_; rintro e w' ⟨rfl, rfl⟩)
            | (with_reducible refine (HA2.out _).mono ?_; rintro e w' ⟨rfl, rfl⟩)
            | (with_reducible refine (HA3.out _).mono ?_; rintro e w' ⟨rfl, rfl⟩)
            | (with_reducible refine (HA4.out _).mono ?_; rintro e w' ⟨rfl, rfl⟩)
            | (with_reducible refine (HN.out _).mono ?_; rintro e w' ⟨rfl, rfl⟩)
            | (with_reducible refine (HR.out _).mono ?_; rintro e w' ⟨rfl, rfl⟩)
            | (with_reducible refine (HG1.out _).mono ?_; rintro e w' ⟨rfl, rfl⟩)
            | (with_reducible refine (HG2.out _).mono ?_; rintro e w' ⟨rfl, rfl⟩)
            | (with_reducible refine (HG3.out _).mono ?_; rintro e w' ⟨rfl, rfl⟩)
            | (with_reducible refine (HL1.out _).mono ?_; rintro e w' ⟨rfl, rfl⟩)
            | (with_reducible refine (HL2.out _).mono ?_; rintro e w' ⟨rfl, rfl⟩)
            | (with_reducible refine (HL3.out _).mono ?_; rintro e w' ⟨rfl, rfl⟩)
            | (with_reducible refine (HL4.out _).mono ?_; rintro e w' ⟨rfl, rfl⟩))
          go_ret
          exact ⟨rfl, rfl⟩
    exact key _ _ rfl rfl
  · have HG1 := Lib.hid (good_any (nF h) (nF r))
    rw [good_made, decide_eq_false hg] at HG1
    generalize nF h = a at *
    generalize nF r = b at *
    clear hg
    go_enter Try.func4, Try.ntmps4
    go_wp2_with (first
      | (with_reducible refine (next_32 _).mono ?_; rintro e w' ⟨rfl, rfl⟩)
      | (with_reducible refine (rise_32 _).mono ?_; rintro e w' ⟨rfl, rfl⟩)
      | (with_reducible refine (HA.out _).mono ?_; rintro e w' ⟨rfl, rfl⟩)
      | (with_reducible refine (HG1.out _).mono ?_; rintro e w' ⟨rfl, rfl⟩))
    go_ret
    exact ⟨rfl, rfl⟩
set_option maxRecDepth 100000 in
theorem moves_below (h r o m : Int) (w : World) : Calls Try.prog 4 #[.int .i64 h, .int .i64 r, .int .i64 o, .int .i64 m] w fun e w' => e = .returned (.bool true) ∧ Below w.heap.size w w' :=
  (moves_walk h r o m w).mono fun e w' ⟨a, b⟩ => ⟨a, by rw [← b]; exact Below.refl _ _⟩
end Go.Proofs.Ytfdcekekgfaibaa
