/-
  RankWaits: the walk of the law.
-/
import Derived.Test.YtfdcekekgfaibaaRkMoves
namespace Go.Proofs.Ytfdcekekgfaibaa
open Go.RowKit

set_option maxRecDepth 100000 in
theorem base_mono {n m : Int} (h : n ≤ m) : baseF n ≤ baseF m := by
  unfold baseF
  split <;> split <;> (try split) <;> (try split) <;> omega
set_option maxRecDepth 100000 in
theorem pat_base {n m : Int} (a b : Nat) (h : n ≤ m) : patF n a b ≤ patF m a b := by
  unfold patF
  exact Int.mul_le_mul_of_nonneg_right (base_mono h) (Int.natCast_nonneg _)
set_option maxRecDepth 100000 in
theorem pat_round (n : Int) {a b c d : Nat} (h : rndF a b ≤ rndF c d) : patF n a b ≤ patF n c d := by
  unfold patF
  have hb := base_le n
  have h2 : 2 ^ min (rndF a b) 10 ≤ 2 ^ min (rndF c d) 10 := Nat.pow_le_pow_right (by decide) (by omega)
  exact Int.mul_le_mul_of_nonneg_left (by exact_mod_cast h2) (by omega)
set_option maxRecDepth 100000 in
theorem rnd_made {h r : Int} (a : 1 ≤ h ∧ h ≤ 1024 ∧ 0 ≤ r ∧ r ≤ 1024) : rndF (nF h) (nF r) = r.toNat := (hgt_of (made_wh 1 (by omega) (by omega)) (made_wh 0 (by omega) (by omega))).2.2

set_option maxRecDepth 100000 in
theorem add_none {x : Nat} (h : (dbl.read x).isNaN = false) (y : Nat) (hy : ∃ s m i, dbl.read y = .number s m i) : ∃ z, dbl.add x y = some z := by
  obtain ⟨s, m, i, hy⟩ := hy
  unfold Ieee.Format.add
  rw [hy]
  generalize dbl.read x = d at *
  cases d with
  | nan => cases h
  | infinity t => exact ⟨_, rfl⟩
  | number t n j => exact ⟨_, rfl⟩
set_option maxRecDepth 100000 in
theorem made_not_nan (n : Int) : (dbl.read (nF n)).isNaN = false := by
  by_cases hn : n = 0
  · subst hn
    decide +kernel
  · obtain ⟨r, h1, h2, h3⟩ := nearest_rung (decide (n < 0)) n.natAbs (by omega)
    have e : nF n = dbl.word (decide (n < 0)) r := h1
    rw [e]
    exact read_not_nan _ _ h3
set_option maxRecDepth 100000 in
theorem read_0 : dbl.read 0 = .number false 0 (-1074) := by decide +kernel
set_option maxRecDepth 100000 in
theorem read_1 : dbl.read (nF 1) = .number false (2 ^ 52) (-52) := by decide +kernel

set_option maxRecDepth 100000 in
set_option maxHeartbeats 1600000 in
theorem waits_walk (n m h r : Int) (w : World) : Calls Try.prog 7 #[.int .i64 n, .int .i64 m, .int .i64 h, .int .i64 r] w fun e w' => e = .returned (.bool true) ∧ w = w' := by
  have HA := Lib.hid (at_any h r)
  by_cases hg : 1 ≤ h ∧ h ≤ 1024 ∧ 0 ≤ r ∧ r ≤ 1023 ∧ n ≤ m
  · obtain ⟨h1, h2, h3, h4, h5⟩ := hg
    have HN := Lib.hid (next_made h r ⟨h1, h2, h3, by omega⟩)
    have HG1 := Lib.hid (good_any (nF h) (nF r))
    have HG2 := Lib.hid (good_any (nF h) (nF (r + 1)))
    rw [good_made, decide_eq_true (by omega)] at HG1 HG2
    have HP1 := Lib.hid (pat_any n (nF h) (nF r))
    have HP2 := Lib.hid (pat_any n (nF h) (nF (r + 1)))
    have HP3 := Lib.hid (pat_any m (nF h) (nF r))
    have p1 := patF_le n (nF h) (nF r)
    have p2 : patF n (nF h) (nF r) ≤ patF n (nF h) (nF (r + 1)) := pat_round n (by rw [rnd_made (by omega), rnd_made (by omega)]; omega)
    have p3 : patF n (nF h) (nF r) ≤ patF m (nF h) (nF r) := pat_base _ _ h5
    generalize patF n (nF h) (nF r) = x at *
    generalize patF n (nF h) (nF (r + 1)) = y at *
    generalize patF m (nF h) (nF r) = z at *
    generalize nF h = a at *
    generalize nF r = b at *
    generalize nF (r + 1) = c at *
    obtain ⟨q1, q2⟩ := p1
    have d1 : decide (m < n) = false := decide_eq_false (by omega)
    have d2 : decide (1 ≤ x) = true := decide_eq_true (by omega)
    have d3 : decide (x ≤ 1073741824) = true := decide_eq_true (by omega)
    have d4 : decide (x ≤ y) = true := decide_eq_true (by omega)
    have d5 : decide (x ≤ z) = true := decide_eq_true (by omega)
    go_enter Try.func7, Try.ntmps7
    go_wp2_with (first
      | (with_reducible refine (pat_32 _).mono ?_; rintro e w' ⟨rfl, rfl⟩)
      | (with_reducible refine (HA.out _).mono ?_; rintro e w' ⟨rfl, rfl⟩)
      | (with_reducible refine (HN.out _).mono ?_; rintro e w' ⟨rfl, rfl⟩)
      | (with_reducible refine (HG1.out _).mono ?_; rintro e w' ⟨rfl, rfl⟩)
      | (with_reducible refine (HG2.out _).mono ?_; rintro e w' ⟨rfl, rfl⟩)
      | (with_reducible refine (HP1.out _).mono ?_; rintro e w' ⟨rfl, rfl⟩)
      | (with_reducible refine (HP2.out _).mono ?_; rintro e w' ⟨rfl, rfl⟩)
      | (with_reducible refine (HP3.out _).mono ?_; rintro e w' ⟨rfl, rfl⟩))
    go_ret
    exact ⟨rfl, rfl⟩
  · obtain ⟨a', ha'⟩ := add_none (made_not_nan h) 0 ⟨_, _, _, read_0⟩
    obtain ⟨b', hb'⟩ := add_none (made_not_nan r) (nF 1) ⟨_, _, _, read_1⟩
    have HN := Lib.hid (next_any (nF h) (nF r) a' b' ha' hb')
    have HG1 := Lib.hid (good_any (nF h) (nF r))
    have HG2 := Lib.hid (good_any a' b')
    have key : goodF a' b' = true → goodF (nF h) (nF r) = true → m < n := fun k1 k2 => by
      rw [good_made] at k2
      have k3 := of_decide_eq_true k2
      obtain ⟨i, rfl⟩ : ∃ i : Nat, h = (i : Int) := ⟨h.toNat, by omega⟩
      obtain ⟨j, rfl⟩ : ∃ j : Nat, r = (j : Int) := ⟨r.toNat, by omega⟩
      rw [nF_zero i (by omega)] at ha'
      rw [nF_add j (by omega)] at hb'
      injection ha' with ha'
      injection hb' with hb'
      subst ha' hb'
      rw [good_made] at k1
      have := of_decide_eq_true k1
      omega
    clear ha' hb' hg
    generalize goodF a' b' = g2 at *
    generalize goodF (nF h) (nF r) = g1 at *
    generalize nF h = a at *
    generalize nF r = b at *
    cases g2
    · clear key
      go_enter Try.func7, Try.ntmps7
      go_wp2_with (first
        | (with_reducible refine (pat_32 _).mono ?_; rintro e w' ⟨rfl, rfl⟩)
        | (with_reducible refine (HA.out _).mono ?_; rintro e w' ⟨rfl, rfl⟩)
        | (with_reducible refine (HN.out _).mono ?_; rintro e w' ⟨rfl, rfl⟩)
        | (with_reducible refine (HG1.out _).mono ?_; rintro e w' ⟨rfl, rfl⟩)
        | (with_reducible refine (HG2.out _).mono ?_; rintro e w' ⟨rfl, rfl⟩))
      go_ret
      exact ⟨rfl, rfl⟩
    · cases g1
      · clear key
        go_enter Try.func7, Try.ntmps7
        go_wp2_with (first
          | (with_reducible refine (pat_32 _).mono ?_; rintro e w' ⟨rfl, rfl⟩)
          | (with_reducible refine (HA.out _).mono ?_; rintro e w' ⟨rfl, rfl⟩)
          | (with_reducible refine (HN.out _).mono ?_; rintro e w' ⟨rfl, rfl⟩)
          | (with_reducible refine (HG1.out _).mono ?_; rintro e w' ⟨rfl, rfl⟩)
          | (with_reducible refine (HG2.out _).mono ?_; rintro e w' ⟨rfl, rfl⟩))
        go_ret
        exact ⟨rfl, rfl⟩
      · have k := key rfl rfl
        clear key
        go_enter Try.func7, Try.ntmps7
        go_wp2_with (first
          | (with_reducible refine (pat_32 _).mono ?_; rintro e w' ⟨rfl, rfl⟩)
          | (with_reducible refine (HA.out _).mono ?_; rintro e w' ⟨rfl, rfl⟩)
          | (with_reducible refine (HN.out _).mono ?_; rintro e w' ⟨rfl, rfl⟩)
          | (with_reducible refine (HG1.out _).mono ?_; rintro e w' ⟨rfl, rfl⟩)
          | (with_reducible refine (HG2.out _).mono ?_; rintro e w' ⟨rfl, rfl⟩))
        go_ret
        exact ⟨rfl, rfl⟩
set_option maxRecDepth 100000 in
theorem waits_below (n m h r : Int) (w : World) : Calls Try.prog 7 #[.int .i64 n, .int .i64 m, .int .i64 h, .int .i64 r] w fun e w' => e = .returned (.bool true) ∧ Below w.heap.size w w' :=
  (waits_walk n m h r w).mono fun e w' ⟨a, b⟩ => ⟨a, by rw [← b]; exact Below.refl _ _⟩
end Go.Proofs.Ytfdcekekgfaibaa
