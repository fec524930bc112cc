/-
  A whole number that is made a float: is it a place's part? One more. No function of the program is named here.
-/
import Derived.Test.YtfdcekekgfaibaaRkWhole
namespace Go.Proofs.Ytfdcekekgfaibaa

set_option maxRecDepth 100000 in
theorem cut_ge (s : Bool) (n d : Nat) (h : d ≤ n.log2 + 2) : n / 2 ^ d ≤ Ieee.Toward.even.cut s n d := by
  unfold Ieee.Toward.cut
  rw [Nat.min_eq_left h]
  simp only [Nat.shiftLeft_eq, Nat.one_mul]
  exact Nat.le_add_right _ _
set_option maxRecDepth 100000 in
theorem cut_none (s : Bool) (n : Nat) : n ≤ Ieee.Toward.even.cut s n 0 := by
  have := cut_ge s n 0 (by omega)
  rwa [Nat.pow_zero, Nat.div_one] at this

set_option maxRecDepth 100000 in
theorem nearest_rung (s : Bool) (m : Nat) (hm : m ≠ 0) : ∃ r, dbl.nearest s m 0 = dbl.word s r ∧ min ((m.log2 + 1023) * 2 ^ 52) (2047 * 2 ^ 52) ≤ r ∧ r ≤ 2047 * 2 ^ 52 := by
  unfold Ieee.Format.nearest
  rw [if_neg hm]
  have e2 : dbl.binade = 2 ^ 52 := by decide +kernel
  have e3 : dbl.infRung = 2047 * 2 ^ 52 := by decide +kernel
  have e4 : dbl.fractionBits = 52 := rfl
  simp only [e2, e3, e4, least_dbl]
  refine ⟨_, rfl, ?_, Nat.min_le_right _ _⟩
  have hl : max ((0 : Int) + (m.log2 : Nat) - (52 : Nat)) (-1074) = (m.log2 : Int) - 52 := by omega
  simp only [hl]
  have h1 : ((m.log2 : Int) - 52 - -1074).toNat = m.log2 + 1022 := by omega
  rw [h1]
  have hself : 2 ^ m.log2 ≤ m := Nat.log2_self_le hm
  have hk : 2 ^ 52 ≤ Ieee.Toward.even.cut s (m <<< ((0 : Int) - ((m.log2 : Int) - 52)).toNat) ((m.log2 : Int) - 52 - 0).toNat := by
    by_cases h : m.log2 ≤ 52
    · have a : ((m.log2 : Int) - 52 - 0).toNat = 0 := by omega
      have b : ((0 : Int) - ((m.log2 : Int) - 52)).toNat = 52 - m.log2 := by omega
      rw [a, b]
      refine Nat.le_trans ?_ (cut_none _ _)
      rw [Nat.shiftLeft_eq]
      have c : 2 ^ 52 = 2 ^ m.log2 * 2 ^ (52 - m.log2) := by
        rw [← Nat.pow_add]
        congr 1
        omega
      rw [c]
      exact Nat.mul_le_mul_right _ hself
    · have a : ((m.log2 : Int) - 52 - 0).toNat = m.log2 - 52 := by omega
      have b : ((0 : Int) - ((m.log2 : Int) - 52)).toNat = 0 := by omega
      rw [a, b, Nat.shiftLeft_zero]
      refine Nat.le_trans ?_ (cut_ge _ _ _ (by omega))
      rw [Nat.le_div_iff_mul_le (Nat.pow_pos (by decide)), ← Nat.pow_add]
      rwa [show 52 + (m.log2 - 52) = m.log2 from by omega]
  generalize Ieee.Toward.even.cut s _ _ = kept at *
  have hmul : (m.log2 + 1023) * 2 ^ 52 = (m.log2 + 1022) * 2 ^ 52 + 2 ^ 52 := by
    rw [show m.log2 + 1023 = m.log2 + 1022 + 1 from rfl, Nat.add_mul, Nat.one_mul]
  have hz : (m.log2 + 1023) * 2 ^ 52 ≤ (m.log2 + 1022) * 2 ^ 52 + kept := by
    rw [hmul]
    exact Nat.add_le_add_left hk _
  exact Nat.le_min.2 ⟨Nat.le_trans (Nat.min_le_left _ _) hz, Nat.min_le_right _ _⟩

set_option maxRecDepth 100000 in
theorem mag_big {L r q : Nat} (h : (L + 1023) * 2 ^ 52 ≤ r) (hq : q + 1 ≤ L + 1023) : 2 ^ 52 * 2 ^ q ≤ magF r :=
  magF_ge (by rw [Nat.mul_comm]; exact Nat.le_trans (Nat.mul_le_mul_right _ hq) h)
set_option maxRecDepth 100000 in
theorem pos_two (a b : Nat) : 0 < 2 ^ a * 2 ^ b := Nat.mul_pos (Nat.pow_pos (by decide)) (Nat.pow_pos (by decide))
set_option maxRecDepth 100000 in
theorem fin_neg {z y : Nat} {a : Int} (h : -(z : Int) = a) (h0 : 0 ≤ a) (hy : 0 < y) (hz : y ≤ z) : False := by omega
set_option maxRecDepth 100000 in
theorem fin_pos {z t u : Nat} (h : z = t) (a : 2048 * u ≤ z) (b : t ≤ 1024 * u) (hu : 0 < u) : False := by omega
set_option maxRecDepth 100000 in
theorem min_of {a b r : Nat} (h : min a b ≤ r) (k : r < b) : a ≤ r := by omega

set_option maxRecDepth 100000 in
theorem nF_read (n : Int) (hn : n ≠ 0) : ∃ r, min ((n.natAbs.log2 + 1023) * 2 ^ 52) (2047 * 2 ^ 52) ≤ r ∧ valF (nF n) = if r < 2047 * 2 ^ 52 then some (sgnF (decide (n < 0)) (magF r)) else none := by
  obtain ⟨r, h1, h2, h3⟩ := nearest_rung (decide (n < 0)) n.natAbs (by omega)
  refine ⟨r, h2, ?_⟩
  have e : nF n = dbl.word (decide (n < 0)) r := h1
  rw [e, valF_word]
  have e1 : dbl.signWeight = 2 ^ 63 := by decide +kernel
  unfold Ieee.Format.word
  rw [e1]
  by_cases hneg : n < 0
  · simp only [hneg, decide_true, if_true]
    rw [show (2 ^ 63 + r) % 2 ^ 63 = r from by omega, show (2 ^ 63 + r) / 2 ^ 63 % 2 = 1 from by omega]
    rfl
  · simp only [hneg, decide_false, Bool.false_eq_true, if_false]
    rw [show r % 2 ^ 63 = r from by omega, show r / 2 ^ 63 % 2 = 0 from by omega]
    rfl

set_option maxRecDepth 100000 in
theorem nF_mid : ∀ n : Nat, n < 2048 → 1024 < n → valF (nF (n : Int)) = some ((n : Int) * (unitF : Int)) := by
  decide +kernel

set_option maxRecDepth 100000 in
theorem unit_mag : 2 ^ 52 * 2 ^ 1032 = 1024 * unitF := by decide +kernel
set_option maxRecDepth 100000 in
theorem unit_mag2 : 2 ^ 52 * 2 ^ 1033 = 2048 * unitF := by decide +kernel

set_option maxRecDepth 100000 in
/-- A whole number made a float is a place's part just if it is one. -/
theorem whF_nF (lo : Nat) (n : Int) : whF lo (nF n) = if (lo : Int) ≤ n ∧ n ≤ 1024 then some n.toNat else none := by
  have hu := unit_pos
  have tell : ∀ {m : Nat}, whF lo (nF n) = some m → ¬ ((lo : Int) ≤ n ∧ n ≤ 1024) → 0 ≤ n → n < 2048 → False := fun {m} hw hn h0 h1 => by
    obtain ⟨a, b, c⟩ := whF_some hw
    have hv : valF (nF n) = some (n * (unitF : Int)) := by
      obtain ⟨k, rfl⟩ : ∃ k : Nat, n = (k : Int) := ⟨n.toNat, by omega⟩
      by_cases hk : k < 1026
      · exact nF_small k hk
      · exact nF_mid k (by omega) (by omega)
    rw [hv] at c
    injection c with c
    have := Int.eq_of_mul_eq_mul_right (by omega) c
    omega
  by_cases h : (lo : Int) ≤ n ∧ n ≤ 1024
  · rw [if_pos h]
    obtain ⟨k, rfl⟩ : ∃ k : Nat, n = (k : Int) := ⟨n.toNat, by omega⟩
    exact whF_of (nF_small k (by omega)) (by omega) (by omega)
  · rw [if_neg h]
    cases hw : whF lo (nF n) with
    | none => rfl
    | some m =>
      exfalso
      by_cases hr : 0 ≤ n ∧ n < 2048
      · exact tell hw h hr.1 hr.2
      · obtain ⟨a, b, c⟩ := whF_some hw
        obtain ⟨r, r1, r2⟩ := nF_read n (by omega)
        rw [r2] at c
        split at c
        · rename_i hlt
          injection c with c
          have hr1 := min_of r1 hlt
          clear r1 r2
          by_cases hneg : n < 0
          · simp only [hneg, decide_true] at c
            unfold sgnF at c
            simp only [if_true] at c
            exact fin_neg c (Int.mul_nonneg (Int.natCast_nonneg _) (Int.le_of_lt hu)) (pos_two 52 1022) (mag_big (q := 1022) hr1 (Nat.le_add_left 1023 _))
          · simp only [hneg, decide_false] at c
            unfold sgnF at c
            simp only [Bool.false_eq_true, if_false] at c
            have hlog : 11 ≤ n.natAbs.log2 := (Nat.le_log2 (by omega)).2 (by omega)
            have hm := mag_big (q := 1033) hr1 (Nat.add_le_add_right hlog 1023)
            rw [unit_mag2] at hm
            exact fin_pos (by exact_mod_cast c) hm (Nat.mul_le_mul_right _ b) (by exact_mod_cast hu)
        · cases c

set_option maxRecDepth 100000 in
theorem good_made (h r : Int) : goodF (nF h) (nF r) = decide (1 ≤ h ∧ h ≤ 1024 ∧ 0 ≤ r ∧ r ≤ 1024) := by
  unfold goodF
  rw [whF_nF, whF_nF, Bool.eq_iff_iff]
  by_cases a : ((1 : Nat) : Int) ≤ h ∧ h ≤ 1024
  · by_cases b : ((0 : Nat) : Int) ≤ r ∧ r ≤ 1024
    · rw [if_pos a, if_pos b]
      simp
      omega
    · rw [if_pos a, if_neg b]
      simp
      omega
  · rw [if_neg a]
    simp
    omega
end Go.Proofs.Ytfdcekekgfaibaa
