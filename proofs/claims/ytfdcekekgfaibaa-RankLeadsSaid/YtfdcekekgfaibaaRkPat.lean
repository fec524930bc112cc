/-
  The document's Parts and Less; Leader and Patience, the program's and the document's.
-/
import Derived.Test.YtfdcekekgfaibaaRkRef
namespace Go.Proofs.Ytfdcekekgfaibaa
open Go.RowKit

set_option maxRecDepth 100000 in
theorem parts_any (a b : Nat) (w : World) : Calls Try.prog 10 #[.complex .f64 a b] w fun e w' => e = .returned (.tuple #[.int .i64 (hgtF a b : Int), .int .i64 (rndF a b : Int), .bool (goodF a b)]) ∧ w = w' := by
  have H1 := Lib.hid (part_any 1 a (by omega))
  have H2 := Lib.hid (part_any 0 b (by omega))
  have go : ∀ (n m : Nat) (p q : Bool), (∀ w, Calls Try.prog 21 #[.float .f64 a, .int .i64 1, .int .i64 1024] w fun e w' => e = .returned (.tuple #[.int .i64 (n : Int), .bool p]) ∧ w = w') →
      (∀ w, Calls Try.prog 21 #[.float .f64 b, .int .i64 0, .int .i64 1024] w fun e w' => e = .returned (.tuple #[.int .i64 (m : Int), .bool q]) ∧ w = w') →
      Calls Try.prog 10 #[.complex .f64 a b] w fun e w' => e = .returned (if p && q then .tuple #[.int .i64 (n : Int), .int .i64 (m : Int), .bool true] else .tuple #[.int .i64 0, .int .i64 0, .bool false]) ∧ w = w' := by
    clear H1 H2
    intro n m p q h1 h2
    have H1 := Lib.hid h1
    have H2 := Lib.hid h2
    clear h1 h2
    cases p <;> cases q <;>
    · go_enter Try.func10, Try.ntmps10
      go_wp2_with (first
        | (with_reducible refine (H1.out _).mono ?_; rintro e w' ⟨rfl, rfl⟩)
        | (with_reducible refine (H2.out _).mono ?_; rintro e w' ⟨rfl, rfl⟩))
      refine bodyPost_ret (v := .tuple #[_, _, _]) (by simp [results, Try.results10, go_sem]) rfl ⟨rfl, rfl⟩
  refine (go _ _ _ _ H1.out H2.out).mono ?_
  rintro e w' ⟨rfl, rfl⟩
  refine ⟨?_, rfl⟩
  cases hg : goodF a b
  · rw [(bad_of hg).1, (bad_of hg).2]
    unfold goodF at hg
    rw [hg]
    rfl
  · obtain ⟨n, m, hn, hm⟩ := good_wh hg
    rw [(hgt_of hn hm).2.1, (hgt_of hn hm).2.2, hn, hm]
    rfl

set_option maxRecDepth 100000 in
theorem rless_any (a b c d : Nat) (w : World) : Calls Try.prog 16 #[.complex .f64 a b, .complex .f64 c d] w fun e w' => e = .returned (.bool (lessF a b c d)) ∧ w = w' := by
  have H1 := Lib.hid (parts_any a b)
  have H2 := Lib.hid (parts_any c d)
  have HL : Hid (lessF a b c d = (goodF a b && goodF c d && (decide (hgtF a b < hgtF c d) || hgtF a b == hgtF c d && decide (rndF a b < rndF c d)))) := rfl
  generalize lessF a b c d = z at *
  generalize goodF a b = g1 at *
  generalize goodF c d = g2 at *
  generalize hgtF a b = n at *
  generalize hgtF c d = k at *
  generalize rndF a b = m at *
  generalize rndF c d = j at *
  cases g1
  · have e := HL.out
    simp only [Bool.false_and] at e
    subst e
    clear HL
    go_enter Try.func16, Try.ntmps16
    go_wp2_with (first
      | (with_reducible refine (H1.out _).mono ?_; rintro e w' ⟨rfl, rfl⟩)
      | (with_reducible refine (H2.out _).mono ?_; rintro e w' ⟨rfl, rfl⟩))
    go_ret
    exact ⟨rfl, rfl⟩
  · cases g2
    · have e := HL.out
      simp only [Bool.false_and, Bool.and_false] at e
      subst e
      clear HL
      go_enter Try.func16, Try.ntmps16
      go_wp2_with (first
        | (with_reducible refine (H1.out _).mono ?_; rintro e w' ⟨rfl, rfl⟩)
        | (with_reducible refine (H2.out _).mono ?_; rintro e w' ⟨rfl, rfl⟩))
      go_ret
      exact ⟨rfl, rfl⟩
    · have HZ : Hid (∀ q : Bool, (n ≠ k → q = decide (n < k)) → (n = k → q = decide (m < j)) → q = z) := Lib.hid fun q h1 h2 => by
        rw [HL.out]
        by_cases x : n = k
        · rw [h2 x]
          subst x
          simp
        · rw [h1 x]
          simp [x]
      clear HL
      have HB : ∀ q : Bool, q = z → Ending.returned (.bool q) = Ending.returned (.bool z) := fun q e => by rw [e]
      have HB := Lib.hid HB
      by_cases x : n = k
      · subst x
        have x2 : ((n : Int) == (n : Int)) = true := by simp
        go_enter Try.func16, Try.ntmps16
        go_wp2_with (first
          | (with_reducible refine (H1.out _).mono ?_; rintro e w' ⟨rfl, rfl⟩)
          | (with_reducible refine (H2.out _).mono ?_; rintro e w' ⟨rfl, rfl⟩))
        go_ret
        exact ⟨HB.out _ (HZ.out (decide (m < j)) (fun h => absurd rfl h) (fun _ => rfl)), rfl⟩
      · have x3 : ¬ (n : Int) = (k : Int) := by omega
        have x2 : ((n : Int) == (k : Int)) = false := by simpa using x3
        have x4 : ((n : Int) != (k : Int)) = true := by simpa using x3
        go_enter Try.func16, Try.ntmps16
        go_wp2_with (first
          | (with_reducible refine (H1.out _).mono ?_; rintro e w' ⟨rfl, rfl⟩)
          | (with_reducible refine (H2.out _).mono ?_; rintro e w' ⟨rfl, rfl⟩))
        go_ret
        exact ⟨HB.out _ (HZ.out (decide (n < k)) (fun _ => rfl) (fun h => absurd h x)), rfl⟩

def leadF (n : Int) (a b : Nat) : Int := if n < 1 then 0 else ((hgtF a b : Int) + (rndF a b : Int)) % n
set_option maxRecDepth 100000 in
theorem lead_any (n : Int) (a b : Nat) (w : World) : Calls Try.prog 17 #[.int .i64 n, .complex .f64 a b] w fun e w' => e = .returned (.int .i64 (leadF n a b)) ∧ w = w' := by
  have H1 := Lib.hid (hgt_any a b)
  have H2 := Lib.hid (rnd_any a b)
  have hb := hgt_le a b
  have HL : Hid (leadF n a b = if n < 1 then 0 else ((hgtF a b : Int) + (rndF a b : Int)) % n) := rfl
  generalize leadF n a b = z at *
  generalize hgtF a b = x at *
  generalize rndF a b = y at *
  obtain ⟨hx, hy⟩ := hb
  by_cases hn : n < 1
  · have e := HL.out
    rw [if_pos hn] at e
    subst e
    clear HL
    go_enter Try.func17, Try.ntmps17
    go_wp2
    go_ret
    exact ⟨rfl, rfl⟩
  · have hn' : 1 ≤ n := by omega
    have e := HL.out
    rw [if_neg hn] at e
    have HE := Lib.hid e
    clear HL e
    go_enter Try.func17, Try.ntmps17
    go_wp2_with (first
      | (with_reducible refine (H1.out _).mono ?_; rintro e w' ⟨rfl, rfl⟩)
      | (with_reducible refine (H2.out _).mono ?_; rintro e w' ⟨rfl, rfl⟩))
    go_ret
    rw [HE.out]
    exact ⟨rfl, rfl⟩

def baseF (n : Int) : Int := if n < 1 then 1 else if 1048576 < n then 1048576 else n
def patF (n : Int) (a b : Nat) : Int := baseF n * (2 ^ (min (rndF a b) 10) : Nat)
set_option maxRecDepth 100000 in
theorem base_le (n : Int) : 1 ≤ baseF n ∧ baseF n ≤ 1048576 := by
  unfold baseF
  split
  · omega
  · split <;> omega
set_option maxRecDepth 100000 in
theorem patF_le (n : Int) (a b : Nat) : 1 ≤ patF n a b ∧ patF n a b ≤ 1073741824 := by
  unfold patF
  have hb := base_le n
  generalize baseF n = z at *
  have ht : min (rndF a b) 10 ≤ 10 := Nat.min_le_right _ _
  generalize min (rndF a b) 10 = t at *
  have h1 : 1 ≤ 2 ^ t := Nat.pow_pos (by decide)
  have h2 : 2 ^ t ≤ 2 ^ 10 := Nat.pow_le_pow_right (by decide) ht
  generalize 2 ^ t = y at *
  constructor
  · exact Int.le_trans (show (1 : Int) ≤ 1 * 1 from by decide) (Int.mul_le_mul hb.1 (by omega) (by omega) (by omega))
  · exact Int.le_trans (Int.mul_le_mul hb.2 (show (y : Int) ≤ 1024 from by omega) (by omega) (by omega)) (by decide)

set_option maxRecDepth 100000 in
theorem pat_any (n : Int) (a b : Nat) (w : World) : Calls Try.prog 18 #[.int .i64 n, .complex .f64 a b] w fun e w' => e = .returned (.int .i64 (patF n a b)) ∧ w = w' := by
  have H2 := Lib.hid (rnd_any a b)
  have hp := patF_le n a b
  have HP : Hid (patF n a b = baseF n * (2 ^ (min (rndF a b) 10) : Nat)) := rfl
  have hb := base_le n
  have HB : Hid (baseF n = min (max n 1) 1048576) := Lib.hid (by unfold baseF; split <;> (try split) <;> omega)
  generalize patF n a b = z at *
  generalize baseF n = q at *
  have hr := (hgt_le a b).2
  generalize rndF a b = r at *
  have HF : Hid (∀ X : Int, X = z → Ending.returned (.int .i64 (wrap64 X)) = Ending.returned (.int .i64 z)) := Lib.hid fun X e => by
    rw [e, show wrap64 z = z from by unfold wrap64; omega]
  have HT : Hid (∀ (X : Int) (t : Nat), min r 10 = t → X = q * (2 ^ t : Int) → X = z) := Lib.hid fun X t h e => by
    rw [e, HP.out, h, Int.natCast_pow]
    rfl
  clear HP hp
  go_enter Try.func18, Try.ntmps18
  go_wp2_with (with_reducible refine (H2.out _).mono ?_; rintro e w' ⟨rfl, rfl⟩)
  · have hq : q = 1048576 := by have := HB.out; split at * <;> omega
    go_ret
    exact ⟨HF.out 1073741824 (HT.out _ 10 (by omega) (by rw [hq]; decide)), rfl⟩
  · have hq : q = 1048576 := by have := HB.out; split at * <;> omega
    go_ret
    exact ⟨HF.out (1048576 * 2 ^ r) (HT.out _ r (by omega) (by rw [hq])), rfl⟩
  · have hq : q = 1 := by have := HB.out; omega
    go_ret
    exact ⟨HF.out 1024 (HT.out _ 10 (by omega) (by rw [hq]; decide)), rfl⟩
  · have hq : q = 1 := by have := HB.out; omega
    go_ret
    exact ⟨HF.out (2 ^ r) (HT.out _ r (by omega) (by rw [hq, Int.one_mul])), rfl⟩
  · have hq : q = n := by have := HB.out; split at * <;> omega
    go_ret
    exact ⟨HF.out (n * 1024) (HT.out _ 10 (by omega) (by rw [hq]; rfl)), rfl⟩
  · have hq : q = n := by have := HB.out; split at * <;> omega
    go_ret
    exact ⟨HF.out (n * 2 ^ r) (HT.out _ r (by omega) (by rw [hq])), rfl⟩

set_option maxRecDepth 100000 in
theorem rpat_any (n : Int) (a b : Nat) (w : World) : Calls Try.prog 19 #[.int .i64 n, .complex .f64 a b] w fun e w' => e = .returned (.int .i64 (patF n a b)) ∧ w = w' := by
  have H2 := Lib.hid (parts_any a b)
  have HP : Hid (patF n a b = baseF n * (2 ^ (min (rndF a b) 10) : Nat)) := rfl
  have hb := base_le n
  have HB : Hid (baseF n = min (max n 1) 1048576) := Lib.hid (by unfold baseF; split <;> (try split) <;> omega)
  generalize patF n a b = z at *
  generalize baseF n = q at *
  have hr := (hgt_le a b).2
  generalize rndF a b = r at *
  generalize hgtF a b = h at *
  generalize goodF a b = g at *
  have HD : Hid (∀ k : Nat, k + 1 ≤ 10 → 0 ≤ q * ((2 ^ k : Nat) : Int) ∧ q * ((2 ^ k : Nat) : Int) ≤ 536870912 ∧ 2 * (q * ((2 ^ k : Nat) : Int)) = q * ((2 ^ (k + 1) : Nat) : Int)) := Lib.hid fun k hk => by
    have h1 : 2 ^ k ≤ 2 ^ 9 := Nat.pow_le_pow_right (by decide) (by omega)
    have e : q * ((2 ^ (k + 1) : Nat) : Int) = 2 * (q * ((2 ^ k : Nat) : Int)) := by
      rw [Nat.pow_succ, Int.natCast_mul, ← Int.mul_assoc, Int.mul_comm]
      rfl
    generalize 2 ^ k = y at *
    refine ⟨Int.mul_nonneg (by omega) (by omega), ?_, e.symm⟩
    exact Int.le_trans (Int.mul_le_mul hb.2 (show (y : Int) ≤ 512 from by omega) (by omega) (by omega)) (by decide)
  go_enter Try.func19, Try.ntmps19
  go_wp2_with (with_reducible refine (H2.out _).mono ?_; rintro e w' ⟨rfl, rfl⟩)
  all_goals
    go_loop [5, 9] (fun m i => ∃ k : Nat, k ≤ 10 ∧ k ≤ r ∧ m = .int .i64 (q * ((2 ^ k : Nat) : Int)) ∧ i = .int .i64 (k : Int)) (fun _ i => 10 - (intOf i).toNat)
    case atStart =>
      refine ⟨0, by omega, by omega, ?_, rfl⟩
      congr 1
      rw [Nat.pow_zero, HB.out]
      omega
    case round =>
      obtain ⟨k, h1, h2, rfl, rfl⟩ := hrel
      by_cases hk : k < r
      · by_cases hk2 : k < 10
        · obtain ⟨d1, d2, d3⟩ := HD.out k (by omega)
          have HK := Lib.hid d3
          clear d3
          generalize q * ((2 ^ k : Nat) : Int) = y at *
          go_wp2
          go_round
          case rel => exact ⟨k + 1, by omega, by omega, by rw [← HK.out], by go_num⟩
          case measure => simp [intOf]; omega
        · have HE : Hid (Ending.returned (.int .i64 (q * ((2 ^ k : Nat) : Int))) = .returned (.int .i64 z)) := Lib.hid (by rw [HP.out, show min r 10 = k from by omega])
          generalize q * ((2 ^ k : Nat) : Int) = y at *
          go_wp2
          go_ret
          exact ⟨HE.out, rfl⟩
      · have HE : Hid (Ending.returned (.int .i64 (q * ((2 ^ k : Nat) : Int))) = .returned (.int .i64 z)) := Lib.hid (by rw [HP.out, show min r 10 = k from by omega])
        generalize q * ((2 ^ k : Nat) : Int) = y at *
        go_wp2
        go_ret
        exact ⟨HE.out, rfl⟩
end Go.Proofs.Ytfdcekekgfaibaa
