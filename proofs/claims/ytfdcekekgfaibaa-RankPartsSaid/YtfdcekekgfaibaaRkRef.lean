/-
  Less, Leader, Patience of package rank, and the document's own (Part, Parts, Less, Patience).
-/
import Derived.Test.YtfdcekekgfaibaaRkCalls
namespace Go.Proofs.Ytfdcekekgfaibaa
open Go.RowKit

set_option maxRecDepth 100000 in
theorem ord_wh {lo lo' x y n m : Nat} (h : whF lo x = some n) (k : whF lo' y = some m) : FloatKind.f64.format.order x y = some (if n < m then .lt else if n = m then .eq else .gt) := by
  have hu := unit_pos
  have h1 := order_val (whF_some h).2.2 (whF_some k).2.2
  have h2 : FloatKind.f64.format.order x y = some (compare ((n : Int) * (unitF : Int)) ((m : Int) * (unitF : Int))) := h1
  rw [h2]
  congr 1
  show compareOfLessAndEq _ _ = _
  unfold compareOfLessAndEq
  by_cases a : n < m
  · rw [if_pos a, if_pos (Int.mul_lt_mul_of_pos_right (by omega) hu)]
  · rw [if_neg a, if_neg (fun e => a (by have := Int.lt_of_mul_lt_mul_right e (by omega); omega))]
    by_cases b : n = m
    · rw [if_pos b, if_pos (by rw [b])]
    · rw [if_neg b, if_neg (fun e => b (by have := Int.eq_of_mul_eq_mul_right (by omega) e; omega))]
set_option maxRecDepth 100000 in
theorem ord_lt {lo lo' x y n m : Nat} (h : whF lo x = some n) (k : whF lo' y = some m) (e : n < m) : FloatKind.f64.format.order x y = some .lt := by
  rw [ord_wh h k, if_pos e]
set_option maxRecDepth 100000 in
theorem ord_eq {lo lo' x y n m : Nat} (h : whF lo x = some n) (k : whF lo' y = some m) (e : n = m) : FloatKind.f64.format.order x y = some .eq := by
  rw [ord_wh h k, if_neg (by omega), if_pos e]
set_option maxRecDepth 100000 in
theorem ord_gt {lo lo' x y n m : Nat} (h : whF lo x = some n) (k : whF lo' y = some m) (e : m < n) : FloatKind.f64.format.order x y = some .gt := by
  rw [ord_wh h k, if_neg (by omega), if_neg (by omega)]

set_option maxRecDepth 100000 in
theorem hgt_of {a b n m : Nat} (h : whF 1 a = some n) (k : whF 0 b = some m) : goodF a b = true ∧ hgtF a b = n ∧ rndF a b = m := by
  have hg : goodF a b = true := by
    unfold goodF
    rw [h, k]
    rfl
  refine ⟨hg, ?_, ?_⟩
  · unfold hgtF
    rw [hg, h]
    rfl
  · unfold rndF
    rw [hg, k]
    rfl
set_option maxRecDepth 100000 in
theorem bad_of {a b : Nat} (h : goodF a b = false) : hgtF a b = 0 ∧ rndF a b = 0 := by
  unfold hgtF rndF
  rw [h]
  exact ⟨rfl, rfl⟩
set_option maxRecDepth 100000 in
theorem hgt_le (a b : Nat) : hgtF a b ≤ 1024 ∧ rndF a b ≤ 1024 := by
  cases hg : goodF a b
  · rw [(bad_of hg).1, (bad_of hg).2]
    omega
  · obtain ⟨n, m, hn, hm⟩ := good_wh hg
    rw [(hgt_of hn hm).2.1, (hgt_of hn hm).2.2]
    exact ⟨(whF_some hn).2.1, (whF_some hm).2.1⟩

set_option maxRecDepth 100000 in
theorem less_no1 {a b c d : Nat} (h : goodF a b = false) : lessF a b c d = false := by
  unfold lessF
  rw [h]
  rfl
set_option maxRecDepth 100000 in
theorem less_no2 {a b c d : Nat} (h : goodF c d = false) : lessF a b c d = false := by
  unfold lessF
  rw [h]
  simp
set_option maxRecDepth 100000 in
theorem less_at {a b c d n m k j : Nat} (h1 : whF 1 a = some n) (h2 : whF 0 b = some m) (h3 : whF 1 c = some k) (h4 : whF 0 d = some j) : lessF a b c d = (decide (n < k) || n == k && decide (m < j)) := by
  obtain ⟨a1, a2, a3⟩ := hgt_of h1 h2
  obtain ⟨b1, b2, b3⟩ := hgt_of h3 h4
  unfold lessF
  rw [a1, a2, a3, b1, b2, b3]
  rfl

set_option maxRecDepth 100000 in
set_option maxHeartbeats 800000 in
theorem less_any (a b c d : Nat) (w : World) : Calls Try.prog 15 #[.complex .f64 a b, .complex .f64 c d] w fun e w' => e = .returned (.bool (lessF a b c d)) ∧ w = w' := by
  have H1 := Lib.hid (good_any a b)
  have H2 := Lib.hid (good_any c d)
  cases hg : goodF a b
  · rw [less_no1 hg]
    rw [hg] at H1
    clear hg
    go_enter Try.func15, Try.ntmps15
    go_wp2_with (with_reducible refine (H1.out _).mono ?_; rintro e w' ⟨rfl, rfl⟩)
    go_ret
    exact ⟨rfl, rfl⟩
  · cases hk : goodF c d
    · rw [less_no2 hk]
      rw [hg] at H1
      rw [hk] at H2
      clear hg hk
      go_enter Try.func15, Try.ntmps15
      go_wp2_with (first
        | (with_reducible refine (H1.out _).mono ?_; rintro e w' ⟨rfl, rfl⟩)
        | (with_reducible refine (H2.out _).mono ?_; rintro e w' ⟨rfl, rfl⟩))
      go_ret
      exact ⟨rfl, rfl⟩
    · obtain ⟨n, m, hn, hm⟩ := good_wh hg
      obtain ⟨k, j, hk', hj⟩ := good_wh hk
      rw [less_at hn hm hk' hj]
      rw [hg] at H1
      rw [hk] at H2
      clear hg hk
      have go : ∀ (o1 o2 : Ordering) (z : Bool), FloatKind.f64.format.order a c = some o1 → FloatKind.f64.format.order b d = some o2 → (if o1 = .eq then o2 == .lt else o1 == .lt) = z → Calls Try.prog 15 #[.complex .f64 a b, .complex .f64 c d] w fun e w' => e = .returned (.bool z) ∧ w = w' := by
        clear hn hm hk' hj
        intro o1 o2 z e1 e2 hz
        subst hz
        cases o1 <;> cases o2 <;>
        · go_enter Try.func15, Try.ntmps15
          go_wp2_with (first
            | (with_reducible refine (H1.out _).mono ?_; rintro e w' ⟨rfl, rfl⟩)
            | (with_reducible refine (H2.out _).mono ?_; rintro e w' ⟨rfl, rfl⟩))
          go_ret
          exact ⟨rfl, rfl⟩
      refine go _ _ _ (ord_wh hn hk') (ord_wh hm hj) ?_
      by_cases x1 : n < k
      · simp [x1]
      · by_cases x2 : n = k
        · rw [if_neg x1, if_pos x2, if_pos rfl]
          by_cases y1 : m < j
          · simp [x2, y1]
          · by_cases y2 : m = j <;> simp [x2, y1, y2]
        · simp [x1, x2]

/-- The document's: a number's whole part. -/
def rankPart (lo x : Nat) : Value := .tuple #[.int .i64 (((whF lo x).getD 0 : Nat) : Int), .bool (whF lo x).isSome]
set_option maxRecDepth 100000 in
theorem feq_is {lo x k : Nat} (h1 : lo ≤ k) (h2 : k ≤ 1024) : FloatKind.f64.format.order x (floatOfInt .f64 (k : Int)) = some .eq ↔ whF lo x = some k := by
  have e : feq x (nF (k : Int)) = true ↔ FloatKind.f64.format.order x (floatOfInt .f64 (k : Int)) = some .eq := by
    unfold feq
    simp only [beq_iff_eq]
    rfl
  rw [← e]
  cases hw : whF lo x with
  | none =>
    rw [feq_no hw k h1 h2]
    simp
  | some n =>
    rw [feq_wh hw k (by omega)]
    simp

set_option maxRecDepth 100000 in
set_option maxHeartbeats 800000 in
theorem part_any (lo x : Nat) (hlo : lo ≤ 1) (w : World) : Calls Try.prog 21 #[.float .f64 x, .int .i64 (lo : Int), .int .i64 1024] w fun e w' => e = .returned (rankPart lo x) ∧ w = w' := by
  go_enter Try.func21, Try.ntmps21
  go_wp2
  go_loop [8] (fun m => ∃ k : Nat, lo ≤ k ∧ k ≤ 1025 ∧ Hid (∀ j, lo ≤ j → j < k → whF lo x ≠ some j) ∧ m = .int .i64 (k : Int)) (fun m => 1025 - (intOf m).toNat)
  case atStart => exact ⟨lo, Nat.le_refl _, by omega, Lib.hid (fun j h1 h2 => absurd h1 (by omega)), rfl⟩
  case round =>
    obtain ⟨k, h1, h2, HN, rfl⟩ := hrel
    by_cases hk : k ≤ 1024
    · by_cases hq : FloatKind.f64.format.order x (floatOfInt .f64 (k : Int)) = some .eq
      · have hw := Lib.hid ((feq_is h1 hk).1 hq)
        go_wp2
        go_ret2
        have e : rankPart lo x = .tuple #[.int .i64 (k : Int), .bool true] := by
          unfold rankPart
          rw [hw.out]
          rfl
        rw [e]
        exact ⟨rfl, rfl⟩
      · have HN2 : Hid (∀ j, lo ≤ j → j < k + 1 → whF lo x ≠ some j) := Lib.hid fun j a b => by
          by_cases hjk : j = k
          · subst hjk
            exact fun e => hq ((feq_is h1 hk).2 e)
          · exact HN.out j a (by omega)
        have hq' : (FloatKind.f64.format.order x (floatOfInt .f64 (k : Int)) == some .eq) = false := by simpa using hq
        clear hq
        go_wp2
        go_round
        case rel => exact ⟨k + 1, by omega, by omega, HN2, by go_num⟩
        case measure => simp [intOf]; omega
    · have hw : Hid (whF lo x = none) := Lib.hid (by
        cases hx : whF lo x with
        | none => rfl
        | some j => exact absurd hx (HN.out j (whF_some hx).1 (by have := (whF_some hx).2.1; omega)))
      go_wp2
      go_ret2
      have e : rankPart lo x = .tuple #[.int .i64 0, .bool false] := by
        unfold rankPart
        rw [hw.out]
        rfl
      rw [e]
      exact ⟨rfl, rfl⟩
end Go.Proofs.Ytfdcekekgfaibaa
