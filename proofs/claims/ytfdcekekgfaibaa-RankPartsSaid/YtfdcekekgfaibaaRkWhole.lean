/-
  Which floats are whole numbers of a place; what becomes of a whole number that is made a float. No function of the program is named here.
-/
import Derived.Test.YtfdcekekgfaibaaRkPlain
namespace Go.Proofs.Ytfdcekekgfaibaa

def magF (r : Nat) : Nat := if r < 2 ^ 52 then r else (2 ^ 52 + r % 2 ^ 52) * 2 ^ (r / 2 ^ 52 - 1)
def sgnF (s : Bool) (n : Nat) : Int := if s then -(n : Int) else (n : Int)

set_option maxRecDepth 100000 in
theorem valF_word (x : Nat) : valF x = if x % 2 ^ 63 < 2047 * 2 ^ 52 then some (sgnF (x / 2 ^ 63 % 2 == 1) (magF (x % 2 ^ 63))) else none := by
  unfold valF Ieee.Format.read
  have e1 : dbl.signWeight = 2 ^ 63 := by decide +kernel
  have e2 : dbl.binade = 2 ^ 52 := by decide +kernel
  have e3 : dbl.infRung = 2047 * 2 ^ 52 := by decide +kernel
  simp only [e1, e2, e3, least_dbl]
  generalize x % 2 ^ 63 = r
  generalize (x / 2 ^ 63 % 2 == 1) = s
  unfold magF
  by_cases h1 : r < 2 ^ 52
  · rw [if_pos h1, if_pos (by omega), if_pos h1]
    simp only [valD]
    unfold Ieee.signed sgnF
    rw [show ((-1074 : Int) + 1074).toNat = 0 from rfl]
    simp
  · rw [if_neg h1, if_neg h1]
    by_cases h2 : r < 2047 * 2 ^ 52
    · rw [if_pos h2, if_pos h2]
      simp only [valD]
      unfold Ieee.signed sgnF
      rw [show ((-1074 : Int) + ((r / 2 ^ 52 - 1 : Nat) : Int) + 1074).toNat = r / 2 ^ 52 - 1 from by omega]
      simp only [Nat.shiftLeft_eq]
    · rw [if_neg h2, if_neg h2]
      split <;> rfl

set_option maxRecDepth 100000 in
theorem magF_lt {r q : Nat} (h : r < 2 ^ 52 * (q + 1)) : magF r < 2 ^ 52 * 2 ^ q := by
  unfold magF
  have hq : 0 < 2 ^ q := Nat.pow_pos (by decide)
  by_cases h1 : r < 2 ^ 52
  · rw [if_pos h1]
    exact Nat.lt_of_lt_of_le h1 (Nat.le_mul_of_pos_right _ hq)
  · rw [if_neg h1]
    have hd : r / 2 ^ 52 ≤ q := by
      have := Nat.div_lt_of_lt_mul h
      omega
    have hd1 : 1 ≤ r / 2 ^ 52 := by omega
    have hm : r % 2 ^ 52 < 2 ^ 52 := Nat.mod_lt _ (by decide)
    have e : 2 ^ 52 * 2 ^ q = 2 ^ 53 * 2 ^ (q - 1) := by
      obtain ⟨k, rfl⟩ : ∃ k, q = k + 1 := ⟨q - 1, by omega⟩
      rw [Nat.add_sub_cancel, Nat.pow_succ]
      omega
    rw [e]
    refine Nat.lt_of_lt_of_le (Nat.mul_lt_mul_of_pos_right (show 2 ^ 52 + r % 2 ^ 52 < 2 ^ 53 from by omega) (Nat.pow_pos (by decide))) ?_
    exact Nat.mul_le_mul_left _ (Nat.pow_le_pow_right (by decide) (by omega))
set_option maxRecDepth 100000 in
theorem magF_ge {r q : Nat} (h : 2 ^ 52 * (q + 1) ≤ r) : 2 ^ 52 * 2 ^ q ≤ magF r := by
  unfold magF
  rw [if_neg (by omega)]
  have hd : q + 1 ≤ r / 2 ^ 52 := (Nat.le_div_iff_mul_le (by decide)).2 (by omega)
  exact Nat.mul_le_mul (by omega) (Nat.pow_le_pow_right (by decide) (by omega))
set_option maxRecDepth 100000 in
theorem magF_mono {r s : Nat} (h : r < s) : magF r < magF s := by
  by_cases hq : r / 2 ^ 52 = s / 2 ^ 52
  · unfold magF
    by_cases h1 : r < 2 ^ 52
    · rw [if_pos h1, if_pos (by omega)]
      exact h
    · rw [if_neg h1, if_neg (by omega), hq]
      refine Nat.mul_lt_mul_of_pos_right ?_ (Nat.pow_pos (by decide))
      omega
  · have hlt : r / 2 ^ 52 < s / 2 ^ 52 := Nat.lt_of_le_of_ne (Nat.div_le_div_right (Nat.le_of_lt h)) hq
    have a : magF r < 2 ^ 52 * 2 ^ (r / 2 ^ 52) := magF_lt (by omega)
    have b : 2 ^ 52 * 2 ^ (r / 2 ^ 52) ≤ magF s := magF_ge (by omega)
    omega
set_option maxRecDepth 100000 in
theorem magF_inj {r s : Nat} (h : magF r = magF s) : r = s := by
  rcases Nat.lt_trichotomy r s with a | a | a
  · have := magF_mono a
    omega
  · exact a
  · have := magF_mono a
    omega
set_option maxRecDepth 100000 in
theorem magF_zero {r : Nat} (h : magF r = 0) : r = 0 := magF_inj (h.trans rfl)

set_option maxRecDepth 100000 in
theorem valF_inj {x y : Nat} {v : Int} (hx : x < 2 ^ 64) (hy : y < 2 ^ 64) (h : valF x = some v) (k : valF y = some v) (hv : v ≠ 0) : x = y := by
  rw [valF_word] at h k
  split at h
  · split at k
    · injection h with h
      injection k with k
      unfold sgnF at h k
      have hm : magF (x % 2 ^ 63) = magF (y % 2 ^ 63) := by
        split at h <;> split at k <;> omega
      have hr := magF_inj hm
      by_cases a : (x / 2 ^ 63 % 2 == 1) = true
      · by_cases b : (y / 2 ^ 63 % 2 == 1) = true
        · have a' : x / 2 ^ 63 % 2 = 1 := by simpa using a
          have b' : y / 2 ^ 63 % 2 = 1 := by simpa using b
          omega
        · rw [if_pos a] at h
          rw [if_neg b] at k
          omega
      · by_cases b : (y / 2 ^ 63 % 2 == 1) = true
        · rw [if_neg a] at h
          rw [if_pos b] at k
          omega
        · have a' : ¬ x / 2 ^ 63 % 2 = 1 := by simpa using a
          have b' : ¬ y / 2 ^ 63 % 2 = 1 := by simpa using b
          omega
    · cases k
  · cases h
set_option maxRecDepth 100000 in
theorem valF_nought {x : Nat} (hx : x < 2 ^ 64) (h : valF x = some 0) : x = 0 ∨ x = 2 ^ 63 := by
  rw [valF_word] at h
  split at h
  · injection h with h
    unfold sgnF at h
    have hm : magF (x % 2 ^ 63) = 0 := by
      split at h <;> omega
    have := magF_zero hm
    omega
  · cases h

/-- A number's whole part, from lo to 1024; none: it has none. -/
def whF (lo : Nat) (x : Nat) : Option Nat :=
  match valF x with
  | some v => if v % (unitF : Int) = 0 ∧ (lo : Int) * (unitF : Int) ≤ v ∧ v ≤ 1024 * (unitF : Int) then some (v / (unitF : Int)).toNat else none
  | none => none
set_option maxRecDepth 100000 in
theorem unit_pos : (0 : Int) < (unitF : Int) := by
  unfold unitF
  exact_mod_cast Nat.pow_pos (by decide)
set_option maxRecDepth 100000 in
theorem whF_some {lo x n : Nat} (h : whF lo x = some n) : lo ≤ n ∧ n ≤ 1024 ∧ valF x = some ((n : Int) * (unitF : Int)) := by
  have hu := unit_pos
  unfold whF at h
  generalize (unitF : Int) = u at *
  cases hv : valF x with
  | none => simp only [hv] at h; cases h
  | some v =>
    simp only [hv] at h
    split at h
    · rename_i hc
      obtain ⟨h1, h2, h3⟩ := hc
      obtain ⟨k, rfl⟩ := Int.dvd_of_emod_eq_zero h1
      have e : u * k / u = k := Int.mul_ediv_cancel_left _ (by omega)
      rw [e] at h
      injection h with h
      have a : (lo : Int) ≤ k := Int.le_of_mul_le_mul_right (a := u) (by rw [Int.mul_comm k u]; exact h2) hu
      have b : k ≤ 1024 := Int.le_of_mul_le_mul_right (a := u) (by rw [Int.mul_comm k u]; exact h3) hu
      refine ⟨by omega, by omega, ?_⟩
      rw [show ((n : Nat) : Int) = k from by omega, Int.mul_comm]
    · cases h
set_option maxRecDepth 100000 in
theorem whF_of {lo x n : Nat} (h : valF x = some ((n : Int) * (unitF : Int))) (h1 : lo ≤ n) (h2 : n ≤ 1024) : whF lo x = some n := by
  have hu := unit_pos
  unfold whF
  simp only [h]
  generalize (unitF : Int) = u at *
  rw [if_pos ⟨by simp, Int.mul_le_mul_of_nonneg_right (by omega) (by omega), Int.mul_le_mul_of_nonneg_right (by omega) (by omega)⟩, Int.mul_ediv_cancel _ (by omega)]
  rfl
set_option maxRecDepth 100000 in
theorem whF_not {lo x : Nat} (h : whF lo x = none) {n : Nat} (h1 : lo ≤ n) (h2 : n ≤ 1024) : valF x ≠ some ((n : Int) * (unitF : Int)) := fun e => by
  rw [whF_of e h1 h2] at h
  cases h

set_option maxRecDepth 100000 in
theorem feq_wh {lo x n : Nat} (h : whF lo x = some n) (m : Nat) (hm : m < 1026) : feq x (nF (m : Int)) = decide (n = m) := by
  have hu := unit_pos
  rw [feq_val (whF_some h).2.2 (nF_small m hm), decide_eq_decide]
  constructor
  · intro e
    have := Int.eq_of_mul_eq_mul_right (by omega) e
    omega
  · intro e
    rw [e]
set_option maxRecDepth 100000 in
theorem feq_no {lo x : Nat} (h : whF lo x = none) (m : Nat) (h1 : lo ≤ m) (h2 : m ≤ 1024) : feq x (nF (m : Int)) = false := by
  cases hv : valF x with
  | none => exact feq_none hv (nF_small m (by omega))
  | some v =>
    rw [feq_val hv (nF_small m (by omega))]
    have := whF_not h h1 h2
    rw [hv] at this
    exact decide_eq_false (fun e => this (by rw [e]))
set_option maxRecDepth 100000 in
theorem flt_wh {lo lo' x y n m : Nat} (h : whF lo x = some n) (k : whF lo' y = some m) : flt x y = decide (n < m) := by
  have hu := unit_pos
  rw [flt_val (whF_some h).2.2 (whF_some k).2.2, decide_eq_decide]
  constructor
  · intro e
    have := Int.lt_of_mul_lt_mul_right e (by omega)
    omega
  · intro e
    exact Int.mul_lt_mul_of_pos_right (by omega) hu
set_option maxRecDepth 100000 in
theorem feq_whs {lo lo' x y n m : Nat} (h : whF lo x = some n) (k : whF lo' y = some m) : feq x y = decide (n = m) := by
  have hu := unit_pos
  rw [feq_val (whF_some h).2.2 (whF_some k).2.2, decide_eq_decide]
  constructor
  · intro e
    have := Int.eq_of_mul_eq_mul_right (by omega) e
    omega
  · intro e
    rw [e]

set_option maxRecDepth 100000 in
/-- A float between limits is cut to a whole number. -/
theorem toInt_val {x : Nat} {v : Int} (h : valF x = some v) (h0 : 0 ≤ v) : (dbl.read x).toInt .zero = some (v / (unitF : Int)) := by
  unfold valF at h
  have hp := read_place x
  generalize dbl.read x = d at *
  cases d with
  | nan => cases h
  | infinity => cases h
  | number s m i =>
    have hi := hp s m i rfl
    simp only [valD, Option.some.injEq] at h
    subst h
    unfold Ieee.Datum.toInt Ieee.Datum.integral
    simp only [Option.some.injEq]
    have c0 : ∀ n drop, Ieee.Toward.zero.cut s n drop = n / 2 ^ min drop (n.log2 + 2) := fun n drop => by
      unfold Ieee.Toward.cut
      simp [Nat.shiftLeft_eq]
    rw [c0]
    cases s
    · unfold Ieee.signed
      simp only [Bool.false_eq_true, if_false, Nat.shiftLeft_eq, Nat.pow_zero, Nat.mul_one]
      unfold unitF
      rw [← Int.natCast_ediv]
      congr 1
      by_cases hneg : i < 0
      · have e1 : i.toNat = 0 := by omega
        rw [e1, Nat.pow_zero, Nat.mul_one]
        have e3 : ∀ K a b : Nat, K = a + b → m * 2 ^ a / 2 ^ K = m / 2 ^ b := fun K a b e => by
          subst e
          rw [Nat.pow_add, Nat.mul_comm (2 ^ a), Nat.mul_div_mul_right _ _ (Nat.pow_pos (by decide))]
        have e2 := e3 1074 (i + 1074).toNat (-i).toNat (by omega)
        rw [e2]
        by_cases hd : (-i).toNat ≤ m.log2 + 2
        · rw [Nat.min_eq_left hd]
        · rw [Nat.min_eq_right (by omega)]
          have hl : m < 2 ^ (m.log2 + 1) := Nat.lt_log2_self
          rw [Nat.div_eq_of_lt (Nat.lt_of_lt_of_le hl (Nat.pow_le_pow_right (by decide) (by omega))), Nat.div_eq_of_lt (Nat.lt_of_lt_of_le hl (Nat.pow_le_pow_right (by decide) (by omega)))]
      · have e1 : (-i).toNat = 0 := by omega
        have e2 : (i + 1074).toNat = i.toNat + 1074 := by omega
        have e3 : ∀ K a : Nat, m * 2 ^ a / 1 = m * 2 ^ (a + K) / 2 ^ K := fun K a => by
          rw [Nat.div_one, Nat.pow_add, ← Nat.mul_assoc, Nat.mul_div_cancel _ (Nat.pow_pos (by decide))]
        rw [e1, e2, Nat.zero_min, Nat.pow_zero]
        exact e3 1074 i.toNat
    · unfold Ieee.signed at h0 ⊢
      simp only [if_true, Nat.shiftLeft_eq] at h0 ⊢
      have hpos : 0 < 2 ^ (i + 1074).toNat := Nat.pow_pos (by decide)
      have hm : m = 0 := by
        rcases Nat.eq_zero_or_pos m with h | h
        · exact h
        · have := Nat.mul_pos h hpos
          omega
      subst hm
      simp
def inF (lo x : Nat) : Bool := fle (nF (lo : Int)) x && fle x (nF 1024)
set_option maxRecDepth 100000 in
theorem inF_int {lo x : Nat} (hlo : lo ≤ 1) (h : inF lo x = true) : ∃ k : Nat, lo ≤ k ∧ k ≤ 1024 ∧ floatToIntVal .f64 x .i64 = some (k : Int) := by
  have hu := unit_pos
  have n1 := nF_small lo (by omega)
  have n2 : valF (nF 1024) = some (1024 * (unitF : Int)) := nF_small 1024 (by omega)
  cases hv : valF x with
  | none =>
    unfold inF at h
    rw [in_none hv n1 n2] at h
    cases h
  | some v =>
    unfold inF at h
    rw [fle_val n1 hv, fle_val hv n2] at h
    simp only [Bool.and_eq_true, decide_eq_true_eq] at h
    have hl : (0 : Int) ≤ (lo : Int) * (unitF : Int) := Int.mul_nonneg (by omega) (by omega)
    have ht := toInt_val hv (by omega)
    have a : (lo : Int) ≤ v / (unitF : Int) := (Int.le_ediv_iff_mul_le hu).2 h.1
    have b : v / (unitF : Int) ≤ 1024 := by
      have := Int.ediv_le_ediv hu h.2
      rwa [Int.mul_ediv_cancel _ (by omega)] at this
    refine ⟨(v / (unitF : Int)).toNat, by omega, by omega, ?_⟩
    unfold floatToIntVal
    have ht' : (FloatKind.f64.decode x).toInt .zero = some (v / (unitF : Int)) := ht
    rw [ht', Int.toNat_of_nonneg (by omega)]
    simp only []
    rw [if_pos ⟨Int.le_trans (show IntKind.i64.min ≤ 0 from by decide) (by omega), Int.le_trans b (by decide)⟩]
set_option maxRecDepth 100000 in
theorem inF_wh {lo x n : Nat} (hlo : lo ≤ 1) (h : whF lo x = some n) : inF lo x = true ∧ floatToIntVal .f64 x .i64 = some (n : Int) := by
  have hu := unit_pos
  obtain ⟨h1, h2, hv⟩ := whF_some h
  have n1 := nF_small lo (by omega)
  have n2 : valF (nF 1024) = some (1024 * (unitF : Int)) := nF_small 1024 (by omega)
  have hin : inF lo x = true := by
    unfold inF
    rw [fle_val n1 hv, fle_val hv n2]
    simp only [Bool.and_eq_true, decide_eq_true_eq]
    exact ⟨Int.mul_le_mul_of_nonneg_right (by omega) (by omega), Int.mul_le_mul_of_nonneg_right (by omega) (by omega)⟩
  refine ⟨hin, ?_⟩
  have ht := toInt_val hv (Int.mul_nonneg (by omega) (by omega))
  rw [Int.mul_ediv_cancel _ (by omega)] at ht
  unfold floatToIntVal
  have ht' : (FloatKind.f64.decode x).toInt .zero = some (n : Int) := ht
  rw [ht']
  simp only []
  rw [if_pos ⟨Int.le_trans (show IntKind.i64.min ≤ 0 from by decide) (by omega), Int.le_trans (show (n : Int) ≤ 1024 from by omega) (by decide)⟩]

/-- Of a place? -/
def goodF (a b : Nat) : Bool := (whF 1 a).isSome && (whF 0 b).isSome
set_option maxRecDepth 100000 in
theorem good_out {a b : Nat} (h : (inF 1 a && inF 0 b) = false) : goodF a b = false := by
  unfold goodF
  cases ha : whF 1 a with
  | none => rfl
  | some n =>
    cases hb : whF 0 b with
    | none => rfl
    | some m =>
      rw [(inF_wh (by decide) ha).1, (inF_wh (by decide) hb).1] at h
      cases h
set_option maxRecDepth 100000 in
theorem one_in {lo x k : Nat} (h1 : lo ≤ k) (h2 : k ≤ 1024) (hlo : lo ≤ 1) (hk : floatToIntVal .f64 x .i64 = some (k : Int)) : (whF lo x).isSome = feq x (nF (k : Int)) := by
  cases hx : whF lo x with
  | none => rw [feq_no hx k h1 h2]; rfl
  | some n =>
    have := (inF_wh hlo hx).2
    rw [hk] at this
    injection this with this
    rw [feq_wh hx k (by omega), decide_eq_true (by omega)]
    rfl
set_option maxRecDepth 100000 in
theorem good_in {a b : Nat} (h : inF 1 a = true) (k : inF 0 b = true) : ∃ n m : Nat, n ≤ 1024 ∧ m ≤ 1024 ∧ floatToIntVal .f64 a .i64 = some (n : Int) ∧ floatToIntVal .f64 b .i64 = some (m : Int) ∧ goodF a b = (feq a (nF (n : Int)) && feq b (nF (m : Int))) := by
  obtain ⟨n, n1, n2, n3⟩ := inF_int (by decide) h
  obtain ⟨m, m1, m2, m3⟩ := inF_int (by decide) k
  refine ⟨n, m, n2, m2, n3, m3, ?_⟩
  unfold goodF
  rw [one_in n1 n2 (by decide) n3, one_in m1 m2 (by decide) m3]
end Go.Proofs.Ytfdcekekgfaibaa
