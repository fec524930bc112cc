/-
  Floats as whole numbers of units 2^-1074: what a word stands for, how two compare, which words are the whole numbers of a place. No function of the program is named here.
-/
import Derived.Laws.FloatArith
import Derived.Laws.ComplexArith
namespace Go.Proofs.Ytfdcekekgfaibaa

abbrev dbl : Ieee.Format := Ieee.double
def unitF : Nat := 2 ^ 1074

/-- What a word stands for, in units of 2^-1074; none: no number, or infinite. -/
def valD : Ieee.Datum → Option Int
  | .number s m i => some (Ieee.signed s m (i + 1074).toNat)
  | _ => none
def valF (x : Nat) : Option Int := valD (dbl.read x)
def nF (n : Int) : Nat := floatOfInt .f64 n

set_option maxRecDepth 100000 in
theorem least_dbl : dbl.leastPlace = -1074 := by decide +kernel

set_option maxRecDepth 100000 in
theorem read_place (x : Nat) (s : Bool) (m : Nat) (i : Int) (h : dbl.read x = .number s m i) : -1074 ≤ i := by
  unfold Ieee.Format.read at h
  simp only [least_dbl] at h
  split at h
  · injection h with _ _ h3
    omega
  · split at h
    · injection h with _ _ h3
      omega
    · split at h <;> cases h

set_option maxRecDepth 100000 in
theorem signed_add (s : Bool) (m a b : Nat) : Ieee.signed s m (a + b) = Ieee.signed s m a * (2 ^ b : Nat) := by
  unfold Ieee.signed
  simp only [Nat.shiftLeft_eq]
  cases s
  · simp only [Bool.false_eq_true, if_false]
    rw [← Int.natCast_mul]
    congr 1
    rw [Nat.pow_add, Nat.mul_assoc]
  · simp only [if_true]
    rw [Int.neg_mul, ← Int.natCast_mul]
    congr 2
    rw [Nat.pow_add, Nat.mul_assoc]

set_option maxRecDepth 100000 in
theorem compare_scale (a b : Int) (k : Nat) : compare (a * (2 ^ k : Nat)) (b * (2 ^ k : Nat)) = compare a b := by
  have hk : (0 : Int) < ((2 ^ k : Nat) : Int) := by exact_mod_cast Nat.pow_pos (by decide)
  show compareOfLessAndEq _ _ = compareOfLessAndEq _ _
  unfold compareOfLessAndEq
  by_cases h1 : a < b
  · rw [if_pos h1, if_pos (Int.mul_lt_mul_of_pos_right h1 hk)]
  · have h1' : ¬ a * (2 ^ k : Nat) < b * (2 ^ k : Nat) := fun h => h1 (Int.lt_of_mul_lt_mul_right h (Int.le_of_lt hk))
    rw [if_neg h1, if_neg h1']
    by_cases h2 : a = b
    · rw [if_pos h2, if_pos (by rw [h2])]
    · rw [if_neg h2, if_neg (fun h => h2 (Int.eq_of_mul_eq_mul_right (by omega) h))]

set_option maxRecDepth 100000 in
theorem order_val {x y : Nat} {a b : Int} (hx : valF x = some a) (hy : valF y = some b) : dbl.order x y = some (compare a b) := by
  unfold valF at hx hy
  have px := read_place x
  have py := read_place y
  unfold Ieee.Format.order
  generalize dbl.read x = dx at *
  generalize dbl.read y = dy at *
  cases dx with
  | nan => cases hx
  | infinity => cases hx
  | number s m i =>
    cases dy with
    | nan => cases hy
    | infinity => cases hy
    | number t n j =>
      have hi := px s m i rfl
      have hj := py t n j rfl
      simp only [valD, Option.some.injEq] at hx hy
      unfold Ieee.Datum.order
      simp only [Option.some.injEq]
      have e1 : (i + 1074).toNat = (i - min i j).toNat + (min i j + 1074).toNat := by omega
      have e2 : (j + 1074).toNat = (j - min i j).toNat + (min i j + 1074).toNat := by omega
      rw [← hx, ← hy, e1, e2, signed_add, signed_add, compare_scale]

/-- At least, at most: what 'within' asks. -/
def fle (a b : Nat) : Bool := dbl.order a b == some .lt || dbl.order a b == some .eq
def feq (a b : Nat) : Bool := dbl.order a b == some .eq
def flt (a b : Nat) : Bool := dbl.order a b == some .lt

set_option maxRecDepth 100000 in
theorem cmp_lt (a b : Int) : (compare a b == Ordering.lt) = decide (a < b) := by
  show (compareOfLessAndEq a b == Ordering.lt) = _
  unfold compareOfLessAndEq
  by_cases h1 : a < b
  · simp [h1]
  · by_cases h2 : a = b <;> simp [h1, h2]
set_option maxRecDepth 100000 in
theorem cmp_eq (a b : Int) : (compare a b == Ordering.eq) = decide (a = b) := by
  show (compareOfLessAndEq a b == Ordering.eq) = _
  unfold compareOfLessAndEq
  by_cases h1 : a < b
  · have : a ≠ b := by omega
    simp [h1, this]
  · by_cases h2 : a = b <;> simp [h1, h2]
set_option maxRecDepth 100000 in
theorem flt_val {x y : Nat} {a b : Int} (hx : valF x = some a) (hy : valF y = some b) : flt x y = decide (a < b) := by
  unfold flt
  rw [order_val hx hy, ← cmp_lt]
  rfl
set_option maxRecDepth 100000 in
theorem feq_val {x y : Nat} {a b : Int} (hx : valF x = some a) (hy : valF y = some b) : feq x y = decide (a = b) := by
  unfold feq
  rw [order_val hx hy, ← cmp_eq]
  rfl
set_option maxRecDepth 100000 in
theorem fle_val {x y : Nat} {a b : Int} (hx : valF x = some a) (hy : valF y = some b) : fle x y = decide (a ≤ b) := by
  have h1 := flt_val hx hy
  have h2 := feq_val hx hy
  unfold flt at h1
  unfold feq at h2
  unfold fle
  rw [h1, h2, Bool.eq_iff_iff]
  simp
  omega
set_option maxRecDepth 100000 in
theorem feq_none {x y : Nat} {b : Int} (hx : valF x = none) (hy : valF y = some b) : feq x y = false := by
  unfold valF at hx hy
  unfold feq Ieee.Format.order
  generalize dbl.read x = dx at *
  generalize dbl.read y = dy at *
  cases dy with
  | nan => cases hy
  | infinity => cases hy
  | number t n j =>
    cases dx with
    | nan => rfl
    | infinity s => cases s <;> rfl
    | number => cases hx
set_option maxRecDepth 100000 in
theorem in_none {x lo hi : Nat} {a b : Int} (hx : valF x = none) (hl : valF lo = some a) (hh : valF hi = some b) : (fle lo x && fle x hi) = false := by
  unfold valF at hx hl hh
  unfold fle Ieee.Format.order
  generalize dbl.read x = dx at *
  generalize dbl.read lo = dl at *
  generalize dbl.read hi = dh at *
  cases dl with
  | nan => cases hl
  | infinity => cases hl
  | number t n j =>
    cases dh with
    | nan => cases hh
    | infinity => cases hh
    | number t2 n2 j2 =>
      cases dx with
      | nan => rfl
      | infinity s => cases s <;> rfl
      | number => cases hx

set_option maxRecDepth 100000 in
/-- The words of small whole numbers. -/
theorem nF_small : ∀ n : Nat, n < 1026 → valF (nF (n : Int)) = some ((n : Int) * (unitF : Int)) := by
  decide +kernel
set_option maxRecDepth 100000 in
/-- One more, and none more, of a small number. -/
theorem nF_add : ∀ n : Nat, n < 1026 → dbl.add (nF (n : Int)) (nF 1) = some (nF ((n : Int) + 1)) := by
  decide +kernel
set_option maxRecDepth 100000 in
theorem nF_zero : ∀ n : Nat, n < 1026 → dbl.add (nF (n : Int)) 0 = some (nF (n : Int)) := by
  decide +kernel
end Go.Proofs.Ytfdcekekgfaibaa
