/-
  Plain facts on bytes and numbers: what a list of bytes is as a number, the highest first. No program, no memory.
-/
import Derived.Laws.BitsAllLaws
import Derived.Laws.BitsLemmas
import Derived.RowKit
namespace Go.Proofs.YtdgedhaiefingaaDoor
open Go.RowKit

/-- The number of bytes, the highest first. -/
def beNat (l : List UInt8) : Nat := l.foldl (fun n b => n * 256 + b.toNat) 0
theorem beNat_snoc (l : List UInt8) (b : UInt8) : beNat (l ++ [b]) = beNat l * 256 + b.toNat := by simp [beNat]
theorem beNat_nil : beNat [] = 0 := rfl
theorem beNat_lt : ∀ (n : Nat) (l : List UInt8), l.length = n → beNat l < 256 ^ n := by
  intro n
  induction n with
  | zero => intro l hl; rw [List.eq_nil_of_length_eq_zero hl]; decide
  | succ n ih =>
    intro l hl
    have hne : l ≠ [] := by intro h; rw [h] at hl; simp at hl
    have e := List.dropLast_concat_getLast hne
    rw [← e, beNat_snoc]
    have h1 := ih l.dropLast (by simp [hl])
    have h2 : (l.getLast hne).toNat < 256 := UInt8.toNat_lt _
    rw [Nat.pow_succ]
    omega
theorem beNat_lt7 (l : List UInt8) (h : l.length ≤ 7) : beNat l < 72057594037927936 :=
  Nat.lt_of_lt_of_le (beNat_lt _ l rfl) (Nat.le_trans (Nat.pow_le_pow_right (by decide) h) (by decide))
theorem beNat_lt8 (l : List UInt8) (h : l.length ≤ 8) : beNat l < 18446744073709551616 :=
  Nat.lt_of_lt_of_le (beNat_lt _ l rfl) (Nat.le_trans (Nat.pow_le_pow_right (by decide) h) (by decide))
theorem beNat_lt4 (l : List UInt8) (h : l.length ≤ 4) : beNat l < 4294967296 :=
  Nat.lt_of_lt_of_le (beNat_lt _ l rfl) (Nat.le_trans (Nat.pow_le_pow_right (by decide) h) (by decide))
theorem beNat_lt3 (l : List UInt8) (h : l.length ≤ 3) : beNat l < 16777216 :=
  Nat.lt_of_lt_of_le (beNat_lt _ l rfl) (Nat.le_trans (Nat.pow_le_pow_right (by decide) h) (by decide))
theorem take_snoc' {α : Type} (l : List α) (k : Nat) (h : k < l.length) : l.take (k + 1) = l.take k ++ [l[k]] := by
  rw [List.take_succ_eq_append_getElem h]

/-- 'n<<8 | c' of words that have room. -/
theorem or_u64 (a b : Nat) (ha : a < 72057594037927936) (hb : b < 256) : bits .or .u64 ((a : Int) * 256) (b : Int) = (a : Int) * 256 + b := by
  rw [u64_or _ _ (by omega) (by omega) (by omega) (by omega)]
  have e1 : ((a : Int) * 256).toNat = a * 256 := by omega
  have e2 : ((b : Int)).toNat = b := by omega
  rw [e1, e2, nat_join 8 (a * 256) b (by omega) (by omega)]
  omega
theorem ofInt_wrap_i64 (x : Int) : BitVec.ofInt 64 (IntKind.i64.wrap x) = BitVec.ofInt 64 x := by
  rw [IntKind.wrap_i64]
  apply BitVec.eq_of_toInt_eq
  rw [BitVec.toInt_ofInt, BitVec.toInt_ofInt]
  simp only [Int.bmod_def]
  omega
/-- The same on a signed word: the highest byte may make it negative. -/
theorem or_i64 (a b : Nat) (ha : a < 72057594037927936) (hb : b < 256) : bits .or .i64 (IntKind.i64.wrap ((a : Int) * 256)) (b : Int) = IntKind.i64.wrap ((a : Int) * 256 + b) := by
  show IntKind.i64.wrap ((BitVec.ofInt 64 (IntKind.i64.wrap ((a : Int) * 256)) ||| BitVec.ofInt 64 (b : Int)).toNat : Int) = _
  have e : ((a * 256 : Nat) : Int) = (a : Int) * 256 := by omega
  rw [ofInt_wrap_i64, ← e, BitVec.toNat_or, ofInt_u64 _ (by omega), ofInt_u64 _ (by omega), nat_join 8 (a * 256) b (by omega) (by omega)]
  congr 1

/-- The lowest k bytes of a number, the highest of them first. -/
def beBytes : Nat → Nat → List UInt8
  | 0, _ => []
  | k + 1, n => UInt8.ofNat (n / 256 ^ k) :: beBytes k n
theorem beBytes_length : ∀ (k n : Nat), (beBytes k n).length = k
  | 0, _ => rfl
  | k + 1, n => by rw [beBytes, List.length_cons, beBytes_length k n]

/-- The byte that 'byte(n >> 8j)' is. -/
theorem put_byte (n j : Nat) (S : Int) (hS : S = 8 * ((j + 1 : Nat) : Int) - 8) : IntKind.u8.wrap ((n : Int) / 2 ^ S.toNat) = ((UInt8.ofNat (n / 256 ^ j)).toNat : Int) := by
  have e : S.toNat = 8 * j := by omega
  have e2 : (2 : Int) ^ (8 * j) = ((256 ^ j : Nat) : Int) := by
    rw [show (256 : Nat) = 2 ^ 8 from rfl, ← Nat.pow_mul, Int.natCast_pow]
    rfl
  rw [e, IntKind.wrap_u8', UInt8.toNat_ofNat', e2]
  rfl
theorem beBytes_step (done : List UInt8) (j n k : Nat) (h : done ++ beBytes (j + 1) n = beBytes k n) : (done ++ [UInt8.ofNat (n / 256 ^ j)]) ++ beBytes j n = beBytes k n := by
  rw [← h, beBytes]
  simp
end Go.Proofs.YtdgedhaiefingaaDoor
