/-
  SHA-256 on plain lists of bytes: words, the schedule, a block's rounds, the digest of a list. No program, no memory.
-/
import Derived.Test.YtdgedhaiefingaaDoorBytes
namespace Go.Proofs.YtdgedhaiefingaaDoor
open Go.RowKit

/-- A word as a number, and as a cell. -/
def wi (x : UInt32) : Int := (x.toNat : Int)
def wv (x : UInt32) : Value := .int .u32 (wi x)
theorem wi_ge (x : UInt32) : 0 ≤ wi x := by unfold wi; omega
theorem wi_le (x : UInt32) : wi x ≤ 4294967295 := by have := x.toNat_lt; unfold wi; omega
theorem wi_add (x y : UInt32) : (wi x + wi y) % 4294967296 = wi (x + y) := by
  unfold wi
  rw [UInt32.toNat_add]
  omega
theorem wi_xor (x y : UInt32) : bits .xor .u32 (wi x) (wi y) = wi (x ^^^ y) := by
  unfold wi
  rw [u32_xor_nat _ _ x.toNat_lt y.toNat_lt, UInt32.toNat_xor]
theorem wi_and (x y : UInt32) : bits .and .u32 (wi x) (wi y) = wi (x &&& y) := by
  unfold wi
  rw [u32_and_nat _ _ x.toNat_lt y.toNat_lt, UInt32.toNat_and]
theorem wi_or (x y : UInt32) : bits .or .u32 (wi x) (wi y) = wi (x ||| y) := by
  unfold wi
  rw [u32_or_nat _ _ x.toNat_lt y.toNat_lt, UInt32.toNat_or]
theorem wi_not (x : UInt32) : 4294967295 - wi x = wi (~~~x) := by
  unfold wi
  have := x.toNat_lt
  have e : (~~~x).toNat = 4294967295 - x.toNat := by
    rw [UInt32.toNat_not]
    rfl
  rw [e]
  omega

/-- A word turned down by k bits. -/
def rotr (x : UInt32) (k : Nat) : UInt32 := UInt32.ofNat (x.toNat >>> k ||| x.toNat <<< (32 - k) % 4294967296)
theorem rotr_bits (x : UInt32) (k : Nat) : bits .or .u32 (wi x / 2 ^ k) (wi x * 2 ^ (32 - k) % 4294967296) = wi (rotr x k) := by
  have hx := x.toNat_lt
  have e1 : wi x / 2 ^ k = ((x.toNat >>> k : Nat) : Int) := by
    unfold wi
    rw [Nat.shiftRight_eq_div_pow]
    simp
  have e2 : wi x * 2 ^ (32 - k) % 4294967296 = ((x.toNat <<< (32 - k) % 4294967296 : Nat) : Int) := by
    unfold wi
    rw [Nat.shiftLeft_eq]
    simp
  have l1 : x.toNat >>> k < 4294967296 := by
    rw [Nat.shiftRight_eq_div_pow]
    exact Nat.lt_of_le_of_lt (Nat.div_le_self _ _) hx
  have l2 : x.toNat <<< (32 - k) % 4294967296 < 4294967296 := Nat.mod_lt _ (by decide)
  rw [e1, e2, u32_or_nat _ _ l1 l2]
  unfold rotr wi
  have l3 : (x.toNat >>> k ||| x.toNat <<< (32 - k) % 4294967296) < 2 ^ 32 := Nat.or_lt_two_pow l1 l2
  rw [UInt32.toNat_ofNat', Nat.mod_eq_of_lt l3]
theorem rotr_bits' (x : UInt32) (k : Nat) : bits .or .u32 (wi x * 2 ^ (32 - k) % 4294967296) (wi x / 2 ^ k) = wi (rotr x k) := by
  rw [← rotr_bits x k]
  unfold bits
  simp only [BitVec.or_comm]

/-- Shifted down. -/
def shr (x : UInt32) (k : Nat) : UInt32 := UInt32.ofNat (x.toNat >>> k)
theorem shr_div (x : UInt32) (k : Nat) : wi x / 2 ^ k = wi (shr x k) := by
  have hx := x.toNat_lt
  unfold shr wi
  rw [UInt32.toNat_ofNat', Nat.shiftRight_eq_div_pow, Nat.mod_eq_of_lt (Nat.lt_of_le_of_lt (Nat.div_le_self _ _) hx)]
  simp

/-- Four bytes as a word, the highest first. -/
def be32 (b0 b1 b2 b3 : UInt8) : UInt32 := UInt32.ofNat (((b0.toNat * 256 + b1.toNat) * 256 + b2.toNat) * 256 + b3.toNat)
theorem wi_be32 (b0 b1 b2 b3 : UInt8) : wi (be32 b0 b1 b2 b3) = ((b0.toNat : Int) * 16777216 + (b1.toNat : Int) * 65536 + (b2.toNat : Int) * 256 + (b3.toNat : Int)) := by
  have h0 := b0.toNat_lt
  have h1 := b1.toNat_lt
  have h2 := b2.toNat_lt
  have h3 := b3.toNat_lt
  unfold be32 wi
  rw [UInt32.toNat_ofNat', Nat.mod_eq_of_lt (by omega)]
  omega

/-- The block's words and those that follow from them, the first n. -/
def nextW (b : List UInt8) (l : List UInt32) (n : Nat) : UInt32 :=
  if n < 16 then be32 (b.getD (4 * n) 0) (b.getD (4 * n + 1) 0) (b.getD (4 * n + 2) 0) (b.getD (4 * n + 3) 0)
  else
    let x := l.getD (n - 15) 0
    let y := l.getD (n - 2) 0
    l.getD (n - 16) 0 + (rotr x 7 ^^^ rotr x 18 ^^^ shr x 3) + l.getD (n - 7) 0 + (rotr y 17 ^^^ rotr y 19 ^^^ shr y 10)
def W (b : List UInt8) : Nat → List UInt32
  | 0 => []
  | n + 1 => W b n ++ [nextW b (W b n) n]
theorem W_length (b : List UInt8) : ∀ n, (W b n).length = n
  | 0 => rfl
  | n + 1 => by rw [W, List.length_append, W_length b n]; rfl
def wd (b : List UInt8) (i : Nat) : UInt32 := nextW b (W b i) i
theorem W_get (b : List UInt8) : ∀ n i, i < n → (W b n)[i]? = some (wd b i)
  | 0, i, h => by omega
  | n + 1, i, h => by
    rcases Nat.lt_or_ge i n with hi | hi
    · rw [W, List.getElem?_append_left (by rw [W_length]; exact hi), W_get b n i hi]
    · obtain rfl : i = n := by omega
      rw [W, List.getElem?_append_right (by rw [W_length]; exact Nat.le_refl _), W_length, Nat.sub_self]
      rfl
theorem W_getD (b : List UInt8) (n i : Nat) (h : i < n) : (W b n).getD i 0 = wd b i := by rw [List.getD_eq_getElem?_getD, W_get b n i h]; rfl
theorem wd_lo (b : List UInt8) (i : Nat) (h : i < 16) : wd b i = be32 (b.getD (4 * i) 0) (b.getD (4 * i + 1) 0) (b.getD (4 * i + 2) 0) (b.getD (4 * i + 3) 0) := by
  unfold wd nextW
  rw [if_pos h]
theorem wd_hi (b : List UInt8) (n : Nat) : wd b (n + 16) = wd b n + (rotr (wd b (n + 1)) 7 ^^^ rotr (wd b (n + 1)) 18 ^^^ shr (wd b (n + 1)) 3) + wd b (n + 9) + (rotr (wd b (n + 14)) 17 ^^^ rotr (wd b (n + 14)) 19 ^^^ shr (wd b (n + 14)) 10) := by
  rw [wd, nextW, if_neg (by omega)]
  simp only [Nat.add_sub_cancel]
  rw [show n + 16 - 15 = n + 1 from by omega, show n + 16 - 2 = n + 14 from by omega, show n + 16 - 7 = n + 9 from by omega,
    W_getD b _ _ (by omega), W_getD b _ _ (by omega), W_getD b _ _ (by omega), W_getD b _ _ (by omega)]

/-- The state. -/
structure St where
  a : UInt32
  b : UInt32
  c : UInt32
  d : UInt32
  e : UInt32
  f : UInt32
  g : UInt32
  h : UInt32
deriving DecidableEq
def St.list (s : St) : List UInt32 := [s.a, s.b, s.c, s.d, s.e, s.f, s.g, s.h]
def St.p (s : St) (k w : UInt32) : UInt32 := s.h + (rotr s.e 6 ^^^ rotr s.e 11 ^^^ rotr s.e 25) + ((s.e &&& s.f) ^^^ (~~~s.e &&& s.g)) + k + w
def St.q (s : St) : UInt32 := (rotr s.a 2 ^^^ rotr s.a 13 ^^^ rotr s.a 22) + ((s.a &&& s.b) ^^^ (s.a &&& s.c) ^^^ (s.b &&& s.c))
def St.step (s : St) (k w : UInt32) : St := ⟨s.p k w + s.q, s.a, s.b, s.c, s.d + s.p k w, s.e, s.f, s.g⟩
def roots : List UInt32 := [
  0x428a2f98, 0x71374491, 0xb5c0fbcf, 0xe9b5dba5, 0x3956c25b, 0x59f111f1, 0x923f82a4, 0xab1c5ed5,
  0xd807aa98, 0x12835b01, 0x243185be, 0x550c7dc3, 0x72be5d74, 0x80deb1fe, 0x9bdc06a7, 0xc19bf174,
  0xe49b69c1, 0xefbe4786, 0x0fc19dc6, 0x240ca1cc, 0x2de92c6f, 0x4a7484aa, 0x5cb0a9dc, 0x76f988da,
  0x983e5152, 0xa831c66d, 0xb00327c8, 0xbf597fc7, 0xc6e00bf3, 0xd5a79147, 0x06ca6351, 0x14292967,
  0x27b70a85, 0x2e1b2138, 0x4d2c6dfc, 0x53380d13, 0x650a7354, 0x766a0abb, 0x81c2c92e, 0x92722c85,
  0xa2bfe8a1, 0xa81a664b, 0xc24b8b70, 0xc76c51a3, 0xd192e819, 0xd6990624, 0xf40e3585, 0x106aa070,
  0x19a4c116, 0x1e376c08, 0x2748774c, 0x34b0bcb5, 0x391c0cb3, 0x4ed8aa4a, 0x5b9cca4f, 0x682e6ff3,
  0x748f82ee, 0x78a5636f, 0x84c87814, 0x8cc70208, 0x90befffa, 0xa4506ceb, 0xbef9a3f7, 0xc67178f2]
def rnd (b : List UInt8) (s : St) : Nat → St
  | 0 => s
  | i + 1 => (rnd b s i).step (roots.getD i 0) (wd b i)
def St.plus (s t : St) : St := ⟨s.a + t.a, s.b + t.b, s.c + t.c, s.d + t.d, s.e + t.e, s.f + t.f, s.g + t.g, s.h + t.h⟩
/-- The state that a block makes of another one. -/
def mix (s : St) (b : List UInt8) : St := s.plus (rnd b s 64)
def st0 : St := ⟨0x6a09e667, 0xbb67ae85, 0x3c6ef372, 0xa54ff53a, 0x510e527f, 0x9b05688c, 0x1f83d9ab, 0x5be0cd19⟩

/-- A word's bytes, a state's bytes. -/
def wordBytes (x : UInt32) : List UInt8 := beBytes 4 x.toNat
def St.bytes (s : St) : List UInt8 := s.list.flatMap wordBytes

/-- Whole blocks, one behind the other: the first n. -/
def mixAll (s : St) : Nat → List UInt8 → St
  | 0, _ => s
  | n + 1, l => mix (mixAll s n l) ((l.drop (64 * n)).take 64)
/-- The bytes behind the bytes. -/
def pad (n : Nat) : List UInt8 := 128 :: (List.replicate ((119 - n % 64) % 64) 0 ++ beBytes 8 (8 * n))
def padded (l : List UInt8) : List UInt8 := l ++ pad l.length
/-- The digest. -/
def shaOf (l : List UInt8) : List UInt8 := (mixAll st0 ((padded l).length / 64) (padded l)).bytes
end Go.Proofs.YtdgedhaiefingaaDoor
