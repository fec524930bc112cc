/-
  SHA-256 on plain lists of bytes: words, the schedule, a block's rounds, the digest of a list. No program, no memory.
  What the walks of layer 2 call: a word turned, three of them.
  Layer 2's memory: bytes and words as cells, the schedule's array while it is filled, regions that only read up to a forced end.
  A hash under way, on plain lists: what was taken in, the state, the block that is being filled, and the end. No program, no memory.
  Digests compared; append of what is seen onto an owned row (layer 2's own copy of what layer 1 has).
  append of what is seen onto an owned row that may be nil.
  The document's answer: the bytes with what stands behind them (wapentakeref02.Padded).
  Loads of a digest and appends, frozen for drawn regions.
  Hash trees on plain lists: rows, the root, a leaf's path, where a path leads. No program, no memory.
-/
import Derived.Test.YtapdnoellleimaaDoorKB
import Derived.Test.YtapdnoellleimaaDoorProg
import Derived.WalkSpells
import Derived.WalkLawsBesides
import Derived.Lib.Hide
import Derived.IntWalk
import Derived.StillTailTactics
import Derived.Deep.QuietTactic
import Derived.BigQuiet
import Derived.Laws.Rows
import Derived.Deep.DeepCutAuto
import Derived.Deep.CutBlock
import Derived.ChangeKeysEq
import Derived.Laws.AppendOwnNone
namespace Go.Proofs.YtapdnoellleimaaDoor
open Go.RowKit

/-- A word as a number, and as a cell. -/
def wi (x : UInt32) : Int := (x.toNat : Int)
def wv (x : UInt32) : Value := .int .u32 (wi x)
theorem wi_ge (x : UInt32) : 0 ≤ wi x := by unfold wi; omega
theorem wi_le (x : UInt32) : wi x ≤ 4294967295 := by have := x.toNat_lt; unfold wi; omega
theorem wi_add (x y : UInt32) : (wi x + wi y) % 4294967296 = wi (x + y) := by
  unfold wi
  rw [UInt32.toNat_add]
  omega
theorem wi_xor (x y : UInt32) : bits .xor .u32 (wi x) (wi y) = wi (x ^^^ y) := by
  unfold wi
  rw [u32_xor_nat _ _ x.toNat_lt y.toNat_lt, UInt32.toNat_xor]
theorem wi_and (x y : UInt32) : bits .and .u32 (wi x) (wi y) = wi (x &&& y) := by
  unfold wi
  rw [u32_and_nat _ _ x.toNat_lt y.toNat_lt, UInt32.toNat_and]
theorem wi_or (x y : UInt32) : bits .or .u32 (wi x) (wi y) = wi (x ||| y) := by
  unfold wi
  rw [u32_or_nat _ _ x.toNat_lt y.toNat_lt, UInt32.toNat_or]
theorem wi_not (x : UInt32) : 4294967295 - wi x = wi (~~~x) := by
  unfold wi
  have := x.toNat_lt
  have e : (~~~x).toNat = 4294967295 - x.toNat := by
    rw [UInt32.toNat_not]
    rfl
  rw [e]
  omega

/-- A word turned down by k bits. -/
def rotr (x : UInt32) (k : Nat) : UInt32 := UInt32.ofNat (x.toNat >>> k ||| x.toNat <<< (32 - k) % 4294967296)
theorem rotr_bits (x : UInt32) (k : Nat) : bits .or .u32 (wi x / 2 ^ k) (wi x * 2 ^ (32 - k) % 4294967296) = wi (rotr x k) := by
  have hx := x.toNat_lt
  have e1 : wi x / 2 ^ k = ((x.toNat >>> k : Nat) : Int) := by
    unfold wi
    rw [Nat.shiftRight_eq_div_pow]
    simp
  have e2 : wi x * 2 ^ (32 - k) % 4294967296 = ((x.toNat <<< (32 - k) % 4294967296 : Nat) : Int) := by
    unfold wi
    rw [Nat.shiftLeft_eq]
    simp
  have l1 : x.toNat >>> k < 4294967296 := by
    rw [Nat.shiftRight_eq_div_pow]
    exact Nat.lt_of_le_of_lt (Nat.div_le_self _ _) hx
  have l2 : x.toNat <<< (32 - k) % 4294967296 < 4294967296 := Nat.mod_lt _ (by decide)
  rw [e1, e2, u32_or_nat _ _ l1 l2]
  unfold rotr wi
  have l3 : (x.toNat >>> k ||| x.toNat <<< (32 - k) % 4294967296) < 2 ^ 32 := Nat.or_lt_two_pow l1 l2
  rw [UInt32.toNat_ofNat', Nat.mod_eq_of_lt l3]
theorem rotr_bits' (x : UInt32) (k : Nat) : bits .or .u32 (wi x * 2 ^ (32 - k) % 4294967296) (wi x / 2 ^ k) = wi (rotr x k) := by
  rw [← rotr_bits x k]
  unfold bits
  simp only [BitVec.or_comm]

/-- Shifted down. -/
def shr (x : UInt32) (k : Nat) : UInt32 := UInt32.ofNat (x.toNat >>> k)
theorem shr_div (x : UInt32) (k : Nat) : wi x / 2 ^ k = wi (shr x k) := by
  have hx := x.toNat_lt
  unfold shr wi
  rw [UInt32.toNat_ofNat', Nat.shiftRight_eq_div_pow, Nat.mod_eq_of_lt (Nat.lt_of_le_of_lt (Nat.div_le_self _ _) hx)]
  simp

/-- Four bytes as a word, the highest first. -/
def be32 (b0 b1 b2 b3 : UInt8) : UInt32 := UInt32.ofNat (((b0.toNat * 256 + b1.toNat) * 256 + b2.toNat) * 256 + b3.toNat)
theorem wi_be32 (b0 b1 b2 b3 : UInt8) : wi (be32 b0 b1 b2 b3) = ((b0.toNat : Int) * 16777216 + (b1.toNat : Int) * 65536 + (b2.toNat : Int) * 256 + (b3.toNat : Int)) := by
  have h0 := b0.toNat_lt
  have h1 := b1.toNat_lt
  have h2 := b2.toNat_lt
  have h3 := b3.toNat_lt
  unfold be32 wi
  rw [UInt32.toNat_ofNat', Nat.mod_eq_of_lt (by omega)]
  omega

/-- The block's words and those that follow from them, the first n. -/
def nextW (b : List UInt8) (l : List UInt32) (n : Nat) : UInt32 :=
  if n < 16 then be32 (b.getD (4 * n) 0) (b.getD (4 * n + 1) 0) (b.getD (4 * n + 2) 0) (b.getD (4 * n + 3) 0)
  else
    let x := l.getD (n - 15) 0
    let y := l.getD (n - 2) 0
    l.getD (n - 16) 0 + (rotr x 7 ^^^ rotr x 18 ^^^ shr x 3) + l.getD (n - 7) 0 + (rotr y 17 ^^^ rotr y 19 ^^^ shr y 10)
def W (b : List UInt8) : Nat → List UInt32
  | 0 => []
  | n + 1 => W b n ++ [nextW b (W b n) n]
theorem W_length (b : List UInt8) : ∀ n, (W b n).length = n
  | 0 => rfl
  | n + 1 => by rw [W, List.length_append, W_length b n]; rfl
def wd (b : List UInt8) (i : Nat) : UInt32 := nextW b (W b i) i
theorem W_get (b : List UInt8) : ∀ n i, i < n → (W b n)[i]? = some (wd b i)
  | 0, i, h => by omega
  | n + 1, i, h => by
    rcases Nat.lt_or_ge i n with hi | hi
    · rw [W, List.getElem?_append_left (by rw [W_length]; exact hi), W_get b n i hi]
    · obtain rfl : i = n := by omega
      rw [W, List.getElem?_append_right (by rw [W_length]; exact Nat.le_refl _), W_length, Nat.sub_self]
      rfl
theorem W_getD (b : List UInt8) (n i : Nat) (h : i < n) : (W b n).getD i 0 = wd b i := by rw [List.getD_eq_getElem?_getD, W_get b n i h]; rfl
theorem wd_lo (b : List UInt8) (i : Nat) (h : i < 16) : wd b i = be32 (b.getD (4 * i) 0) (b.getD (4 * i + 1) 0) (b.getD (4 * i + 2) 0) (b.getD (4 * i + 3) 0) := by
  unfold wd nextW
  rw [if_pos h]
theorem wd_hi (b : List UInt8) (n : Nat) : wd b (n + 16) = wd b n + (rotr (wd b (n + 1)) 7 ^^^ rotr (wd b (n + 1)) 18 ^^^ shr (wd b (n + 1)) 3) + wd b (n + 9) + (rotr (wd b (n + 14)) 17 ^^^ rotr (wd b (n + 14)) 19 ^^^ shr (wd b (n + 14)) 10) := by
  rw [wd, nextW, if_neg (by omega)]
  simp only [Nat.add_sub_cancel]
  rw [show n + 16 - 15 = n + 1 from by omega, show n + 16 - 2 = n + 14 from by omega, show n + 16 - 7 = n + 9 from by omega,
    W_getD b _ _ (by omega), W_getD b _ _ (by omega), W_getD b _ _ (by omega), W_getD b _ _ (by omega)]

/-- The state. -/
structure St where
  a : UInt32
  b : UInt32
  c : UInt32
  d : UInt32
  e : UInt32
  f : UInt32
  g : UInt32
  h : UInt32
deriving DecidableEq
def St.list (s : St) : List UInt32 := [s.a, s.b, s.c, s.d, s.e, s.f, s.g, s.h]
def St.p (s : St) (k w : UInt32) : UInt32 := s.h + (rotr s.e 6 ^^^ rotr s.e 11 ^^^ rotr s.e 25) + ((s.e &&& s.f) ^^^ (~~~s.e &&& s.g)) + k + w
def St.q (s : St) : UInt32 := (rotr s.a 2 ^^^ rotr s.a 13 ^^^ rotr s.a 22) + ((s.a &&& s.b) ^^^ (s.a &&& s.c) ^^^ (s.b &&& s.c))
def St.step (s : St) (k w : UInt32) : St := ⟨s.p k w + s.q, s.a, s.b, s.c, s.d + s.p k w, s.e, s.f, s.g⟩
def roots : List UInt32 := [
  0x428a2f98, 0x71374491, 0xb5c0fbcf, 0xe9b5dba5, 0x3956c25b, 0x59f111f1, 0x923f82a4, 0xab1c5ed5,
  0xd807aa98, 0x12835b01, 0x243185be, 0x550c7dc3, 0x72be5d74, 0x80deb1fe, 0x9bdc06a7, 0xc19bf174,
  0xe49b69c1, 0xefbe4786, 0x0fc19dc6, 0x240ca1cc, 0x2de92c6f, 0x4a7484aa, 0x5cb0a9dc, 0x76f988da,
  0x983e5152, 0xa831c66d, 0xb00327c8, 0xbf597fc7, 0xc6e00bf3, 0xd5a79147, 0x06ca6351, 0x14292967,
  0x27b70a85, 0x2e1b2138, 0x4d2c6dfc, 0x53380d13, 0x650a7354, 0x766a0abb, 0x81c2c92e, 0x92722c85,
  0xa2bfe8a1, 0xa81a664b, 0xc24b8b70, 0xc76c51a3, 0xd192e819, 0xd6990624, 0xf40e3585, 0x106aa070,
  0x19a4c116, 0x1e376c08, 0x2748774c, 0x34b0bcb5, 0x391c0cb3, 0x4ed8aa4a, 0x5b9cca4f, 0x682e6ff3,
  0x748f82ee, 0x78a5636f, 0x84c87814, 0x8cc70208, 0x90befffa, 0xa4506ceb, 0xbef9a3f7, 0xc67178f2]
def rnd (b : List UInt8) (s : St) : Nat → St
  | 0 => s
  | i + 1 => (rnd b s i).step (roots.getD i 0) (wd b i)
def St.plus (s t : St) : St := ⟨s.a + t.a, s.b + t.b, s.c + t.c, s.d + t.d, s.e + t.e, s.f + t.f, s.g + t.g, s.h + t.h⟩
/-- The state that a block makes of another one. -/
def mix (s : St) (b : List UInt8) : St := s.plus (rnd b s 64)
def st0 : St := ⟨0x6a09e667, 0xbb67ae85, 0x3c6ef372, 0xa54ff53a, 0x510e527f, 0x9b05688c, 0x1f83d9ab, 0x5be0cd19⟩

/-- A word's bytes, a state's bytes. -/
def wordBytes (x : UInt32) : List UInt8 := beBytes 4 x.toNat
def St.bytes (s : St) : List UInt8 := s.list.flatMap wordBytes

/-- Whole blocks, one behind the other: the first n. -/
def mixAll (s : St) : Nat → List UInt8 → St
  | 0, _ => s
  | n + 1, l => mix (mixAll s n l) ((l.drop (64 * n)).take 64)
/-- The bytes behind the bytes. -/
def pad (n : Nat) : List UInt8 := 128 :: (List.replicate ((119 - n % 64) % 64) 0 ++ beBytes 8 (8 * n))
def padded (l : List UInt8) : List UInt8 := l ++ pad l.length
/-- The digest. -/
def shaOf (l : List UInt8) : List UInt8 := (mixAll st0 ((padded l).length / 64) (padded l)).bytes
end Go.Proofs.YtapdnoellleimaaDoor

namespace Go.Proofs.YtapdnoellleimaaDoor
open Go.RowKit

theorem ret_u32 {a b : Int} (h : a = b) : Ending.returned (.int .u32 a) = .returned (.int .u32 b) := by rw [h]

set_option maxRecDepth 100000 in
set_option maxHeartbeats 400000 in
theorem turn_any (x : UInt32) (k : Nat) (h1 : 1 ≤ k) (h2 : k ≤ 31) (w : World) : Calls Tryd.prog 77 #[.int .u32 (wi x), .int .u64 (k : Int)] w fun e w' => e = .returned (.int .u32 (wi (rotr x k))) ∧ w = w' := by
  go_enter Tryd.func77, Tryd.ntmps77
  go_wp2
  go_ret
  exact ⟨ret_u32 (rotr_bits x k), rfl⟩

theorem neg_and : ∀ k : Fin 32, 1 ≤ k.val → bits .and .u64 (IntKind.u64.wrap (-(k.val : Int))) 31 = 32 - (k.val : Int) := by decide +kernel
theorem neg_and' (k : Nat) (h1 : 1 ≤ k) (h2 : k ≤ 31) : bits .and .u64 (IntKind.u64.wrap (-(k : Int))) 31 = 32 - (k : Int) := neg_and ⟨k, by omega⟩ h1

set_option maxRecDepth 100000 in
set_option maxHeartbeats 400000 in
theorem rotl_any (x : UInt32) (n : Int) (k : Nat) (h1 : 1 ≤ k) (h2 : k ≤ 31) (hm : bits .and .u64 (IntKind.u64.wrap n) 31 = 32 - (k : Int)) (w : World) :
    Calls Tryd.prog 83 #[.int .u32 (wi x), .int .i64 n] w fun e w' => e = .returned (.int .u32 (wi (rotr x k))) ∧ w = w' := by
  go_enter Tryd.func83, Tryd.ntmps83
  go_wp2
  go_ret
  have e2 : 32 - (32 - k) = k := by omega
  exact ⟨ret_u32 (by rw [e2]; exact rotr_bits' x k), rfl⟩

set_option maxRecDepth 100000 in
set_option maxHeartbeats 400000 in
theorem turned_any (x : UInt32) (k : Nat) (h1 : 1 ≤ k) (h2 : k ≤ 31) (w : World) : Calls Tryd.prog 82 #[.int .u32 (wi x), .int .i64 (k : Int)] w fun e w' => e = .returned (.int .u32 (wi (rotr x k))) ∧ w = w' := by
  have hC := Lib.hid (fun n hn => rotl_any x n k h1 h2 hn w)
  have hm := Lib.hid (neg_and' k h1 h2)
  go_enter Tryd.func82, Tryd.ntmps82
  go_wp2_with fail
  refine (hC.out _ hm.out).mono ?_
  rintro e w' ⟨rfl, rfl⟩
  go_wp2
  go_ret
  exact ⟨rfl, rfl⟩

set_option maxRecDepth 100000 in
set_option maxHeartbeats 400000 in
theorem three_any (x : UInt32) (i j k : Nat) (hi1 : 1 ≤ i) (hi2 : i ≤ 31) (hj1 : 1 ≤ j) (hj2 : j ≤ 31) (hk1 : 1 ≤ k) (hk2 : k ≤ 31) (w : World) :
    Calls Tryd.prog 78 #[.int .u32 (wi x), .int .u64 (i : Int), .int .u64 (j : Int), .int .u64 (k : Int)] w fun e w' => e = .returned (.int .u32 (wi (rotr x i ^^^ rotr x j ^^^ rotr x k))) ∧ w = w' := by
  have hC := Lib.hid (fun n h1 h2 => turn_any x n h1 h2 w)
  have hx := wi_xor
  go_enter Tryd.func78, Tryd.ntmps78
  go_wp2_with fail
  refine (hC.out i hi1 hi2).mono ?_
  rintro e w' ⟨rfl, rfl⟩
  go_wp2_with fail
  refine (hC.out j hj1 hj2).mono ?_
  rintro e w' ⟨rfl, rfl⟩
  go_wp2_with fail
  refine (hC.out k hk1 hk2).mono ?_
  rintro e w' ⟨rfl, rfl⟩
  go_wp2
  go_ret
  exact ⟨rfl, rfl⟩
end Go.Proofs.YtapdnoellleimaaDoor

namespace Go.Proofs.YtapdnoellleimaaDoor
open Go.RowKit

theorem bytes_get {b : List UInt8} {i : Nat} (h : i < b.length) : (b.map bv).toArray[i]? = some (bv (b.getD i 0)) := by
  simp [List.getD_eq_getElem?_getD, h]
theorem oneB {w : World} {g : Nat} {t : TypeId} {b : List UInt8} (hw : Box w g t (b.map bv).toArray) (i : Nat) (h : i < b.length) : w.cell? ⟨g, i, none⟩ = some (.int .u8 ((b.getD i 0).toNat : Int)) := by
  rw [hw.cell, bytes_get h]
  rfl

theorem Box.made_at {w : World} {g : Nat} (h : w.heap.size = g) (t : TypeId) (cs : Array Value) : Box (w.alloc (.cells cs t)) g t cs := by
  subst h
  exact Box.made w t cs
def cellsW (b : List UInt8) (n : Nat) : Array Value := ((W b n ++ List.replicate (64 - n) 0).map wv).toArray
theorem cellsW_get (b : List UInt8) {n i : Nat} (h : i < n) : (cellsW b n)[i]? = some (.int .u32 (wi (wd b i))) := by
  unfold cellsW
  rw [List.getElem?_toArray, List.getElem?_map, List.getElem?_append_left (by rw [W_length]; exact h), W_get b n i h]
  rfl
theorem set_at {α : Type} (xs r : List α) (y z : α) (n : Nat) (h : xs.length = n) : (xs ++ y :: r).set n z = xs ++ z :: r := by
  subst h
  rw [List.set_append_right _ _ (Nat.le_refl _), Nat.sub_self, List.set_cons_zero]
theorem cellsW_put (b : List UInt8) {n : Nat} (h : n < 64) : (cellsW b n).setIfInBounds n (.int .u32 (wi (wd b n))) = cellsW b (n + 1) := by
  unfold cellsW
  have e : 64 - n = (64 - (n + 1)) + 1 := by omega
  apply Array.ext'
  rw [Array.toList_setIfInBounds, e, List.replicate_succ, W]
  simp only [List.map_append, List.map_cons, List.append_assoc, List.cons_append, List.nil_append]
  rw [set_at _ _ _ _ _ (by rw [List.length_map, W_length])]
  rfl
theorem cellsW_zero (b : List UInt8) : cellsW b 0 = (List.replicate 64 (Value.int .u32 0)).toArray := rfl

theorem wrap_u8_u32 (x : UInt8) : IntKind.u32.wrap (x.toNat : Int) = (x.toNat : Int) := by
  have := x.toNat_lt
  rw [IntKind.wrap_u32']
  omega
theorem put24 (x : UInt8) : IntKind.u32.wrap ((x.toNat : Int) * 16777216) = (x.toNat : Int) * 16777216 := by
  have := x.toNat_lt
  rw [IntKind.wrap_u32']
  omega
theorem put16 (x : UInt8) : IntKind.u32.wrap ((x.toNat : Int) * 65536) = (x.toNat : Int) * 65536 := by
  have := x.toNat_lt
  rw [IntKind.wrap_u32']
  omega
theorem put8 (x : UInt8) : IntKind.u32.wrap ((x.toNat : Int) * 256) = (x.toNat : Int) * 256 := by
  have := x.toNat_lt
  rw [IntKind.wrap_u32']
  omega
theorem or24 (x0 x1 : UInt8) : bits .or .u32 ((x0.toNat : Int) * 16777216) ((x1.toNat : Int) * 65536) = (x0.toNat : Int) * 16777216 + (x1.toNat : Int) * 65536 := by
  have h0 := x0.toNat_lt
  have h1 := x1.toNat_lt
  have e0 : (x0.toNat : Int) * 16777216 = ((x0.toNat * 16777216 : Nat) : Int) := by omega
  have e1 : (x1.toNat : Int) * 65536 = ((x1.toNat * 65536 : Nat) : Int) := by omega
  rw [e0, e1, u32_or_nat _ _ (by omega) (by omega), nat_join 24 _ _ (by omega) (by omega)]
  omega
theorem or16 (x0 x1 x2 : UInt8) : bits .or .u32 ((x0.toNat : Int) * 16777216 + (x1.toNat : Int) * 65536) ((x2.toNat : Int) * 256) = (x0.toNat : Int) * 16777216 + (x1.toNat : Int) * 65536 + (x2.toNat : Int) * 256 := by
  have h0 := x0.toNat_lt
  have h1 := x1.toNat_lt
  have h2 := x2.toNat_lt
  have e0 : (x0.toNat : Int) * 16777216 + (x1.toNat : Int) * 65536 = ((x0.toNat * 16777216 + x1.toNat * 65536 : Nat) : Int) := by omega
  have e1 : (x2.toNat : Int) * 256 = ((x2.toNat * 256 : Nat) : Int) := by omega
  rw [e0, e1, u32_or_nat _ _ (by omega) (by omega), nat_join 16 _ _ (by omega) (by omega)]
  omega
theorem or8 (x0 x1 x2 x3 : UInt8) : bits .or .u32 ((x0.toNat : Int) * 16777216 + (x1.toNat : Int) * 65536 + (x2.toNat : Int) * 256) (x3.toNat : Int) = wi (be32 x0 x1 x2 x3) := by
  have h0 := x0.toNat_lt
  have h1 := x1.toNat_lt
  have h2 := x2.toNat_lt
  have h3 := x3.toNat_lt
  have e0 : (x0.toNat : Int) * 16777216 + (x1.toNat : Int) * 65536 + (x2.toNat : Int) * 256 = ((x0.toNat * 16777216 + x1.toNat * 65536 + x2.toNat * 256 : Nat) : Int) := by omega
  rw [wi_be32, e0, u32_or_nat _ _ (by omega) (by omega), nat_join 8 _ _ (by omega) (by omega)]
  omega
theorem cellsW_size (b : List UInt8) {n : Nat} (h : n ≤ 64) : (cellsW b n).size = 64 := by
  unfold cellsW
  rw [List.size_toArray, List.length_map, List.length_append, W_length, List.length_replicate]
  omega
theorem cellsW_at (b : List UInt8) {n i : Nat} (h : n ≤ 64) (hi : i < 64) : ∃ v, (cellsW b n)[i]? = some v :=
  ⟨_, Array.getElem?_eq_getElem (by rw [cellsW_size b h]; exact hi)⟩

/-- A region whose operations only read, but for a forced tail, from one world that was drawn once. -/
theorem wp_still_tail {P : Program} {id : Nat} {Q : Exit → Act → World → Prop} {a : Act} {w : World} {l : List Oper} (n : Nat) (hm : P.follows .mixedOrders = true) (hB : Region.lexTailB .any l.toArray n = true)
    (h : ∀ w1, w1 = w.drew → wpStill P l.toArray w1 (fun a' => wpList P l.toArray Q (l.drop n) a' w1) (l.take n) a) : (Code.region id l.toArray true).wp P Q a w :=
  wp_region_still_tail n hm hB (h _ rfl)

theorem wv_one (l : List UInt32) : ∀ u ∈ l.map wv, u.oneCell' = true := by
  intro u hu
  obtain ⟨x, _, rfl⟩ := List.mem_map.1 hu
  rfl
theorem cellsW_one (b : List UInt8) (n : Nat) : ∀ v ∈ (cellsW b n).toList, v.oneCell' = true := wv_one _
theorem below_drewN {B : Nat} {w w' : World} (h : Below B w w') (n : Nat) : Below B w (w'.drewN n) := h.trans ⟨rfl, rfl, rfl, Nat.le_refl _, fun _ _ => rfl⟩
theorem wi_addw (x y : UInt32) : IntKind.u32.wrap (wi x + wi y) = wi (x + y) := by
  rw [IntKind.wrap_u32']
  exact wi_add x y
theorem shr3 (x : UInt32) : wi x / 8 = wi (shr x 3) := shr_div x 3
theorem shr10 (x : UInt32) : wi x / 1024 = wi (shr x 10) := shr_div x 10
end Go.Proofs.YtapdnoellleimaaDoor

namespace Go.Proofs.YtapdnoellleimaaDoor
open Go.RowKit

theorem mixAll_append (s : St) (l x : List UInt8) : ∀ n, 64 * n ≤ l.length → mixAll s n (l ++ x) = mixAll s n l
  | 0, _ => rfl
  | n + 1, h => by
    rw [mixAll, mixAll, mixAll_append s l x n (by omega), List.drop_append_of_le_length (by omega), List.take_append_of_le_length (by rw [List.length_drop]; omega)]

/-- What is behind l: the state of its whole blocks; the block's head holds the rest. -/
structure Fed (l : List UInt8) (st : St) (blk : List UInt8) (used : Nat) : Prop where
  eq : used = l.length % 64
  at_ : st = mixAll st0 (l.length / 64) l
  rest : blk.take used = l.drop (64 * (l.length / 64))
  len : blk.length = 64

theorem fed_start (blk : List UInt8) (h : blk.length = 64) : Fed [] st0 blk 0 := ⟨rfl, rfl, rfl, h⟩
theorem Fed.lt {l : List UInt8} {st : St} {blk : List UInt8} {used : Nat} (h : Fed l st blk used) : used < 64 := by
  rw [h.eq]
  exact Nat.mod_lt _ (by decide)

/-- Bytes laid into a block. -/
def into (blk : List UInt8) (u : Nat) (x : List UInt8) : List UInt8 := blk.take u ++ x ++ blk.drop (u + x.length)
theorem into_length (blk : List UInt8) (u : Nat) (x : List UInt8) (h : u + x.length ≤ blk.length) : (into blk u x).length = blk.length := by
  unfold into
  rw [List.length_append, List.length_append, List.length_take, List.length_drop]
  omega
theorem into_take (blk : List UInt8) (u : Nat) (x : List UInt8) (h : u ≤ blk.length) : (into blk u x).take (u + x.length) = blk.take u ++ x := by
  unfold into
  rw [List.take_append_of_le_length (by rw [List.length_append, List.length_take]; omega)]
  exact List.take_of_length_le (by rw [List.length_append, List.length_take]; omega)

theorem Fed.more {l : List UInt8} {st : St} {blk : List UInt8} {used : Nat} (h : Fed l st blk used) (x : List UInt8) (hx : used + x.length < 64) : Fed (l ++ x) st (into blk used x) (used + x.length) := by
  have hu := h.eq
  have hlt := h.lt
  have e1 : (l ++ x).length / 64 = l.length / 64 := by rw [List.length_append]; omega
  refine ⟨by rw [List.length_append]; omega, ?_, ?_, ?_⟩
  · rw [e1, mixAll_append st0 l x (l.length / 64) (by omega)]
    exact h.at_
  · rw [e1, into_take _ _ _ (by rw [h.len]; omega), h.rest, List.drop_append_of_le_length (by omega)]
  · rw [into_length _ _ _ (by rw [h.len]; omega), h.len]
theorem Fed.full {l : List UInt8} {st : St} {blk : List UInt8} {used : Nat} (h : Fed l st blk used) (x : List UInt8) (hx : used + x.length = 64) : Fed (l ++ x) (mix st (into blk used x)) (into blk used x) 0 := by
  have hu := h.eq
  have hlt := h.lt
  have e1 : (l ++ x).length / 64 = l.length / 64 + 1 := by rw [List.length_append]; omega
  have hil := into_length blk used x (by rw [h.len]; omega)
  rw [h.len] at hil
  have ht := into_take blk used x (by rw [h.len]; omega)
  rw [hx, List.take_of_length_le (by omega)] at ht
  refine ⟨by rw [List.length_append]; omega, ?_, ?_, hil⟩
  · rw [e1, mixAll, mixAll_append st0 l x (l.length / 64) (by omega), ← h.at_, List.drop_append_of_le_length (by omega), ← h.rest, ht]
    have e2 : (blk.take used ++ x).take 64 = blk.take used ++ x := List.take_of_length_le (by rw [← ht, hil]; exact Nat.le_refl _)
    rw [e2]
  · rw [e1, List.take_zero, List.drop_eq_nil_of_le]
    rw [List.length_append]
    omega

/-- The last block, or the last but one: what was taken in, the byte 80, noughts. -/
def lastBlock (blk : List UInt8) (used : Nat) : List UInt8 := blk.take used ++ 128 :: List.replicate (63 - used) 0
theorem lastBlock_length (blk : List UInt8) (used : Nat) (h : blk.length = 64) (hu : used < 64) : (lastBlock blk used).length = 64 := by
  unfold lastBlock
  rw [List.length_append, List.length_take, List.length_cons, List.length_replicate]
  omega
/-- A block whose end is the number of bits. -/
def counted (blk : List UInt8) (n : Nat) : List UInt8 := blk.take 56 ++ beBytes 8 (8 * n)
theorem beBytes_get : ∀ (m n i : Nat), i < m → (beBytes m n)[i]? = some (UInt8.ofNat (n / 256 ^ (m - 1 - i)))
  | 0, _, i, h => by omega
  | m + 1, n, 0, _ => rfl
  | m + 1, n, i + 1, h => by
    rw [beBytes, List.getElem?_cons_succ, beBytes_get m n i (by omega), show m + 1 - 1 - (i + 1) = m - 1 - i from by omega]
/-- A block while the number of bits is laid in, from its end: the last k bytes. -/
def cnt (blk : List UInt8) (n k : Nat) : List UInt8 := blk.take (64 - k) ++ (beBytes 8 (8 * n)).drop (8 - k)
theorem cnt_zero (blk : List UInt8) (n : Nat) (h : blk.length = 64) : cnt blk n 0 = blk := by
  unfold cnt
  rw [List.take_of_length_le (by omega), List.drop_eq_nil_of_le (by rw [beBytes_length]; decide), List.append_nil]
theorem cnt_last (blk : List UInt8) (n : Nat) : cnt blk n 8 = counted blk n := rfl
theorem cnt_put (blk : List UInt8) (n k : Nat) (h : blk.length = 64) (hk : k < 8) : into (cnt blk n k) (63 - k) [UInt8.ofNat (8 * n / 256 ^ k)] = cnt blk n (k + 1) := by
  have hb : (beBytes 8 (8 * n)).drop (8 - (k + 1)) = UInt8.ofNat (8 * n / 256 ^ k) :: (beBytes 8 (8 * n)).drop (8 - k) := by
    have hl : 8 - (k + 1) < (beBytes 8 (8 * n)).length := by rw [beBytes_length]; omega
    have hg := beBytes_get 8 (8 * n) (8 - (k + 1)) (by omega)
    rw [List.getElem?_eq_getElem hl, Option.some.injEq, show 8 - 1 - (8 - (k + 1)) = k from by omega] at hg
    rw [List.drop_eq_getElem_cons hl, hg, show 8 - (k + 1) + 1 = 8 - k from by omega]
  have ht : (blk.take (64 - k)).length = 64 - k := by rw [List.length_take]; omega
  have e1 : (cnt blk n k).take (63 - k) = blk.take (63 - k) := by
    unfold cnt
    rw [List.take_append_of_le_length (by omega), List.take_take, show min (63 - k) (64 - k) = 63 - k from by omega]
  have e2 : (cnt blk n k).drop (63 - k + 1) = (beBytes 8 (8 * n)).drop (8 - k) := by
    unfold cnt
    rw [show 63 - k + 1 = 64 - k from by omega, List.drop_left' ht]
  have e0 : into (cnt blk n k) (63 - k) [UInt8.ofNat (8 * n / 256 ^ k)] = (cnt blk n k).take (63 - k) ++ [UInt8.ofNat (8 * n / 256 ^ k)] ++ (cnt blk n k).drop (63 - k + 1) := rfl
  rw [e0, e1, e2]
  unfold cnt
  rw [hb, show 64 - (k + 1) = 63 - k from by omega, List.append_assoc]
  rfl
theorem pad_length (n : Nat) : (pad n).length = 1 + (119 - n % 64) % 64 + 8 := by
  unfold pad
  rw [List.length_cons, List.length_append, List.length_replicate, beBytes_length]
  omega

/-- The end, where there is room for the number of bits. -/
theorem Fed.end_room {l : List UInt8} {st : St} {blk : List UInt8} {used : Nat} (h : Fed l st blk used) (hu : used < 56) : shaOf l = (mix st (counted (lastBlock blk used) l.length)).bytes := by
  have hus := h.eq
  have hp := pad_length l.length
  have e0 : (119 - l.length % 64) % 64 = 55 - used := by omega
  have e1 : (padded l).length / 64 = l.length / 64 + 1 := by unfold padded; rw [List.length_append, hp]; omega
  unfold shaOf
  rw [e1, mixAll]
  unfold padded
  rw [mixAll_append st0 l (pad l.length) (l.length / 64) (by omega), ← h.at_, List.drop_append_of_le_length (by omega), ← h.rest]
  congr 2
  rw [List.take_of_length_le (by rw [List.length_append, List.length_take, hp, h.len]; omega)]
  unfold counted lastBlock pad
  rw [e0, List.take_append, List.length_take, h.len, List.take_of_length_le (l := blk.take used) (i := 56) (by rw [List.length_take]; omega), show 56 - min used 64 = (55 - used) + 1 from by omega, List.take_succ_cons, List.take_replicate, show min (55 - used) (63 - used) = 55 - used from by omega, List.append_assoc, List.cons_append]

/-- The end, where there is none. -/
theorem Fed.end_full {l : List UInt8} {st : St} {blk : List UInt8} {used : Nat} (h : Fed l st blk used) (hu : 56 ≤ used) : shaOf l = (mix (mix st (lastBlock blk used)) (counted (List.replicate 64 0) l.length)).bytes := by
  have hus := h.eq
  have hlt := h.lt
  have hp := pad_length l.length
  have e0 : (119 - l.length % 64) % 64 = 119 - used := by omega
  have e1 : (padded l).length / 64 = l.length / 64 + 1 + 1 := by unfold padded; rw [List.length_append, hp]; omega
  have er : List.replicate (119 - used) (0 : UInt8) = List.replicate (63 - used) 0 ++ List.replicate 56 0 := by
    rw [List.replicate_append_replicate]
    congr 1
    omega
  have ep : l.drop (64 * (l.length / 64)) ++ pad l.length = lastBlock blk used ++ counted (List.replicate 64 0) l.length := by
    unfold lastBlock counted pad
    rw [h.rest, e0, er, List.take_replicate]
    simp
  have hlb := lastBlock_length blk used h.len hlt
  unfold shaOf
  rw [e1, mixAll, mixAll]
  unfold padded
  have d2 : (l ++ pad l.length).drop (64 * (l.length / 64 + 1)) = counted (List.replicate 64 0) l.length := by
    rw [show 64 * (l.length / 64 + 1) = 64 * (l.length / 64) + 64 from by omega, ← List.drop_drop, List.drop_append_of_le_length (by omega), ep, List.drop_left' hlb]
  rw [mixAll_append st0 l (pad l.length) (l.length / 64) (by omega), ← h.at_, d2, List.drop_append_of_le_length (by omega), ep, List.take_left' hlb]
  congr 2
end Go.Proofs.YtapdnoellleimaaDoor

namespace Go.Proofs.YtapdnoellleimaaDoor
open Go.RowKit

theorem w_byte_info : (Tryd.prog.info? 5).map (fun i => (i.zero, i.size, i.bytes)) = some (some (.int .u8 0), 1, 1) := by kernel_rfl
theorem Tryd.cells_byte : Tryd.prog.cellsOf 5 = 1 := by kernel_rfl
/-- Two digests are equal just if their bytes are. -/
theorem bv_beq (a b : UInt8) : ((a.toNat : Int) == (b.toNat : Int)) = (a == b) := by
  rw [Bool.eq_iff_iff]
  simp only [beq_iff_eq]
  exact ⟨fun h => UInt8.toNat_inj.1 (by omega), fun h => by rw [h]⟩
theorem bv_get {l : List UInt8} {i : Nat} (h : i < l.length) : (l.map bv).toArray[i]? = some (bv l[i]) := by simp [h]
theorem eqItems_bytes (w : World) (xs ys : List UInt8) : ∀ is : List Nat, (∀ i ∈ is, i < xs.length ∧ i < ys.length) →
    (Op.eqItems 9999 5 1 (xs.map bv).toArray (ys.map bv).toArray is).run Tryd.prog w = .ok (is.all fun i => xs[i]? == ys[i]?) w
  | [], _ => by simp [Op.eqItems]
  | i :: is, h => by
    obtain ⟨h1, h2⟩ := h i (List.mem_cons_self ..)
    have hp : Tryd.prog.plainKey 5 = true := by kernel_rfl
    have p1 := run_part_plain (P := Tryd.prog) w hp (off := i * 1) (by rw [Nat.mul_one]; exact bv_get h1)
    have p2 := run_part_plain (P := Tryd.prog) w hp (off := i * 1) (by rw [Nat.mul_one]; exact bv_get h2)
    have p3 : (Op.equalIn 9999 5 (bv xs[i]) (bv ys[i])).run Tryd.prog w = .ok (((xs[i].toNat : Int)) == ((ys[i].toNat : Int))) w := run_equalIn_int w 9998 5 .u8 .u8 _ _ Tryd.underlying5
    have ih := eqItems_bytes w xs ys is (fun j hj => h j (List.mem_cons_of_mem _ hj))
    rw [bv_beq] at p3
    simp only [Op.eqItems, Sem.run_bind, p1, p2, p3, Result.andThen_ok, List.all_cons, List.getElem?_eq_getElem h1, List.getElem?_eq_getElem h2]
    by_cases he : xs[i] = ys[i]
    · rw [he]
      simp only [beq_self_eq_true, Bool.not_true, Bool.false_eq_true, if_false, Bool.true_and]
      exact ih
    · have e1 : (xs[i] == ys[i]) = false := by simpa using he
      have e2 : (some xs[i] == some ys[i]) = false := by simpa using he
      rw [e1, e2]
      simp
theorem dig_info : ∃ i, Tryd.prog.info? 5 = some i := by
  obtain ⟨i, h, _⟩ := info_parts w_byte_info
  exact ⟨i, h⟩
/-- Digests, compared. -/
theorem dig_eq (xs ys : List UInt8) (h1 : xs.length = 32) (h2 : ys.length = 32) (w : World) :
    (Op.equalIn 10000 89 (.agg (xs.map bv).toArray) (.agg (ys.map bv).toArray)).run Tryd.prog w = .ok (decide (xs = ys)) w := by
  obtain ⟨i, hi⟩ := dig_info
  have hc : Tryd.prog.cellsOf 5 = 1 := Tryd.cells_byte
  have h := run_equalIn_array (P := Tryd.prog) w 9999 (xs.map bv).toArray (ys.map bv).toArray Tryd.underlying89 hi
  rw [hc, eqItems_bytes w xs ys _ (fun j hj => by rw [List.mem_range] at hj; omega)] at h
  have e : ((List.range 32).all fun i => xs[i]? == ys[i]?) = decide (xs = ys) := by
    rw [Bool.eq_iff_iff, List.all_eq_true, decide_eq_true_iff]
    constructor
    · intro h
      apply List.ext_getElem?
      intro j
      rcases Nat.lt_or_ge j 32 with hj | hj
      · simpa using h j (List.mem_range.2 hj)
      · rw [List.getElem?_eq_none (by omega), List.getElem?_eq_none (by omega)]
    · rintro rfl j _
      simp
  rw [e] at h
  exact h

/-- An owned row that isn't nil, in its form. -/
theorem own_form {w : World} {base n : Nat} {e : TypeId} {v : Value} {xs : List Value} (h : w.ownsRow base e 1 v n xs) (hv : v ≠ .slice none 0 0) : ∃ g cap, v = .slice (some ⟨g, 0, none⟩) n cap ∧ base ≤ g ∧ g < w.heap.size ∧ n ≤ cap ∧ cap ≤ maxLen := by
  rcases h.2 with ⟨h1, _⟩ | ⟨g, cap, cur, h1, hb, hg, hn, hm, _⟩
  · exact absurd h1 hv
  · refine ⟨g, cap, h1, hb, ?_, hn, hm⟩
    have : Box w g e cur := hg
    exact this.lt

/-- append of what is seen, of cells of one each, onto an owned row that isn't nil: for the walk. -/
theorem wpList_append_seen {P : Program} {w : World} {ops : Array Oper} {rest : List Oper} {o : Oper} {a : Act} {Q : Exit → Act → World → Prop} (hgd : o.guard = none) (s x : Operand) (t : TypeId)
    (ho : o.op = .call { callee := .builtin .append, args := #[s, x], argTypes := #[t, t] })
    (base : Nat) (e : TypeId) (i : TypeInfo) (z : Value) (ht : P.underlying t = some (.slice e)) (hi : P.info? e = some i) (hz : i.zero = some z)
    (hsize : i.size = 1) (hby : i.bytes = 1) (hzs : z.cells.size = 1)
    (v : Value) (n : Nat) (xs : List Value) (hs : a.eval s = v) (hown : w.ownsRow base e 1 v n xs) (hv : v ≠ .slice none 0 0)
    (B : Nat) (A : Option Addr) (m c : Nat) (news : List Value) (hx : a.eval x = .slice A m c) (hsee : Sees w B A news) (hl : news.length = m) (h1 : ∀ u ∈ news, u.oneCell' = true)
    (hb : n + m ≤ 70368744177664) (hbase : base ≤ w.heap.size)
    (h : ∀ g cap w', w'.ownsRow base e 1 (.slice (some ⟨g, 0, none⟩) (n + m) cap) (n + m) (xs ++ news) → w.grownBy w' v.ownBlock → wpList P ops Q rest (a.put o.dst (.slice (some ⟨g, 0, none⟩) (n + m) cap)) w') : wpList P ops Q (o :: rest) a w := by
  have some_case : ∀ ad : Addr, A = some ad → (∀ j u, news[j]? = some u → w.cell? (ad.add j) = some u) → wpList P ops Q (o :: rest) a w := by
    rintro ad rfl hn
    refine wpList_append_own w hgd s x t ho base e i z 1 1 ht hi hz hsize hby hzs (by omega) v n xs hs hown ad m c news hx (by omega) hn h1 (by unfold maxLen; omega) (by omega) hbase ?_
    intro v' w' h2 h3 h4
    have hne : v' ≠ .slice none 0 0 := fun e => hv (h4.1 e).1
    obtain ⟨g, cap, rfl, _⟩ := own_form h2 hne
    exact h g cap w' h2 h3
  rcases hsee with rfl | ⟨g, o', rfl, _, hc⟩
  · cases A with
    | some ad => exact some_case ad rfl (fun j u hu => by cases hu)
    | none =>
      simp only [List.length_nil] at hl
      subst hl
      refine wpList_plain hgd fun K hK => ?_
      obtain ⟨g, cap, rfl, _, _, hnc, _⟩ := own_form hown hv
      have hrun : (Builtin.append_ #[t, t] o.type #[.slice (some ⟨g, 0, none⟩) n cap, .slice none 0 c]).run P w = .ok (.slice (some ⟨g, 0, none⟩) n cap) w := by
        simp [Builtin.append_, run_underlying ht, sizeOf, typeInfo, hi, Builtin.lenOf, Builtin.firstCells, hnc, storeCells]
      unfold Oper.wp
      simp [execOp, ho, resolve, invoke, builtin, hs, hx, hrun, Result.andThen]
      have h0 := h g cap w (by simpa using hown) (only_refl _ _)
      exact hK _ _ h0
  · exact some_case _ rfl (fun j u hu => by rw [plain_add]; exact hc j u hu)

end Go.Proofs.YtapdnoellleimaaDoor

namespace Go.Proofs.YtapdnoellleimaaDoor
open Go.RowKit

theorem own_slice {w : World} {base n : Nat} {e : TypeId} {v : Value} {xs : List Value} (h : w.ownsRow base e 1 v n xs) : ∃ A c, v = .slice A n c := by
  rcases h.2 with ⟨h1, h2⟩ | ⟨g, cap, cur, h1, _⟩
  · refine ⟨none, 0, ?_⟩
    have : n = 0 := by have := h.1; rw [h2] at this; simp at this; omega
    rw [h1, this]
  · exact ⟨_, _, h1⟩
/-- append of what is seen onto an owned row that may be nil: for the walk. -/
theorem wpList_append_maybe {P : Program} {w : World} {ops : Array Oper} {rest : List Oper} {o : Oper} {a : Act} {Q : Exit → Act → World → Prop} (hgd : o.guard = none) (s x : Operand) (t : TypeId)
    (ho : o.op = .call { callee := .builtin .append, args := #[s, x], argTypes := #[t, t] })
    (base : Nat) (e : TypeId) (i : TypeInfo) (z : Value) (ht : P.underlying t = some (.slice e)) (hi : P.info? e = some i) (hz : i.zero = some z)
    (hsize : i.size = 1) (hby : i.bytes = 1) (hzs : z.cells.size = 1)
    (v : Value) (n : Nat) (xs : List Value) (hs : a.eval s = v) (hown : w.ownsRow base e 1 v n xs)
    (B : Nat) (A : Option Addr) (m c : Nat) (news : List Value) (hx : a.eval x = .slice A m c) (hsee : Sees w B A news) (hl : news.length = m) (h1 : ∀ u ∈ news, u.oneCell' = true)
    (hb : n + m ≤ 70368744177664) (hbase : base ≤ w.heap.size)
    (h : ∀ v' w', w'.ownsRow base e 1 v' (n + m) (xs ++ news) → w.grownBy w' v.ownBlock → wpList P ops Q rest (a.put o.dst v') w') : wpList P ops Q (o :: rest) a w := by
  have some_case : ∀ ad : Addr, A = some ad → (∀ j u, news[j]? = some u → w.cell? (ad.add j) = some u) → wpList P ops Q (o :: rest) a w := by
    rintro ad rfl hn
    exact wpList_append_own w hgd s x t ho base e i z 1 1 ht hi hz hsize hby hzs (by omega) v n xs hs hown ad m c news hx (by omega) hn h1 (by unfold maxLen; omega) (by omega) hbase (fun v' w' h2 h3 _ => h v' w' h2 h3)
  rcases hsee with rfl | ⟨g, o', rfl, _, hc⟩
  · cases A with
    | some ad => exact some_case ad rfl (fun j u hu => by cases hu)
    | none =>
      simp only [List.length_nil] at hl
      subst hl
      refine wpList_plain hgd fun K hK => ?_
      have h0 := h v w (by simpa using hown) (only_refl _ _)
      rcases hown.2 with ⟨rfl, rfl⟩ | ⟨g, cap, cur, rfl, _, _, hnc, _⟩
      · have hrun : (Builtin.append_ #[t, t] o.type #[.slice none 0 0, .slice none 0 c]).run P w = .ok (.slice none 0 0) w := by
          simp [Builtin.append_, run_underlying ht, sizeOf, typeInfo, hi, Builtin.lenOf, Builtin.firstCells]
        unfold Oper.wp
        simp [execOp, ho, resolve, invoke, builtin, hs, hx, hrun, Result.andThen]
        exact hK _ _ h0
      · have hrun : (Builtin.append_ #[t, t] o.type #[.slice (some ⟨g, 0, none⟩) n cap, .slice none 0 c]).run P w = .ok (.slice (some ⟨g, 0, none⟩) n cap) w := by
          simp [Builtin.append_, run_underlying ht, sizeOf, typeInfo, hi, Builtin.lenOf, Builtin.firstCells, hnc, storeCells]
        unfold Oper.wp
        simp [execOp, ho, resolve, invoke, builtin, hs, hx, hrun, Result.andThen]
        exact hK _ _ h0
  · exact some_case _ rfl (fun j u hu => by rw [plain_add]; exact hc j u hu)
end Go.Proofs.YtapdnoellleimaaDoor

namespace Go.Proofs.YtapdnoellleimaaDoor
open Go.RowKit

/-- A slice of the call's own holds the bytes xs. -/
structure OutW (w0 : World) (g cap : Nat) (xs : List UInt8) (wr : World) : Prop where
  own : wr.ownsRow w0.heap.size 5 1 (.slice (some ⟨g, 0, none⟩) xs.length cap) xs.length (xs.map bv)
  far : Below w0.heap.size w0 wr
theorem OutW.low {w0 wr : World} {g cap : Nat} {xs : List UInt8} (h : OutW w0 g cap xs wr) : w0.heap.size ≤ g ∧ g < wr.heap.size := h.own.lt g rfl
theorem OutW.alloc {w0 wr : World} {g cap : Nat} {xs : List UInt8} (h : OutW w0 g cap xs wr) (o : Obj) : OutW w0 g cap xs (wr.alloc o) := ⟨h.own.alloc o, h.far.alloc h.far.size o⟩
/-- What append leaves. -/
theorem OutW.grow {w0 wr w' : World} {g cap g' cap' : Nat} {xs ys : List UInt8} (h : OutW w0 g cap xs wr) (ho : w'.ownsRow w0.heap.size 5 1 (.slice (some ⟨g', 0, none⟩) (xs.length + ys.length) cap') (xs.length + ys.length) (xs.map bv ++ ys.map bv)) (hg : wr.grownBy w' (some g)) : OutW w0 g' cap' (xs ++ ys) w' := by
  refine ⟨?_, h.far.trans (below_only hg h.low.1 h.far.size)⟩
  rw [List.length_append, List.map_append]
  exact ho
theorem nn_some {g n cap : Nat} : Value.slice (some ⟨g, 0, none⟩) n cap ≠ Value.slice none 0 0 := fun h => by cases h

theorem grow_one {w0 wr w' : World} {g cap g' cap' N j : Nat} {l : List UInt8} (hN : N = (l ++ 128 :: List.replicate j 0).length) (h : OutW w0 g cap (l ++ 128 :: List.replicate j 0) wr)
    (ho : w'.ownsRow w0.heap.size 5 1 (.slice (some ⟨g', 0, none⟩) (N + 1) cap') (N + 1) ((l ++ 128 :: List.replicate j 0).map bv ++ ([0] : List UInt8).map bv)) (hg : wr.grownBy w' (some g)) :
    OutW w0 g' cap' (l ++ 128 :: List.replicate (j + 1) 0) w' := by
  subst hN
  have h2 := h.grow (ys := [0]) ho hg
  have e : l ++ 128 :: List.replicate j 0 ++ [0] = l ++ 128 :: List.replicate (j + 1) (0 : UInt8) := by
    rw [List.replicate_succ', List.append_assoc, List.cons_append]
  rw [e] at h2
  exact h2
def rowLen (v : Value) : Nat := match v with | .slice _ n _ => n | _ => 0
/-- How many noughts. -/
def gap (n : Nat) : Nat := (119 - n % 64) % 64
/-- What is left of the number behind k bytes. -/
def leftN (n k : Nat) : Nat := if k = 0 then n else 8 * n / 256 ^ k
theorem leftN_succ (n k : Nat) (h : 0 < k) : leftN n (k + 1) = leftN n k / 256 := by
  unfold leftN
  rw [if_neg (by omega), if_neg (by omega), Nat.pow_succ, Nat.div_div_eq_div_mul]
theorem leftN_one (n : Nat) : leftN n 1 = n / 32 := by
  unfold leftN
  rw [if_neg (by decide), Nat.pow_one]
  omega
theorem be_drop (n k : Nat) (hk : k < 8) : (beBytes 8 (8 * n)).drop (8 - (k + 1)) = UInt8.ofNat (8 * n / 256 ^ k) :: (beBytes 8 (8 * n)).drop (8 - k) := by
  have hl : 8 - (k + 1) < (beBytes 8 (8 * n)).length := by rw [beBytes_length]; omega
  have hg := beBytes_get 8 (8 * n) (8 - (k + 1)) (by omega)
  rw [List.getElem?_eq_getElem hl, Option.some.injEq, show 8 - 1 - (8 - (k + 1)) = k from by omega] at hg
  rw [List.drop_eq_getElem_cons hl, hg, show 8 - (k + 1) + 1 = 8 - k from by omega]

/-- What the second loop carries of memory. -/
structure TailW (w0 : World) (g cap : Nat) (xs : List UInt8) (At : Option Addr) (ts : List UInt8) (wr : World) : Prop where
  out : OutW w0 g cap xs wr
  tail : Sees wr wr.heap.size At (ts.map bv)

/-- A byte ahead of the tail. -/
theorem tail_one {w0 wr w' : World} {g cap k g' cap' : Nat} {xs ts : List UInt8} {At : Option Addr} {b : UInt8} (h : TailW w0 g cap xs At ts wr)
    (ho : w'.ownsRow wr.heap.size 5 1 (.slice (some ⟨g', 0, none⟩) (1 + k) cap') (1 + k) (([b] : List UInt8).map bv ++ ts.map bv)) (hg : (wr.alloc (.cells #[bv b] 5)).grownBy w' (some wr.heap.size)) :
    TailW w0 g cap xs (some ⟨g', 0, none⟩) (b :: ts) w' := by
  have hb : Below wr.heap.size wr w' := ((Below.refl _ _).alloc (Nat.le_refl _) _).trans (below_only hg (Nat.le_refl _) (by simp))
  refine ⟨⟨h.out.own.kept (only_below hb none) (.inr (by simp [Value.ownBlock])), h.out.far.trans (hb.mono h.out.far.size)⟩, ?_⟩
  have := Sees.of_own ho
  exact this

set_option maxRecDepth 100000 in
set_option maxHeartbeats 1000000 in
theorem padded_any (l : List UInt8) (A : Option Addr) (c : Nat) (w : World) (hs : Sees w w.heap.size A (l.map bv)) (hl : l.length ≤ 1099511627776) :
    Calls Tryd.prog 70 #[.slice A l.length c] w fun e w' => ∃ g c', e = .returned (.slice (some ⟨g, 0, none⟩) (padded l).length c') ∧ Sees w' w'.heap.size (some ⟨g, 0, none⟩) ((padded l).map bv) ∧ Below w.heap.size w w' ∧ w.heap.size ≤ g ∧ (padded l).length ≤ c' ∧ c' ≤ maxLen := by
  obtain ⟨i0, hi0, hz0, hz1, hz2⟩ := info_parts w_byte_info
  have HS := Lib.hid hs
  have HMY : Hid ((w.alloc (.cells #[] 5)).ownsRow w.heap.size 5 1 (.slice (some ⟨w.heap.size, 0, none⟩) 0 0) 0 []) := World.ownsRow_lit w #[] 0 (Nat.le_refl _) (by simp [maxLen]) rfl
  have HB0 : Hid (Below w.heap.size w (w.alloc (.cells #[] 5))) := (Below.refl _ _).alloc (Nat.le_refl _) _
  have HSee := Lib.hid (hs.below HB0.out)
  have hone := Lib.hid (bv_one l)
  have hlen : Hid ((l.map bv).length = l.length) := List.length_map ..
  clear hs
  go_enter Tryd.func70, Tryd.ntmps70
  go_wp2_with (first
    | (((with_reducible show wpList _ _ _ ((⟨some 9, _, _, _, _, _⟩ : Oper) :: _) _ _)); refine wpList_append_seen rfl (.tmp 7) (.tmp 8) 22 rfl w.heap.size 5 i0 _ Tryd.underlying22 hi0 hz0 hz1 hz2 rfl (.slice (some ⟨w.heap.size, 0, none⟩) 0 0) 0 [] rfl HMY.out nn_some w.heap.size A l.length c (l.map bv) rfl HSee.out hlen.out hone.out (by omega) (by simp) ?_; intro g cap w2 hown hgrow; rw [Nat.zero_add] at hown ⊢; rw [List.nil_append] at hown; have HO2 : Hid (OutW w g cap l w2) := ⟨hown, HB0.out.trans (below_only hgrow (Nat.le_refl _) (by simp))⟩; have HO2a := Lib.hid (HO2.out.alloc (.cells #[.int .u8 128] 5)); have HBX : Hid (Box (w2.alloc (.cells #[.int .u8 128] 5)) w2.heap.size 5 #[.int .u8 128]) := Box.made _ _ _; have HSX := Lib.hid (Sees.of_box HBX.out HBX.out.lt); clear hown hgrow)
    | (((with_reducible show wpList _ _ _ ((⟨some 11, _, _, _, _, _⟩ : Oper) :: _) _ _)); refine wpList_append_seen rfl (.tmp 9) (.tmp 10) 22 rfl w.heap.size 5 i0 _ Tryd.underlying22 hi0 hz0 hz1 hz2 rfl (.slice (some ⟨g, 0, none⟩) l.length cap) l.length (l.map bv) rfl HO2a.out.own nn_some _ (some ⟨w2.heap.size, 0, none⟩) 1 1 (([128] : List UInt8).map bv) rfl HSX.out rfl (bv_one _) (by omega) HO2a.out.far.size ?_; intro g3 cap3 w3 hown hgrow; have HO3 : Hid (OutW w g3 cap3 (l ++ [128]) w3) := HO2a.out.grow hown hgrow; clear hown hgrow))
  clear HMY HB0 HSee hone hlen HO2 HO2a HBX HSX HS
  go_loopw [3] (fun v wr => ∃ (g cap N j : Nat), v = .slice (some ⟨g, 0, none⟩) N cap ∧ N = l.length + 1 + j ∧ j ≤ gap l.length ∧ Hid (N = (l ++ 128 :: List.replicate j 0).length) ∧ Hid (OutW w g cap (l ++ 128 :: List.replicate j 0) wr)) (fun v _ => gap l.length + l.length + 1 - rowLen v)
  case atStart => exact ⟨g3, cap3, l.length + 1, 0, rfl, rfl, Nat.zero_le _, by show _ = _; simp, HO3⟩
  case round =>
    clear HO3
    obtain ⟨g, cap, N, j, rfl, hN, hj, HN, HO⟩ := hrel
    have hgap : gap l.length = (119 - l.length % 64) % 64 := rfl
    by_cases hlt : j < gap l.length
    · have t1 : ((N : Int) % 64 == 56) = false := by simp; omega
      have t2 : ((N : Int) % 64 != 56) = true := by simp; omega
      have HNN := Lib.hid hN
      have HO1 := Lib.hid (HO.out.alloc (.cells #[.int .u8 0] 5))
      have HBX : Hid (Box (wr.alloc (.cells #[.int .u8 0] 5)) wr.heap.size 5 #[.int .u8 0]) := Box.made _ _ _
      have HSX := Lib.hid (Sees.of_box HBX.out HBX.out.lt)
      have HOW : Hid ((wr.alloc (.cells #[.int .u8 0] 5)).ownsRow w.heap.size 5 1 (.slice (some ⟨g, 0, none⟩) N cap) N ((l ++ 128 :: List.replicate j 0).map bv)) := by
        have h := HO1.out.own
        rw [← HN.out] at h
        exact h
      have hNl : N ≤ 2199023255552 := by omega
      have HGAP := Lib.hid hgap
      clear hgap hN HO
      go_wp2_with (((with_reducible show wpList _ _ _ ((⟨some 18, _, _, _, _, _⟩ : Oper) :: _) _ _)); refine wpList_append_seen rfl (.tmp 16) (.tmp 17) 22 rfl w.heap.size 5 i0 _ Tryd.underlying22 hi0 hz0 hz1 hz2 rfl (.slice (some ⟨g, 0, none⟩) N cap) N ((l ++ 128 :: List.replicate j 0).map bv) rfl HOW.out nn_some _ (some ⟨wr.heap.size, 0, none⟩) 1 1 (([0] : List UInt8).map bv) rfl HSX.out rfl (bv_one _) (by omega) HO1.out.far.size ?_; intro g4 cap4 w4 hown hgrow; have HO4 : Hid (OutW w g4 cap4 (l ++ 128 :: List.replicate (j + 1) 0) w4) := grow_one HN.out HO1.out hown hgrow; clear hown hgrow)
      go_roundw
      case rel => exact ⟨g4, cap4, N + 1, j + 1, rfl, by have := HNN.out; omega, by omega, by show _ = _; have := HN.out; simp at this ⊢; omega, HO4⟩
      case measure => simp [rowLen]; have := HNN.out; omega
    · have t1 : ((N : Int) % 64 == 56) = true := by simp; omega
      have t2 : ((N : Int) % 64 != 56) = false := by simp; omega
      obtain rfl : j = gap l.length := by omega
      generalize hxs : l ++ 128 :: List.replicate (gap l.length) 0 = xs at *
      have HXS := Lib.hid hxs
      clear hxs hgap
      have HNN := Lib.hid hN
      have hNl : N ≤ 2199023255552 := by
        have : gap l.length < 64 := Nat.mod_lt _ (by decide)
        omega
      clear hN t1 hlt hj
      go_wp2
      clear t2
      obtain ⟨wo, rfl⟩ : ∃ wo : World, wo = wr := ⟨_, rfl⟩
      go_loopw [4, 5, 6] (fun n t i wr => ∃ (k : Nat) (At : Option Addr) (ct : Nat) (ts : List UInt8), k ≤ 8 ∧ i = .int .i64 k ∧ n = .int .i64 (leftN l.length k : Nat) ∧ t = .slice At k ct ∧ Hid (ts.length = k) ∧ Hid (ts = (beBytes 8 (8 * l.length)).drop (8 - k)) ∧ Hid (TailW w g cap xs At ts wr)) (fun _ _ i _ => 8 - (intOf i).toNat)
      case atStart => exact ⟨0, none, 0, [], by decide, rfl, rfl, rfl, rfl, by show [] = _; rw [List.drop_eq_nil_of_le (by rw [beBytes_length]; decide)], ⟨HO.out, .inl rfl⟩⟩
      case round =>
        clear HO
        obtain ⟨k, At, ct, ts, hk, rfl, rfl, rfl, HTL, HTS, HT⟩ := hrel
        by_cases hlt : k < 8
        · have hlo : leftN l.length k ≤ 8796093022208 := by
            unfold leftN
            split
            · omega
            · exact Nat.le_trans (Nat.div_le_self _ _) (by omega)
          obtain ⟨b, hb⟩ : ∃ b : UInt8, b = UInt8.ofNat (8 * l.length / 256 ^ k) := ⟨_, rfl⟩
          have HBB := Lib.hid hb
          have hval : k = 0 → (l.length : Int) % 32 * 8 = (b.toNat : Int) := by
            rintro rfl
            rw [hb, UInt8.toNat_ofNat']
            omega
          have hval2 : 0 < k → ((leftN l.length k : Nat) : Int) % 256 = (b.toNat : Int) := by
            intro h0
            rw [hb, UInt8.toNat_ofNat']
            unfold leftN
            rw [if_neg (by omega)]
            omega
          have HX1 : Hid ((wr.alloc (.cells #[bv b] 5)).ownsRow wr.heap.size 5 1 (.slice (some ⟨wr.heap.size, 0, none⟩) 1 1) 1 (([b] : List UInt8).map bv)) := World.ownsRow_lit wr #[bv b] 1 (Nat.le_refl _) (by simp [maxLen]) rfl
          have HS1 : Hid (Sees (wr.alloc (.cells #[bv b] 5)) wr.heap.size At (ts.map bv)) := HT.out.tail.keep (fun p hp => World.cell?_alloc_lt wr _ p hp)
          have HL1 : Hid ((ts.map bv).length = k) := by
            show _ = _
            rw [List.length_map]
            exact HTL.out
          have hsize : Hid (wr.heap.size ≤ (wr.alloc (.cells #[bv b] 5)).heap.size) := by
            show _ ≤ _
            simp
          clear hb
          by_cases h0 : k = 0
          · subst h0
            have e1 : (l.length : Int) % 32 * 8 = (b.toNat : Int) := hval rfl
            have e0 : ((leftN l.length 0 : Nat) : Int) = (l.length : Int) := rfl
            clear hval hval2
            rw [e0, show ((0 : Nat) : Int) = 0 from rfl]
            have hb1 : (l.length : Int) ≤ 1099511627776 := by omega
            clear e0 hlo
            go_wp2_with (((with_reducible show wpList _ _ _ ((⟨some 33, _, _, _, _, _⟩ : Oper) :: _) _ _)); refine wpList_append_seen rfl (.tmp 31) (.tmp 32) 22 rfl wr.heap.size 5 i0 _ Tryd.underlying22 hi0 hz0 hz1 hz2 rfl (.slice (some ⟨wr.heap.size, 0, none⟩) 1 1) 1 (([b] : List UInt8).map bv) rfl HX1.out nn_some wr.heap.size At 0 ct (ts.map bv) rfl HS1.out HL1.out (bv_one _) (by omega) hsize.out ?_; intro g5 cap5 w5 hown hgrow; have HT5 : Hid (TailW w g cap xs (some ⟨g5, 0, none⟩) (b :: ts) w5) := tail_one HT.out hown hgrow; clear hown hgrow)
            clear e1
            go_roundw
            case rel => exact ⟨1, some ⟨g5, 0, none⟩, cap5, b :: ts, by decide, rfl, by rw [leftN_one]; rfl, rfl, by show _ = _; rw [List.length_cons, HTL.out], by show _ = _; rw [be_drop _ 0 (by decide), HTS.out, HBB.out], HT5⟩
            case measure => simp [intOf]
          · have e1 : ((leftN l.length k : Nat) : Int) % 256 = (b.toNat : Int) := hval2 (by omega)
            have t0 : ((k : Int) == 0) = false := by simp; omega
            have HLS := Lib.hid (leftN_succ l.length k (by omega))
            clear hval hval2
            generalize leftN l.length k = n4 at *
            have hb1 : (n4 : Int) ≤ 8796093022208 := by omega
            clear hlo
            go_wp2_with (((with_reducible show wpList _ _ _ ((⟨some 41, _, _, _, _, _⟩ : Oper) :: _) _ _)); refine wpList_append_seen rfl (.tmp 39) (.tmp 40) 22 rfl wr.heap.size 5 i0 _ Tryd.underlying22 hi0 hz0 hz1 hz2 rfl (.slice (some ⟨wr.heap.size, 0, none⟩) 1 1) 1 (([b] : List UInt8).map bv) rfl HX1.out nn_some wr.heap.size At k ct (ts.map bv) rfl HS1.out HL1.out (bv_one _) (by omega) hsize.out ?_; intro g5 cap5 w5 hown hgrow; have HT5 : Hid (TailW w g cap xs (some ⟨g5, 0, none⟩) (b :: ts) w5) := tail_one HT.out hown hgrow; clear hown hgrow)
            clear e1 t0
            go_roundw
            case rel => exact ⟨k + 1, some ⟨g5, 0, none⟩, cap5, b :: ts, by omega, by go_num, by rw [HLS.out]; rfl, by rw [Nat.add_comm 1 k], by show _ = _; rw [List.length_cons, HTL.out], by show _ = _; rw [be_drop _ k hlt, HTS.out, HBB.out], HT5⟩
            case measure => simp [intOf]; omega
        · obtain rfl : k = 8 := by omega
          have hts : ts = beBytes 8 (8 * l.length) := HTS.out
          have HTS2 := Lib.hid hts
          have hxl : N = xs.length := HN.out
          have HXL := Lib.hid hxl
          have HOW : Hid (wr.ownsRow w.heap.size 5 1 (.slice (some ⟨g, 0, none⟩) N cap) N (xs.map bv)) := by
            have h := HT.out.out.own
            rw [← hxl] at h
            exact h
          have HL1 : Hid ((ts.map bv).length = 8) := by
            show _ = _
            rw [List.length_map]
            exact HTL.out
          clear hts hxl
          go_wp2_with (((with_reducible show wpList _ _ _ ((⟨some 46, _, _, _, _, _⟩ : Oper) :: _) _ _)); refine wpList_append_seen rfl (.tmp 44) (.tmp 45) 22 rfl w.heap.size 5 i0 _ Tryd.underlying22 hi0 hz0 hz1 hz2 rfl (.slice (some ⟨g, 0, none⟩) N cap) N (xs.map bv) rfl HOW.out nn_some wr.heap.size At 8 ct (ts.map bv) rfl HT.out.tail HL1.out (bv_one _) (by omega) HT.out.out.far.size ?_; intro g5 cap5 w5 hown hgrow; have HO5 := Lib.hid hown; have HG5 := Lib.hid hgrow; clear hown hgrow)
          go_ret
          have e : padded l = xs ++ ts := by
            rw [← HXS.out, HTS2.out]
            unfold padded pad gap
            rw [List.append_assoc, List.cons_append]
          have el : (padded l).length = N + 8 := by rw [e, List.length_append, HTL.out, HXL.out]
          obtain ⟨g6, cap6, hv, hge, _, hle, hmx⟩ := own_form HO5.out nn_some
          simp only [Value.slice.injEq, Option.some.injEq, Addr.mk.injEq, and_true, true_and] at hv
          obtain ⟨rfl, rfl⟩ := hv
          refine ⟨g5, cap5, by rw [el]; rfl, ?_, HT.out.out.far.trans (below_only HG5.out HT.out.out.low.1 HT.out.out.far.size), hge, by rw [el]; exact hle, hmx⟩
          rw [e, List.map_append]
          exact Sees.of_own HO5.out
end Go.Proofs.YtapdnoellleimaaDoor

namespace Go.Proofs.YtapdnoellleimaaDoor
open Go.RowKit

noncomputable def ldDigest (v : Value) : Sem Value := Instr.loadAt 89 v
theorem ldDigest_def (v : Value) : Instr.loadAt 89 v = ldDigest v := rfl
noncomputable def apAll (ts : Array TypeId) (ty : TypeId) (vs : Array Value) : Sem Value := Builtin.append_ ts ty vs
theorem apAll_def (ts : Array TypeId) (ty : TypeId) (vs : Array Value) : Builtin.append_ ts ty vs = apAll ts ty vs := rfl

theorem Box.load_digest {w : World} {g : Nat} {t : TypeId} {d : List UInt8} (h : Box w g t (d.map bv).toArray) (hd : d.length = 32) : (ldDigest (.pointer (some ⟨g, 0, none⟩))).run Tryd.prog w = .ok (.agg (d.map bv).toArray) w :=
  run_loadAt_mid (P := Tryd.prog) w g 0 89 (d.map bv) _ (fun j v hv => by rw [Nat.zero_add, h.cell, List.getElem?_toArray]; exact hv) Tryd.underlying89 rfl (by rw [List.length_map, hd]; kernel_rfl)

theorem append_fact {w : World} {base n g cap : Nat} {xs : List Value} (hown : w.ownsRow base 5 1 (.slice (some ⟨g, 0, none⟩) n cap) n xs)
    {g' m c k : Nat} {news : List Value} (hk : k = n + m) (hsee : ∀ j u, news[j]? = some u → w.cell? ⟨g', j, none⟩ = some u) (hl : news.length = m) (h1 : ∀ u ∈ news, u.oneCell' = true)
    (hb : n + m ≤ 70368744177664) (hbase : base ≤ w.heap.size) :
    ∃ g7 cap7 w7, (apAll #[22, 22] 22 #[.slice (some ⟨g, 0, none⟩) n cap, .slice (some ⟨g', 0, none⟩) m c]).run Tryd.prog w = .ok (.slice (some ⟨g7, 0, none⟩) k cap7) w7 ∧ w7.ownsRow base 5 1 (.slice (some ⟨g7, 0, none⟩) k cap7) k (xs ++ news) ∧ w.grownBy w7 (some g) := by
  obtain ⟨i0, hi0, hz0, hz1, hz2⟩ := info_parts w_byte_info
  obtain ⟨v', w', hr, ho, hg, hn⟩ := run_append_own w base 22 22 5 i0 _ 1 1 Tryd.underlying22 hi0 hz0 hz1 hz2 rfl (by omega) _ n xs hown ⟨g', 0, none⟩ m c news (by omega) (fun j u hu => by rw [plain_add, Nat.zero_add]; exact hsee j u hu) h1 (by unfold maxLen; omega) (by omega) hbase
  subst hk
  obtain ⟨g7, cap7, rfl, _⟩ := own_form ho (fun e => nn_some (hn.1 e).1)
  exact ⟨g7, cap7, w', hr, ho, hg⟩
end Go.Proofs.YtapdnoellleimaaDoor

namespace Go.Proofs.YtapdnoellleimaaDoor
open Go.RowKit

section
variable {α : Type} (p : α → α → α) (z : α)

/-- The row above. -/
def up : List α → List α
  | a :: b :: r => p a b :: up r
  | l => l
theorem up_length : ∀ l : List α, (up p l).length = (l.length + 1) / 2
  | [] => by simp [up]
  | [_] => by simp [up]
  | a :: b :: r => by
    rw [up, List.length_cons, up_length r]
    simp only [List.length_cons]
    omega
/-- The place beside. -/
def sib (n : Nat) : Nat := if n % 2 = 0 then n + 1 else n - 1
/-- The one above a place's own and the one beside it. -/
def meet (n : Nat) (a b : α) : α := if n % 2 = 0 then p a b else p b a
theorem up_pair : ∀ (l : List α) (i : Nat), 2 * i + 1 < l.length → (up p l).getD i z = p (l.getD (2 * i) z) (l.getD (2 * i + 1) z)
  | [], i, h => by simp at h
  | [_], i, h => by simp at h
  | a :: b :: r, 0, _ => rfl
  | a :: b :: r, i + 1, h => by
    have h' : 2 * i + 1 < r.length := by simp at h; omega
    have ih := up_pair r i h'
    rw [up, show 2 * (i + 1) + 1 = 2 * i + 1 + 1 + 1 from by omega, show 2 * (i + 1) = 2 * i + 1 + 1 from by omega]
    simpa using ih
theorem up_last : ∀ (l : List α) (i : Nat), 2 * i + 1 = l.length → (up p l).getD i z = l.getD (2 * i) z
  | [], i, h => by simp at h
  | [a], i, h => by
    obtain rfl : i = 0 := by simp at h; omega
    rfl
  | a :: b :: r, 0, h => by simp at h
  | a :: b :: r, i + 1, h => by
    have h' : 2 * i + 1 = r.length := by simp at h; omega
    have ih := up_last r i h'
    rw [up, show 2 * (i + 1) = 2 * i + 1 + 1 from by omega]
    simpa using ih

/-- The topmost. -/
def top (l : List α) : α := if l.length ≤ 1 then l.getD 0 z else top (up p l)
termination_by l.length
decreasing_by
  have := up_length p l
  omega
theorem top_one {l : List α} (h : l.length ≤ 1) : top p z l = l.getD 0 z := by rw [top, if_pos h]
theorem top_up {l : List α} (h : 1 < l.length) : top p z l = top p z (up p l) := by rw [top, if_neg (by omega)]

/-- A leaf's path. -/
def way (l : List α) (n : Nat) : List α := if l.length ≤ 1 then [] else (if sib n < l.length then [l.getD (sib n) z] else []) ++ way (up p l) (n / 2)
termination_by l.length
decreasing_by
  have := up_length p l
  omega
theorem way_one {l : List α} (h : l.length ≤ 1) (n : Nat) : way p z l n = [] := by rw [way, if_pos h]
theorem way_up {l : List α} (h : 1 < l.length) (n : Nat) : way p z l n = (if sib n < l.length then [l.getD (sib n) z] else []) ++ way p z (up p l) (n / 2) := by rw [way, if_neg (by omega)]

/-- Where a path leads, if it has the right length. -/
def ends (n count : Nat) (own : α) (path : List α) : Option α :=
  if count ≤ 1 then (if path = [] then some own else none) else
    if sib n < count then (match path with
      | [] => none
      | x :: r => ends (n / 2) ((count + 1) / 2) (meet p n own x) r)
    else ends (n / 2) ((count + 1) / 2) own path
termination_by count
theorem ends_one {n count : Nat} (h : count ≤ 1) (own : α) : ends p n count own [] = some own := by rw [ends, if_pos h, if_pos rfl]
theorem ends_more {n count : Nat} (h : count ≤ 1) (own x : α) (r : List α) : ends p n count own (x :: r) = none := by rw [ends, if_pos h, if_neg (by simp)]
theorem ends_none {n count : Nat} (h : 1 < count) (hs : sib n < count) (own : α) : ends p n count own [] = none := by rw [ends, if_neg (by omega), if_pos hs]
theorem ends_cons {n count : Nat} (h : 1 < count) (hs : sib n < count) (own x : α) (r : List α) : ends p n count own (x :: r) = ends p (n / 2) ((count + 1) / 2) (meet p n own x) r := by rw [ends, if_neg (by omega), if_pos hs]
theorem ends_skip {n count : Nat} (h : 1 < count) (hs : ¬ sib n < count) (own : α) (r : List α) : ends p n count own r = ends p (n / 2) ((count + 1) / 2) own r := by rw [ends.eq_def, if_neg (by omega), if_neg hs]

/-- How many digests a path has. -/
def steps (n count : Nat) : Nat := if count ≤ 1 then 0 else (if sib n < count then 1 else 0) + steps (n / 2) ((count + 1) / 2)
termination_by count
theorem steps_one {n count : Nat} (h : count ≤ 1) : steps n count = 0 := by rw [steps, if_pos h]
theorem steps_up {n count : Nat} (h : 1 < count) : steps n count = (if sib n < count then 1 else 0) + steps (n / 2) ((count + 1) / 2) := by rw [steps, if_neg (by omega)]

theorem ends_steps (N : Nat) : ∀ (count n : Nat) (own : α) (r : List α) (x : α), count ≤ N → ends p n count own r = some x → r.length = steps n count := by
  induction N with
  | zero =>
    intro count n own r x hN h
    rw [steps_one (by omega)]
    cases r with
    | nil => rfl
    | cons y r => rw [ends_more p (by omega)] at h; cases h
  | succ N ih =>
    intro count n own r x hN h
    by_cases hc : count ≤ 1
    · rw [steps_one hc]
      cases r with
      | nil => rfl
      | cons y r => rw [ends_more p hc] at h; cases h
    · rw [steps_up (by omega)]
      by_cases hs : sib n < count
      · rw [if_pos hs]
        cases r with
        | nil => rw [ends_none p (by omega) hs] at h; cases h
        | cons y r =>
          rw [ends_cons p (by omega) hs] at h
          have := ih _ _ _ _ _ (by omega) h
          rw [List.length_cons]
          omega
      · rw [if_neg hs]
        rw [ends_skip p (by omega) hs] at h
        have := ih _ _ _ _ _ (by omega) h
        omega
theorem ends_not {n count : Nat} {own : α} {r : List α} (h : r.length ≠ steps n count) : ends p n count own r = none := by
  cases e : ends p n count own r with
  | none => rfl
  | some x => exact absurd (ends_steps p count count n own r x (Nat.le_refl _) e) h

/-- Each leaf's path leads to the root. -/
theorem way_ends (N : Nat) : ∀ (l : List α) (n : Nat), l.length ≤ N → n < l.length → ends p n l.length (l.getD n z) (way p z l n) = some (top p z l) := by
  induction N with
  | zero => intro l n hN h; omega
  | succ N ih =>
    intro l n hN h
    by_cases hc : l.length ≤ 1
    · rw [way_one p z hc, ends_one p hc, top_one p z hc, show n = 0 from by omega]
    · rw [way_up p z (by omega), top_up p z (by omega)]
      have hl := up_length p l
      have ih' := ih (up p l) (n / 2) (by omega) (by omega)
      rw [hl] at ih'
      by_cases hs : sib n < l.length
      · rw [if_pos hs, List.singleton_append, ends_cons p (by omega) hs]
        have e : meet p n (l.getD n z) (l.getD (sib n) z) = (up p l).getD (n / 2) z := by
          unfold meet sib at *
          by_cases hp : n % 2 = 0
          · rw [if_pos hp] at hs
            rw [if_pos hp, if_pos hp, up_pair p z l (n / 2) (by omega), show 2 * (n / 2) = n from by omega]
          · rw [if_neg hp, if_neg hp, up_pair p z l (n / 2) (by omega), show 2 * (n / 2) + 1 = n from by omega, show 2 * (n / 2) = n - 1 from by omega]
        rw [e]
        exact ih'
      · rw [if_neg hs, List.nil_append, ends_skip p (by omega) hs]
        have e : l.getD n z = (up p l).getD (n / 2) z := by
          unfold sib at hs
          by_cases hp : n % 2 = 0
          · rw [if_pos hp] at hs
            rw [up_last p z l (n / 2) (by omega), show 2 * (n / 2) = n from by omega]
          · rw [if_neg hp] at hs
            omega
        rw [e]
        exact ih'
theorem way_steps (l : List α) (n : Nat) (h : n < l.length) : (way p z l n).length = steps n l.length :=
  ends_steps p l.length l.length n _ _ _ (Nat.le_refl _) (way_ends p z l.length l n (Nat.le_refl _) h)
theorem steps_lt (N : Nat) : ∀ (count n : Nat), count ≤ N → 1 ≤ count → 2 ^ steps n count < 2 * count := by
  induction N with
  | zero => intro count n h1 h2; omega
  | succ N ih =>
    intro count n h1 h2
    by_cases hc : count ≤ 1
    · rw [steps_one hc]; omega
    · rw [steps_up (by omega)]
      have ih' := ih ((count + 1) / 2) (n / 2) (by omega) (by omega)
      generalize steps (n / 2) ((count + 1) / 2) = k at *
      have h3 : 2 ^ k < count := by
        by_cases hp : count % 2 = 0
        · omega
        · cases k with
          | zero => omega
          | succ k =>
            rw [Nat.pow_succ] at ih' ⊢
            omega
      split
      · rw [Nat.add_comm, Nat.pow_succ]; omega
      · rw [Nat.zero_add]; omega

theorem up_append : ∀ (a b : List α), a.length % 2 = 0 → up p (a ++ b) = up p a ++ up p b
  | [], b, _ => by rfl
  | [x], b, h => by simp at h
  | x :: y :: a, b, h => by
    have h' : a.length % 2 = 0 := by simp at h; omega
    have := up_append a b h'
    simp only [List.cons_append, up, this]
/-- The root of as many leaves as a power of two. -/
theorem top_halves : ∀ (k : Nat) (a b : List α), a.length = 2 ^ k → b.length = 2 ^ k → top p z (a ++ b) = p (top p z a) (top p z b)
  | 0, a, b, ha, hb => by
    match a, b, ha, hb with
    | [x], [y], _, _ =>
      rw [top_up p z (by simp), top_one p z (l := [x]) (by simp), top_one p z (l := [y]) (by simp)]
      rw [top_one p z (by simp [up])]
      rfl
  | k + 1, a, b, ha, hb => by
    rw [Nat.pow_succ] at ha hb
    have hp : 0 < 2 ^ k := Nat.pow_pos (by decide)
    rw [top_up p z (l := a ++ b) (by rw [List.length_append]; omega), top_up p z (l := a) (by omega), top_up p z (l := b) (by omega), up_append p a b (by omega)]
    exact top_halves k _ _ (by rw [up_length]; omega) (by rw [up_length]; omega)
end
end Go.Proofs.YtapdnoellleimaaDoor
