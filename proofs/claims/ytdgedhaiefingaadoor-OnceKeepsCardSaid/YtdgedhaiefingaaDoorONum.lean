/-
  The document's bytes of a number (wapentakeref01.Num).
-/
import Derived.Test.YtdgedhaiefingaaDoorWrite2
namespace Go.Proofs.YtdgedhaiefingaaDoor
open Go.RowKit

/-- 'byte(n >> 8i)' of a signed word. -/
theorem shr_byte (n : Int) (i : Nat) (hi : i < 8) : IntKind.u8.wrap (n / 256 ^ i) = ((UInt8.ofNat ((n % 18446744073709551616).toNat / 256 ^ i)).toNat : Int) := by
  rw [IntKind.wrap_u8', UInt8.toNat_ofNat']
  have e : ((2 : Nat) ^ 8) = 256 := rfl
  rw [e]
  have h0 : 0 ≤ n % 18446744073709551616 := Int.emod_nonneg _ (by decide)
  obtain ⟨N, hN⟩ : ∃ N : Nat, (N : Int) = n % 18446744073709551616 := ⟨(n % 18446744073709551616).toNat, by omega⟩
  rw [← hN, Int.toNat_natCast]
  match i, hi with
  | 0, _ => simp; omega
  | 1, _ => simp; omega
  | 2, _ => simp; omega
  | 3, _ => simp; omega
  | 4, _ => simp; omega
  | 5, _ => simp; omega
  | 6, _ => simp; omega
  | 7, _ => simp; omega

theorem set_back (m : Nat) (b : UInt8) (L : List UInt8) : ((List.replicate (m + 1) 0 ++ L).map bv).toArray.setIfInBounds m (bv b) = ((List.replicate m 0 ++ b :: L).map bv).toArray := by
  rw [List.setIfInBounds_toArray]
  congr 1
  rw [List.replicate_succ', List.append_assoc, List.map_append, List.map_append, List.set_append_right _ _ (by simp)]
  simp

set_option maxHeartbeats 800000 in
theorem refnum_any (n : Int) (_hn1 : -9223372036854775808 ≤ n) (_hn2 : n ≤ 9223372036854775807) (w : World) :
    Calls Tryd.prog 32 #[.int .i64 n] w fun e w' => e = .returned (str (numBytes n)) ∧ Below w.heap.size w w' := by
  go_enter Tryd.func32, Tryd.ntmps32
  go_wp2
  go_loopw [4] (fun i wr => ∃ k : Nat, k ≤ 8 ∧ i = .int .i64 k ∧ Hid (Box wr w.heap.size 73 ((List.replicate (8 - k) 0 ++ beBytes k (n % 18446744073709551616).toNat).map bv).toArray) ∧ Hid (Below w.heap.size w wr)) (fun i _ => 8 - (intOf i).toNat)
  case atStart =>
    exact ⟨0, by omega, rfl, Box.made _ _ _, (Below.refl _ _).alloc (Nat.le_refl _) _⟩
  case round =>
    obtain ⟨k, hk, rfl, hX, hB⟩ := hrel
    by_cases hlt : k < 8
    · have hm : 8 - k = 7 - k + 1 := by omega
      have hcell : wr.cell? ⟨w.heap.size, 7 - k, none⟩ = some (bv 0) := by
        rw [hX.out.cell, List.getElem?_toArray, List.getElem?_map, List.getElem?_append_left (by simp; omega), List.getElem?_replicate, if_pos (by omega)]
        rfl
      have hfree := hX.out.free (7 - k)
      have hb := shr_byte n k hlt
      have hp := hX.out.put (7 - k) (.int .u8 (n / 2 ^ (8 * k) % 256))
      have e2 : Value.int .u8 (n / 2 ^ (8 * k) % 256) = bv (UInt8.ofNat ((n % 18446744073709551616).toNat / 256 ^ k)) := by
        unfold bv
        rw [← hb, IntKind.wrap_u8']
        have e3 : (2 : Int) ^ (8 * k) = 256 ^ k := by rw [Int.pow_mul]; rfl
        rw [e3]
      rw [e2, hm, set_back] at hp
      have e4 : 8 - (k + 1) = 7 - k := by omega
      have HP : Hid (Box (wr.setCell ⟨w.heap.size, 7 - k, none⟩ (.int .u8 (n / 2 ^ (8 * k) % 256))) w.heap.size 73 ((List.replicate (8 - (k + 1)) 0 ++ beBytes (k + 1) (n % 18446744073709551616).toNat).map bv).toArray) := by
        show Box _ _ _ _
        rw [e2, e4, beBytes]
        exact hp
      have HB := Lib.hid (hB.out.setCell (p := ⟨w.heap.size, 7 - k, none⟩) (Nat.le_refl _) (.int .u8 (n / 2 ^ (8 * k) % 256)))
      clear hp e2 hb e4 hm hX hB
      go_wp2
      go_roundw
      case rel => exact ⟨k + 1, by omega, by go_num, HP, HB⟩
      case measure => simp [intOf]; omega
    · have hk8 : k = 8 := by omega
      have hS : Sees wr (w.heap.size + 1) (some ⟨w.heap.size, 0, none⟩) ((numBytes n).map bv) := by
        have h := Sees.of_box hX.out (Nat.lt_succ_self _)
        subst hk8
        exact h
      have hconv := convert_sees (P := Tryd.prog) 37 5 9 Tryd.underlying37 Tryd.underlying5 Tryd.underlying9 hS 8
      rw [numBytes_len] at hconv
      clear hS hX hk8
      go_wp2
      go_ret
      exact ⟨rfl, hB.out⟩

end Go.Proofs.YtdgedhaiefingaaDoor
