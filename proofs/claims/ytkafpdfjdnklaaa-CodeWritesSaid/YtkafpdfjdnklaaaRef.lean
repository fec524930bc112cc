/-
  The document's answers for what is written (wapentakeref01: Num, Text, Digest).
-/
import Derived.Test.YtkafpdfjdnklaaaGreat
namespace Go.Proofs.Ytkafpdfjdnklaaa
open Go.RowKit

/-- 'byte(n >> 8i)' of a signed word. -/
theorem shr_byte (n : Int) (i : Nat) (hi : i < 8) : IntKind.u8.wrap (n / 256 ^ i) = ((UInt8.ofNat ((n % 18446744073709551616).toNat / 256 ^ i)).toNat : Int) := by
  rw [IntKind.wrap_u8', UInt8.toNat_ofNat']
  have e : ((2 : Nat) ^ 8) = 256 := rfl
  rw [e]
  have h0 : 0 ≤ n % 18446744073709551616 := Int.emod_nonneg _ (by decide)
  obtain ⟨N, hN⟩ : ∃ N : Nat, (N : Int) = n % 18446744073709551616 := ⟨(n % 18446744073709551616).toNat, by omega⟩
  rw [← hN, Int.toNat_natCast]
  match i, hi with
  | 0, _ => simp; omega
  | 1, _ => simp; omega
  | 2, _ => simp; omega
  | 3, _ => simp; omega
  | 4, _ => simp; omega
  | 5, _ => simp; omega
  | 6, _ => simp; omega
  | 7, _ => simp; omega

theorem set_back (m : Nat) (b : UInt8) (L : List UInt8) : ((List.replicate (m + 1) 0 ++ L).map bv).toArray.setIfInBounds m (bv b) = ((List.replicate m 0 ++ b :: L).map bv).toArray := by
  rw [List.setIfInBounds_toArray]
  congr 1
  rw [List.replicate_succ', List.append_assoc, List.map_append, List.map_append, List.set_append_right _ _ (by simp)]
  simp

set_option maxHeartbeats 800000 in
theorem refnum_any (n : Int) (hn : I64 n) (w : World) :
    Calls Try.prog 13 #[.int .i64 n] w fun e w' => e = .returned (str (numBytes n)) ∧ Below w.heap.size w w' := by
  obtain ⟨hn1, hn2⟩ := hn
  go_enter Try.func13, Try.ntmps13
  go_wp2
  go_loopw [4] (fun i wr => ∃ k : Nat, k ≤ 8 ∧ i = .int .i64 k ∧ Hid (Box wr w.heap.size 54 ((List.replicate (8 - k) 0 ++ beBytes k (n % 18446744073709551616).toNat).map bv).toArray) ∧ Hid (Below w.heap.size w wr)) (fun i _ => 8 - (intOf i).toNat)
  case atStart =>
    exact ⟨0, by omega, rfl, Box.made _ _ _, (Below.refl _ _).alloc (Nat.le_refl _) _⟩
  case round =>
    obtain ⟨k, hk, rfl, hX, hB⟩ := hrel
    by_cases hlt : k < 8
    · have hm : 8 - k = 7 - k + 1 := by omega
      have hcell : wr.cell? ⟨w.heap.size, 7 - k, none⟩ = some (bv 0) := by
        rw [hX.out.cell, List.getElem?_toArray, List.getElem?_map, List.getElem?_append_left (by simp; omega), List.getElem?_replicate, if_pos (by omega)]
        rfl
      have hfree := hX.out.free (7 - k)
      have hb := shr_byte n k hlt
      have hp := hX.out.put (7 - k) (.int .u8 (n / 2 ^ (8 * k) % 256))
      have e2 : Value.int .u8 (n / 2 ^ (8 * k) % 256) = bv (UInt8.ofNat ((n % 18446744073709551616).toNat / 256 ^ k)) := by
        unfold bv
        rw [← hb, IntKind.wrap_u8']
        have e3 : (2 : Int) ^ (8 * k) = 256 ^ k := by rw [Int.pow_mul]; rfl
        rw [e3]
      rw [e2, hm, set_back] at hp
      have e4 : 8 - (k + 1) = 7 - k := by omega
      have HP : Hid (Box (wr.setCell ⟨w.heap.size, 7 - k, none⟩ (.int .u8 (n / 2 ^ (8 * k) % 256))) w.heap.size 54 ((List.replicate (8 - (k + 1)) 0 ++ beBytes (k + 1) (n % 18446744073709551616).toNat).map bv).toArray) := by
        show Box _ _ _ _
        rw [e2, e4, beBytes]
        exact hp
      have HB := Lib.hid (hB.out.setCell (p := ⟨w.heap.size, 7 - k, none⟩) (Nat.le_refl _) (.int .u8 (n / 2 ^ (8 * k) % 256)))
      clear hp e2 hb e4 hm hX hB
      go_wp2
      go_roundw
      case rel => exact ⟨k + 1, by omega, by go_num, HP, HB⟩
      case measure => simp [intOf]; omega
    · have hk8 : k = 8 := by omega
      have hS : Sees wr (w.heap.size + 1) (some ⟨w.heap.size, 0, none⟩) ((numBytes n).map bv) := by
        have h := Sees.of_box hX.out (Nat.lt_succ_self _)
        subst hk8
        exact h
      have hconv := convert_sees (P := Try.prog) 27 5 9 Try.underlying27 Try.underlying5 Try.underlying9 hS 8
      rw [numBytes_len] at hconv
      clear hS hX hk8
      go_wp2
      go_ret
      exact ⟨rfl, hB.out⟩


theorem num_tail (s : ByteArray) (hs : s.size ≤ 140737488351232) : (numBytes (s.size : Int)).drop 4 = beBytes 4 s.size := by
  unfold numBytes
  have e : ((s.size : Int) % 18446744073709551616).toNat = s.size := by omega
  rw [e]
  rfl
theorem text_join (s : ByteArray) (hs : s.size ≤ 140737488351232) : (ByteArray.mk (numBytes (s.size : Int)).toArray).extract 4 8 ++ s = ByteArray.mk (textBytes s).toArray := by
  rw [ByteArray.extract_mk, num_tail s hs, List.take_of_length_le (by rw [beBytes_length]; decide)]
  obtain ⟨⟨l⟩⟩ := s
  rw [ByteArray.mk_append_mk]
  rfl

set_option maxHeartbeats 800000 in
theorem reftext_any (s : ByteArray) (hs : s.size ≤ 140737488351232) (w : World) :
    Calls Try.prog 15 #[.string s] w fun e w' => e = .returned (str (textBytes s)) ∧ Below w.heap.size w w' := by
  have HN := Lib.hid (refnum_any (s.size : Int) ⟨by omega, by omega⟩ w)
  have hj := Lib.hid (text_join s hs)
  have hl := numBytes_len (s.size : Int)
  generalize numBytes (s.size : Int) = nb at *
  have HL := Lib.hid hl
  have hsz : (ByteArray.mk nb.toArray).size = 8 := by show nb.toArray.size = 8; rw [List.size_toArray, hl]
  clear hl
  go_enter Try.func15, Try.ntmps15
  go_wp2_with (go_at_call 13; refine (HN.out).mono ?_; rintro e w1 ⟨rfl, hB⟩; have HB := Lib.hid hB; clear hB)
  go_ret
  exact ⟨ret_val (by show Value.string _ = _; rw [hj.out]), HB.out⟩

set_option maxHeartbeats 800000 in
theorem refdigest_any (d : List UInt8) (hd : d.length = 32) (w : World) :
    Calls Try.prog 32 #[.agg (d.map bv).toArray] w fun e w' => e = .returned (str d) ∧ Below w.heap.size w w' := by
  have hX := Box.made w 39 (d.map bv).toArray
  have hS := Sees.of_box hX (Nat.lt_succ_self _)
  have hconv := convert_sees (P := Try.prog) 27 5 9 Try.underlying27 Try.underlying5 Try.underlying9 hS 32
  rw [hd] at hconv
  clear hX hS
  have HB := Lib.hid ((Below.refl w.heap.size w).alloc (Nat.le_refl _) (.cells (d.map bv).toArray 39))
  go_enter Try.func32, Try.ntmps32
  go_wp2
  go_ret
  exact ⟨rfl, HB.out⟩

end Go.Proofs.Ytkafpdfjdnklaaa
