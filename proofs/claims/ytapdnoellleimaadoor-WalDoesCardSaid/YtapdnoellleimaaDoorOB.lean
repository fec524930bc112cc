/-
  A digest's bit: once.bit, and the document's (wapentakeref04.Bit).
  A signature in memory: its two lists of digests, while they are filled and then.
  The document's bytes of a number (wapentakeref01.Num).
-/
import Derived.Test.YtapdnoellleimaaDoorTG
import Derived.Test.YtapdnoellleimaaDoorOX
import Derived.Test.YtapdnoellleimaaDoorWr
namespace Go.Proofs.YtapdnoellleimaaDoor
open Go.RowKit

theorem d_cell {d : List UInt8} (hd : d.length = 32) {i : Nat} (hi : i < 32) {w : World} {g : Nat} {t : TypeId} (h : Box w g t (d.map bv).toArray) : w.cell? ⟨g, i / 8, none⟩ = some (.int .u8 ((d.getD (i / 8) 0).toNat : Int)) := by
  have hj : i / 8 < d.length := by omega
  rw [h.cell, List.getElem?_toArray, List.getElem?_map, List.getElem?_eq_getElem hj, List.getD_eq_getElem?_getD, List.getElem?_eq_getElem hj]
  rfl
theorem and_one (n : Nat) (hn : n < 256) : bits .and .i64 (n : Int) 1 = ((n % 2 : Nat) : Int) := by
  revert n
  decide +kernel
theorem bit_of_byte (b k : Nat) (hb : b < 256) : bits .and .i64 (wrap64 ((b : Int) / 2 ^ k)) 1 = ((b / 2 ^ k % 2 : Nat) : Int) := by
  have h0 : b / 2 ^ k < 256 := Nat.lt_of_le_of_lt (Nat.div_le_self _ _) hb
  have e : ((b : Int) / 2 ^ k) = ((b / 2 ^ k : Nat) : Int) := by
    rw [Int.natCast_ediv, Int.natCast_pow]
    rfl
  rw [e]
  have e2 : wrap64 ((b / 2 ^ k : Nat) : Int) = ((b / 2 ^ k : Nat) : Int) := by
    generalize b / 2 ^ k = m at *
    unfold wrap64
    omega
  rw [e2]
  exact and_one _ h0

end Go.Proofs.YtapdnoellleimaaDoor

namespace Go.Proofs.YtapdnoellleimaaDoor
open Go.RowKit

/-- The first k digests of X, and zeros. -/
def fillD (X : List (List UInt8)) (k : Nat) : Array Value := ((X.take k).flatten.map bv ++ zerosD ((X.length - k) * 32)).toArray
theorem fillD_size {k : Nat} {X : List (List UInt8)} (h : AllD X) (hk : k ≤ X.length) : (fillD X k).size = X.length * 32 := by
  have := (h.take k).flat
  rw [List.length_take] at this
  unfold fillD zerosD
  rw [List.size_toArray, List.length_append, List.length_map, List.length_replicate, this]
  omega
theorem fillD_zero (X : List (List UInt8)) : fillD X 0 = (zerosD (X.length * 32)).toArray := by
  unfold fillD
  simp
theorem fillD_all (X : List (List UInt8)) : fillD X X.length = (X.flatten.map bv).toArray := by
  unfold fillD zerosD
  simp
theorem Box.fill_put {w : World} {g : Nat} {t : TypeId} {X : List (List UInt8)} {k : Nat} (h : Box w g t (fillD X k)) (ha : AllD X) (hk : k < X.length) : Box (w.setCells g (k * 32) ((X.getD k []).map bv)) g t (fillD X (k + 1)) := by
  have hf := (ha.take k).flat
  rw [List.length_take] at hf
  unfold fillD at h ⊢
  have e : zerosD ((X.length - k) * 32) = zerosD 32 ++ zerosD ((X.length - (k + 1)) * 32) := by
    unfold zerosD
    rw [List.replicate_append_replicate]
    congr 1
    omega
  rw [e] at h
  have hp := h.put_mid (o := k * 32) (vs := (X.getD k []).map bv) (by rw [List.length_map, hf]; omega) (by rw [List.length_map, ha.get hk []]; unfold zerosD; rw [List.length_replicate])
  have e2 : (X.take k).flatten.map bv ++ ((X.getD k []).map bv ++ zerosD ((X.length - (k + 1)) * 32)) = (X.take (k + 1)).flatten.map bv ++ zerosD ((X.length - (k + 1)) * 32) := by
    rw [List.take_succ_eq_append_getElem hk, List.flatten_append, List.map_append, List.append_assoc, List.getD_eq_getElem?_getD, List.getElem?_eq_getElem hk]
    simp
  rw [e2] at hp
  exact hp
theorem sign_lens (seed : List UInt8) (leaf : Int) (d : List UInt8) : (openT seed leaf d).length = 32 ∧ (shutT seed leaf d).length = 32 := by
  unfold openT shutT
  constructor <;> simp
theorem open_all (seed : List UInt8) (leaf : Int) (d : List UInt8) : AllD (openT seed leaf d) := by
  intro x hx
  obtain ⟨i, _, rfl⟩ := List.mem_map.1 hx
  rfl
theorem shut_all (seed : List UInt8) (leaf : Int) (d : List UInt8) : AllD (shutT seed leaf d) := by
  intro x hx
  obtain ⟨i, _, rfl⟩ := List.mem_map.1 hx
  rfl
theorem open_at (seed : List UInt8) (leaf : Int) (d : List UInt8) {i : Nat} (h : i < 32) : (openT seed leaf d).getD i [] = secT seed leaf (2 * i + bitT d i) := by
  unfold openT
  rw [List.getD_eq_getElem?_getD, List.getElem?_map, List.getElem?_range h]
  rfl
theorem shut_at (seed : List UInt8) (leaf : Int) (d : List UInt8) {i : Nat} (h : i < 32) : (shutT seed leaf d).getD i [] = shaOf (secT seed leaf (2 * i + (1 - bitT d i))) := by
  unfold shutT
  rw [List.getD_eq_getElem?_getD, List.getElem?_map, List.getElem?_range h]
  rfl

/-- A signature's value: two slices. -/
abbrev onceV (g h : Nat) (c c' : Nat) : Array Value := #[.slice (some ⟨g, 0, none⟩) 32 c, .slice (some ⟨h, 0, none⟩) 32 c']

/-- What Sign answers: two lists of digests, in new memory, not the same. -/
def SignIs (w : World) (X Y : List (List UInt8)) (e : Ending) (w' : World) : Prop :=
  ∃ g h, e = .returned (.agg (onceV g h 32 32)) ∧ Box w' g 89 (X.flatten.map bv).toArray ∧ Box w' h 89 (Y.flatten.map bv).toArray ∧ w.heap.size ≤ g ∧ w.heap.size ≤ h ∧ g ≠ h ∧ Below w.heap.size w w'
theorem once_one (g h c c' : Nat) : ∀ v ∈ (onceV g h c c').toList, v.oneCell' = true := by
  intro v hv
  simp at hv
  rcases hv with rfl | rfl <;> rfl
end Go.Proofs.YtapdnoellleimaaDoor

namespace Go.Proofs.YtapdnoellleimaaDoor
open Go.RowKit

/-- 'byte(n >> 8i)' of a signed word. -/
theorem shr_byte (n : Int) (i : Nat) (hi : i < 8) : IntKind.u8.wrap (n / 256 ^ i) = ((UInt8.ofNat ((n % 18446744073709551616).toNat / 256 ^ i)).toNat : Int) := by
  rw [IntKind.wrap_u8', UInt8.toNat_ofNat']
  have e : ((2 : Nat) ^ 8) = 256 := rfl
  rw [e]
  have h0 : 0 ≤ n % 18446744073709551616 := Int.emod_nonneg _ (by decide)
  obtain ⟨N, hN⟩ : ∃ N : Nat, (N : Int) = n % 18446744073709551616 := ⟨(n % 18446744073709551616).toNat, by omega⟩
  rw [← hN, Int.toNat_natCast]
  match i, hi with
  | 0, _ => simp; omega
  | 1, _ => simp; omega
  | 2, _ => simp; omega
  | 3, _ => simp; omega
  | 4, _ => simp; omega
  | 5, _ => simp; omega
  | 6, _ => simp; omega
  | 7, _ => simp; omega

theorem set_back (m : Nat) (b : UInt8) (L : List UInt8) : ((List.replicate (m + 1) 0 ++ L).map bv).toArray.setIfInBounds m (bv b) = ((List.replicate m 0 ++ b :: L).map bv).toArray := by
  rw [List.setIfInBounds_toArray]
  congr 1
  rw [List.replicate_succ', List.append_assoc, List.map_append, List.map_append, List.set_append_right _ _ (by simp)]
  simp

set_option maxRecDepth 100000 in
set_option maxHeartbeats 800000 in
theorem refnum_any (n : Int) (_hn1 : -9223372036854775808 ≤ n) (_hn2 : n ≤ 9223372036854775807) (w : World) :
    Calls Tryd.prog 60 #[.int .i64 n] w fun e w' => e = .returned (str (numBytes n)) ∧ Below w.heap.size w w' := by
  go_enter Tryd.func60, Tryd.ntmps60
  go_wp2
  go_loopw [4] (fun i wr => ∃ k : Nat, k ≤ 8 ∧ i = .int .i64 k ∧ Hid (Box wr w.heap.size 110 ((List.replicate (8 - k) 0 ++ beBytes k (n % 18446744073709551616).toNat).map bv).toArray) ∧ Hid (Below w.heap.size w wr)) (fun i _ => 8 - (intOf i).toNat)
  case atStart =>
    exact ⟨0, by omega, rfl, Box.made _ _ _, (Below.refl _ _).alloc (Nat.le_refl _) _⟩
  case round =>
    obtain ⟨k, hk, rfl, hX, hB⟩ := hrel
    by_cases hlt : k < 8
    · have hm : 8 - k = 7 - k + 1 := by omega
      have hcell : wr.cell? ⟨w.heap.size, 7 - k, none⟩ = some (bv 0) := by
        rw [hX.out.cell, List.getElem?_toArray, List.getElem?_map, List.getElem?_append_left (by simp; omega), List.getElem?_replicate, if_pos (by omega)]
        rfl
      have hfree := hX.out.free (7 - k)
      have hb := shr_byte n k hlt
      have hp := hX.out.put (7 - k) (.int .u8 (n / 2 ^ (8 * k) % 256))
      have e2 : Value.int .u8 (n / 2 ^ (8 * k) % 256) = bv (UInt8.ofNat ((n % 18446744073709551616).toNat / 256 ^ k)) := by
        unfold bv
        rw [← hb, IntKind.wrap_u8']
        have e3 : (2 : Int) ^ (8 * k) = 256 ^ k := by rw [Int.pow_mul]; rfl
        rw [e3]
      rw [e2, hm, set_back] at hp
      have e4 : 8 - (k + 1) = 7 - k := by omega
      have HP : Hid (Box (wr.setCell ⟨w.heap.size, 7 - k, none⟩ (.int .u8 (n / 2 ^ (8 * k) % 256))) w.heap.size 110 ((List.replicate (8 - (k + 1)) 0 ++ beBytes (k + 1) (n % 18446744073709551616).toNat).map bv).toArray) := by
        show Box _ _ _ _
        rw [e2, e4, beBytes]
        exact hp
      have HB := Lib.hid (hB.out.setCell (p := ⟨w.heap.size, 7 - k, none⟩) (Nat.le_refl _) (.int .u8 (n / 2 ^ (8 * k) % 256)))
      clear hp e2 hb e4 hm hX hB
      go_wp2
      go_roundw
      case rel => exact ⟨k + 1, by omega, by go_num, HP, HB⟩
      case measure => simp [intOf]; omega
    · have hk8 : k = 8 := by omega
      have hS : Sees wr (w.heap.size + 1) (some ⟨w.heap.size, 0, none⟩) ((numBytes n).map bv) := by
        have h := Sees.of_box hX.out (Nat.lt_succ_self _)
        subst hk8
        exact h
      have hconv := convert_sees (P := Tryd.prog) 22 5 9 Tryd.underlying22 Tryd.underlying5 Tryd.underlying9 hS 8
      rw [numBytes_len] at hconv
      clear hS hX hk8
      go_wp2
      go_ret
      exact ⟨rfl, hB.out⟩

end Go.Proofs.YtapdnoellleimaaDoor
