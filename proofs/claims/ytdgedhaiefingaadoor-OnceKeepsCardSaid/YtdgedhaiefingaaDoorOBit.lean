/-
  A digest's bit: once.bit, and the document's (wapentakeref04.Bit).
-/
import Derived.Test.YtdgedhaiefingaaDoorTGen
import Derived.Test.YtdgedhaiefingaaDoorOPlain
namespace Go.Proofs.YtdgedhaiefingaaDoor
open Go.RowKit

theorem d_cell {d : List UInt8} (hd : d.length = 32) {i : Nat} (hi : i < 32) {w : World} {g : Nat} {t : TypeId} (h : Box w g t (d.map bv).toArray) : w.cell? ⟨g, i / 8, none⟩ = some (.int .u8 ((d.getD (i / 8) 0).toNat : Int)) := by
  have hj : i / 8 < d.length := by omega
  rw [h.cell, List.getElem?_toArray, List.getElem?_map, List.getElem?_eq_getElem hj, List.getD_eq_getElem?_getD, List.getElem?_eq_getElem hj]
  rfl
theorem and_one (n : Nat) (hn : n < 256) : bits .and .i64 (n : Int) 1 = ((n % 2 : Nat) : Int) := by
  revert n
  decide +kernel
theorem bit_of_byte (b k : Nat) (hb : b < 256) : bits .and .i64 (wrap64 ((b : Int) / 2 ^ k)) 1 = ((b / 2 ^ k % 2 : Nat) : Int) := by
  have h0 : b / 2 ^ k < 256 := Nat.lt_of_le_of_lt (Nat.div_le_self _ _) hb
  have e : ((b : Int) / 2 ^ k) = ((b / 2 ^ k : Nat) : Int) := by
    rw [Int.natCast_ediv, Int.natCast_pow]
    rfl
  rw [e]
  have e2 : wrap64 ((b / 2 ^ k : Nat) : Int) = ((b / 2 ^ k : Nat) : Int) := by
    generalize b / 2 ^ k = m at *
    unfold wrap64
    omega
  rw [e2]
  exact and_one _ h0

set_option maxRecDepth 100000 in
set_option maxHeartbeats 800000 in
theorem bit_any (d : List UInt8) (hd : d.length = 32) (i : Nat) (hi : i < 32) (w : World) :
    Calls Tryd.prog 25 #[.agg (d.map bv).toArray, .int .i64 (i : Int)] w fun e w' => e = .returned (.int .i64 (bitT d i : Int)) ∧ Below w.heap.size w w' := by
  have hB : Box (w.alloc (.cells (d.map bv).toArray 23)) w.heap.size 23 (d.map bv).toArray := Box.made w _ _
  have hc := d_cell hd hi hB
  have HF : Hid (Below w.heap.size w (w.alloc (.cells (d.map bv).toArray 23))) := (Below.refl _ _).alloc (Nat.le_refl _) _
  clear hB
  have HE : Hid (bits .and .i64 (wrap64 (((d.getD (i / 8) 0).toNat : Int) / 2 ^ (7 - i % 8))) 1 = (bitT d i : Int)) := bit_of_byte _ _ (UInt8.toNat_lt _)
  generalize d.getD (i / 8) 0 = b at *
  go_enter Tryd.func25, Tryd.ntmps25
  go_upto_region 1 with fail
  change Code.wp _ _ _ _ (w.alloc (.cells (d.map bv).toArray 23))
  generalize w.alloc (.cells (d.map bv).toArray 23) = w1 at *
  go_wp2
  go_ret
  exact ⟨ret_val (congrArg (Value.int .i64) HE.out), HF.out⟩

set_option maxRecDepth 100000 in
set_option maxHeartbeats 800000 in
theorem rbit_any (d : List UInt8) (hd : d.length = 32) (i : Nat) (hi : i < 32) (w : World) :
    Calls Tryd.prog 26 #[.agg (d.map bv).toArray, .int .i64 (i : Int)] w fun e w' => e = .returned (.int .i64 (bitT d i : Int)) ∧ Below w.heap.size w w' := by
  have hB : Box (w.alloc (.cells (d.map bv).toArray 23)) w.heap.size 23 (d.map bv).toArray := Box.made w _ _
  have hc := d_cell hd hi hB
  have HF : Hid (Below w.heap.size w (w.alloc (.cells (d.map bv).toArray 23))) := (Below.refl _ _).alloc (Nat.le_refl _) _
  clear hB
  have HE : Hid (bitT d i = (d.getD (i / 8) 0).toNat / 2 ^ (7 - i % 8) % 2) := rfl
  generalize bitT d i = z at *
  generalize d.getD (i / 8) 0 = b at *
  have hb0 : b.toNat < 256 := UInt8.toNat_lt _
  generalize b.toNat = n at *
  go_enter Tryd.func26, Tryd.ntmps26
  go_upto_region 1 with fail
  change Code.wp _ _ _ _ (w.alloc (.cells (d.map bv).toArray 23))
  generalize w.alloc (.cells (d.map bv).toArray 23) = w1 at *
  go_upto_region 3 with fail
  go_loop [5, 6] (fun m k => ∃ j y : Nat, j ≤ 7 - i % 8 ∧ Hid (y = n / 2 ^ j) ∧ y < 256 ∧ m = .int .i64 (y : Int) ∧ k = .int .i64 ((i % 8 + j : Nat) : Int)) (fun _ k => 7 - (intOf k).toNat)
  case atStart => exact ⟨0, n, Nat.zero_le _, by exact Lib.hid (by simp), hb0, rfl, rfl⟩
  case round =>
    obtain ⟨j, y, hj, HY, hy, rfl, rfl⟩ := hrel
    by_cases hlt : i % 8 + j < 7
    · have HY2 : Hid (y / 2 = n / 2 ^ (j + 1)) := by
        show _ = _
        rw [HY.out, Nat.div_div_eq_div_mul, Nat.pow_succ]
      go_wp2
      go_round
      case rel => exact ⟨j + 1, y / 2, by omega, HY2, by omega, by congr 1, by congr 1⟩
      case measure => simp [intOf]; omega
    · have HZ : Hid ((y : Int) % 2 = (z : Int)) := by
        show _ = _
        have hj7 : j = 7 - i % 8 := by omega
        rw [HE.out, HY.out, hj7]
        omega
      go_wp2
      go_ret
      exact ⟨ret_val (congrArg (Value.int .i64) HZ.out), HF.out⟩
end Go.Proofs.YtdgedhaiefingaaDoor
