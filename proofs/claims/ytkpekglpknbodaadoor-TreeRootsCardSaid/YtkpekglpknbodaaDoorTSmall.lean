/-
  Package tree: placed, beside, half, joined.
-/
import Derived.Test.YtkpekglpknbodaaDoorTKit
import Derived.Test.YtkpekglpknbodaaDoorSPair
namespace Go.Proofs.YtkpekglpknbodaaDoor
open Go.RowKit

attribute [local go_sem ↓] ldDigest_def stDigest_def

theorem placed_any (x y : Int) (w : World) : Calls Tryd.prog 20 #[.int .i64 x, .int .i64 y] w fun e w' => e = .returned (.bool (decide (0 ≤ x) && decide (x < y))) ∧ w' = w := by
  by_cases h : 0 ≤ x
  · have h' : decide (0 ≤ x) = true := by simpa using h
    go_enter Tryd.func20, Tryd.ntmps20
    go_wp2
    go_ret
    exact ⟨by simp [h], rfl⟩
  · have h' : decide (0 ≤ x) = false := by simpa using h
    go_enter Tryd.func20, Tryd.ntmps20
    go_wp2
    go_ret
    exact ⟨by simp, rfl⟩

theorem beside_any (n : Nat) (hn : n < 9223372036854775808) (w : World) : Calls Tryd.prog 22 #[.int .i64 (n : Int)] w fun e w' => e = .returned (.int .i64 ((sib n : Nat) : Int)) ∧ w' = w := by
  have hx := xor_one n hn
  go_enter Tryd.func22, Tryd.ntmps22
  go_wp2
  go_ret
  exact ⟨rfl, rfl⟩

theorem half_any (n : Nat) (hn : n < 9223372036854775808) (w : World) : Calls Tryd.prog 27 #[.int .i64 (n : Int)] w fun e w' => e = .returned (.int .i64 (((n + 1) / 2 : Nat) : Int)) ∧ w' = w := by
  go_enter Tryd.func27, Tryd.ntmps27
  go_wp2
  go_ret
  exact ⟨ret_val (congrArg (Value.int .i64) (by omega)), rfl⟩

theorem dig_size (d : List UInt8) (hd : d.length = 32) : (Tryd.prog.info? 29).map (·.size) = some (d.map bv).toArray.size := by
  rw [List.size_toArray, List.length_map, hd]
  kernel_rfl
theorem below_cells {w0 w : World} {B g : Nat} (h : Below B w0 w) (hg : B ≤ g) (hB : B ≤ w.heap.size) (o : Nat) (vs : List Value) : Below B w0 (w.setCells g o vs) := h.trans (below_only (only_cells vs o w) hg hB)

set_option maxRecDepth 100000 in
set_option maxHeartbeats 1000000 in
theorem tjoined_any (n : Nat) (a b : List UInt8) (ha : a.length = 32) (hb : b.length = 32) (w : World) (hR : Roots w) :
    Calls Tryd.prog 26 #[.int .i64 (n : Int), .agg (a.map bv).toArray, .agg (b.map bv).toArray] w fun e w' => e = .returned (.agg ((meet pT n a b).map bv).toArray) ∧ Below w.heap.size w w' := by
  have hF0 : Below w.heap.size w (((w.alloc (.cells (a.map bv).toArray 29)).alloc (.cells (b.map bv).toArray 29)).alloc (.cells (List.replicate 32 (Value.int .u8 0)).toArray 29)) := (((Below.refl _ _).alloc (Nat.le_refl _) _).alloc (by simp) _).alloc (by simp; omega) _
  have hA : Box (((w.alloc (.cells (a.map bv).toArray 29)).alloc (.cells (b.map bv).toArray 29)).alloc (.cells (List.replicate 32 (Value.int .u8 0)).toArray 29)) w.heap.size 29 (a.map bv).toArray := ((Box.made w _ _).alloc _).alloc _
  have hB : Box (((w.alloc (.cells (a.map bv).toArray 29)).alloc (.cells (b.map bv).toArray 29)).alloc (.cells (List.replicate 32 (Value.int .u8 0)).toArray 29)) (w.heap.size + 1) 29 (b.map bv).toArray := (Box.made_at (by simp) _ _).alloc _
  have hO : Box (((w.alloc (.cells (a.map bv).toArray 29)).alloc (.cells (b.map bv).toArray 29)).alloc (.cells (List.replicate 32 (Value.int .u8 0)).toArray 29)) (w.heap.size + 1 + 1) 29 (List.replicate 32 (Value.int .u8 0)).toArray := Box.made_at (by simp) _ _
  have HP := Lib.hid (pair_any 1 a b ha hb _ (hR.of_below hF0))
  have HP2 := Lib.hid (pair_any 1 b a hb ha _ (hR.of_below hF0))
  have lA := hA.load_digest ha
  have lB := hB.load_digest hb
  have HF := Lib.hid hF0
  have HO := Lib.hid hO
  clear hA hB hF0 hO
  go_enter Tryd.func26, Tryd.ntmps26
  go_upto_region 1 with fail
  change Code.wp _ _ _ _ (((w.alloc (.cells (a.map bv).toArray 29)).alloc (.cells (b.map bv).toArray 29)).alloc (.cells (List.replicate 32 (Value.int .u8 0)).toArray 29))
  generalize (((w.alloc (.cells (a.map bv).toArray 29)).alloc (.cells (b.map bv).toArray 29)).alloc (.cells (List.replicate 32 (Value.int .u8 0)).toArray 29)) = w1 at *
  by_cases h : n % 2 = 0
  · have h' : decide ((n : Int) % 2 = 0) = true := by simp; omega
    go_wp2_with (go_at_call 33; refine (HP.out).mono ?_; rintro e w2 ⟨rfl, hb1⟩; have HO1 := Lib.hid (HO.out.below hb1 HO.out.lt); have HF1 := Lib.hid (HF.out.trans (hb1.mono HF.out.size)); have sO := HO1.out.store_digest rfl (shaOf (1 :: (a ++ b))) rfl; clear hb1)
    refine bodyPost_ret (v := .agg ((shaOf (1 :: (a ++ b))).map bv).toArray) (results_cell_row rfl _ _ (w.heap.size + 1 + 1) 29 ((shaOf (1 :: (a ++ b))).map bv).toArray (0, 0) _ rfl (HO1.out.cells_all _ rfl) Tryd.underlying29 rfl (dig_size _ rfl)) rfl ⟨?_, below_cells HF1.out (by omega) HF1.out.size _ _⟩
    unfold meet
    rw [if_pos h]
    rfl
  · have h' : decide ((n : Int) % 2 = 0) = false := by simp; omega
    go_wp2_with (go_at_call 33; refine (HP2.out).mono ?_; rintro e w2 ⟨rfl, hb1⟩; have HO1 := Lib.hid (HO.out.below hb1 HO.out.lt); have HF1 := Lib.hid (HF.out.trans (hb1.mono HF.out.size)); have sO := HO1.out.store_digest rfl (shaOf (1 :: (b ++ a))) rfl; clear hb1)
    refine bodyPost_ret (v := .agg ((shaOf (1 :: (b ++ a))).map bv).toArray) (results_cell_row rfl _ _ (w.heap.size + 1 + 1) 29 ((shaOf (1 :: (b ++ a))).map bv).toArray (0, 0) _ rfl (HO1.out.cells_all _ rfl) Tryd.underlying29 rfl (dig_size _ rfl)) rfl ⟨?_, below_cells HF1.out (by omega) HF1.out.size _ _⟩
    unfold meet
    rw [if_neg h]
    rfl
end Go.Proofs.YtkpekglpknbodaaDoor
