/-
  Package tree: Leaf.
-/
import Derived.Test.YtkpekglpknbodaaDoorTRoot
namespace Go.Proofs.YtkpekglpknbodaaDoor
open Go.RowKit

attribute [local go_sem ↓] ldDigest_def stDigest_def

set_option maxRecDepth 100000 in
set_option maxHeartbeats 1000000 in
theorem leaf_any (l : List UInt8) (A : Option Addr) (c : Nat) (w : World) (hS : Sees w w.heap.size A (l.map bv)) (hc : l.length ≤ c) (hm : c ≤ maxLen) (hl : l.length ≤ 1099511627776) (hR : Roots w) :
    Calls Tryd.prog 12 #[.slice A l.length c] w fun e w' => e = .returned (.agg ((shaOf (0 :: l)).map bv).toArray) ∧ Below w.heap.size w w' := by
  have hF0 : Below w.heap.size w (w.alloc (.cells (zerosD 32).toArray 29)) := (Below.refl _ _).alloc (Nat.le_refl _) _
  have HW0 : Hid (RtW w (w.alloc (.cells (zerosD 32).toArray 29))) := ⟨Box.made w _ _, hF0⟩
  have hS1 := (hS.below hF0).more hF0.size
  have hR1 := hR.of_below hF0
  go_enter Tryd.func12, Tryd.ntmps12
  go_upto_region 1 with fail
  change Code.wp _ _ _ _ (w.alloc (.cells (zerosD 32).toArray 29))
  generalize w.alloc (.cells (zerosD 32).toArray 29) = w1 at *
  have hB0 : Box ((w1.alloc (.cells #[bv 0] 5)).alloc (.cells #[.slice (some ⟨w1.heap.size, 0, none⟩) 1 1, .slice A l.length c] 22)) w1.heap.size 5 #[bv 0] := (Box.made w1 _ _).alloc _
  have hB1 : Box ((w1.alloc (.cells #[bv 0] 5)).alloc (.cells #[.slice (some ⟨w1.heap.size, 0, none⟩) 1 1, .slice A l.length c] 22)) (w1.heap.size + 1) 22 #[.slice (some ⟨w1.heap.size, 0, none⟩) 1 1, .slice A l.length c] := Box.made_at (by simp) _ _
  have hF2 : Below w1.heap.size w1 ((w1.alloc (.cells #[bv 0] 5)).alloc (.cells #[.slice (some ⟨w1.heap.size, 0, none⟩) 1 1, .slice A l.length c] 22)) := ((Below.refl _ _).alloc (Nat.le_refl _) _).alloc (by simp) _
  have hP := Pieces.two (p := [0]) (q := l) hB1 hB1.lt (Nat.le_refl 1) (by simp [maxLen]) (Sees.of_box hB0 hB0.lt) hc hm ((hS1.below hF2).more hF2.size)
  have hof := of_any [[0], l] (some ⟨w1.heap.size + 1, 0, none⟩) 2 _ hP (by simp) (by simp; omega) (hR1.of_below hF2)
  have hfl : ([[0], l] : List (List UInt8)).flatten = 0 :: l := by simp
  rw [hfl] at hof
  have HOF := Lib.hid hof
  have HF2 := Lib.hid hF2
  have hdl : (shaOf (0 :: l)).length = 32 := rfl
  generalize hd : shaOf (0 :: l) = d at *
  have HDE := Lib.hid hd
  clear hd hof hF2 hP hB0 hB1 hS hS1 hR hR1 hF0
  go_wp2_with (go_at_call 24; refine (HOF.out).mono ?_; rintro e w2 ⟨rfl, hb2⟩; have HW2 := Lib.hid (HW0.out.call (HF2.out.trans (hb2.mono HF2.out.size))); clear hb2; have hst := HW2.out.out.store_digest rfl d hdl)
  exact ret_dig rfl rfl rfl (HW2.out.out.cells_dig rfl hdl) hdl ⟨by rw [HDE.out], below_cells HW2.out.far (Nat.le_refl _) HW2.out.far.size _ _⟩
end Go.Proofs.YtkpekglpknbodaaDoor
