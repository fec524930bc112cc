/-
  Package sha: the digest of two digests (sha.Pair).
-/
import Derived.Test.YtkpekglpknbodaaDoorSPieces
import Derived.Test.YtkpekglpknbodaaDoorSKit2
namespace Go.Proofs.YtkpekglpknbodaaDoor
open Go.RowKit

attribute [local go_sem ↓] stDigest_def

set_option maxRecDepth 100000 in
set_option maxHeartbeats 1000000 in
theorem pair_any (m : UInt8) (a b : List UInt8) (ha : a.length = 32) (hb : b.length = 32) (w : World) (hR : Roots w) :
    Calls Tryd.prog 33 #[.int .u8 (m.toNat : Int), .agg (a.map bv).toArray, .agg (b.map bv).toArray] w fun e w' => e = .returned (.agg ((shaOf (m :: (a ++ b))).map bv).toArray) ∧ Below w.heap.size w w' := by
  go_enter Tryd.func33, Tryd.ntmps33
  go_upto_region 1 with fail
  change Code.wp _ _ _ _ (((w.alloc (.cells (a.map bv).toArray 29)).alloc (.cells (b.map bv).toArray 29)).alloc (.cells (List.replicate 32 (Value.int .u8 0)).toArray 29))
  have HA : Hid (Box (((w.alloc (.cells (a.map bv).toArray 29)).alloc (.cells (b.map bv).toArray 29)).alloc (.cells (List.replicate 32 (Value.int .u8 0)).toArray 29)) w.heap.size 29 (a.map bv).toArray) := ((Box.made w _ _).alloc _).alloc _
  have HB : Hid (Box (((w.alloc (.cells (a.map bv).toArray 29)).alloc (.cells (b.map bv).toArray 29)).alloc (.cells (List.replicate 32 (Value.int .u8 0)).toArray 29)) (w.heap.size + 1) 29 (b.map bv).toArray) := (Box.made_at (by simp) _ _).alloc _
  have HO : Hid (Box (((w.alloc (.cells (a.map bv).toArray 29)).alloc (.cells (b.map bv).toArray 29)).alloc (.cells (List.replicate 32 (Value.int .u8 0)).toArray 29)) (w.heap.size + 1 + 1) 29 (List.replicate 32 (Value.int .u8 0)).toArray) := Box.made_at (by simp) _ _
  have HF : Hid (Below w.heap.size w (((w.alloc (.cells (a.map bv).toArray 29)).alloc (.cells (b.map bv).toArray 29)).alloc (.cells (List.replicate 32 (Value.int .u8 0)).toArray 29))) := (((Below.refl _ _).alloc (Nat.le_refl _) _).alloc (by simp) _).alloc (by simp; omega) _
  generalize (((w.alloc (.cells (a.map bv).toArray 29)).alloc (.cells (b.map bv).toArray 29)).alloc (.cells (List.replicate 32 (Value.int .u8 0)).toArray 29)) = w1 at *
  have hFW : Below w1.heap.size w1 ((w1.alloc (.cells #[bv m] 5)).alloc (.cells #[.slice (some ⟨w1.heap.size, 0, none⟩) 1 1, .slice (some ⟨w.heap.size, 0, none⟩) 32 32, .slice (some ⟨w.heap.size + 1, 0, none⟩) 32 32] 22)).drew := (((Below.refl _ _).alloc (Nat.le_refl _) _).alloc (by simp) _).drew
  have hBM : Box ((w1.alloc (.cells #[bv m] 5)).alloc (.cells #[.slice (some ⟨w1.heap.size, 0, none⟩) 1 1, .slice (some ⟨w.heap.size, 0, none⟩) 32 32, .slice (some ⟨w.heap.size + 1, 0, none⟩) 32 32] 22)).drew w1.heap.size 5 #[bv m] := ((Box.made w1 _ _).alloc _).drew
  have hBV : Box ((w1.alloc (.cells #[bv m] 5)).alloc (.cells #[.slice (some ⟨w1.heap.size, 0, none⟩) 1 1, .slice (some ⟨w.heap.size, 0, none⟩) 32 32, .slice (some ⟨w.heap.size + 1, 0, none⟩) 32 32] 22)).drew (w1.heap.size + 1) 22 #[.slice (some ⟨w1.heap.size, 0, none⟩) 1 1, .slice (some ⟨w.heap.size, 0, none⟩) 32 32, .slice (some ⟨w.heap.size + 1, 0, none⟩) 32 32] := (Box.made_at (by simp) _ _).drew
  have hBA := HA.out.below hFW HA.out.lt
  have hBB := HB.out.below hFW HB.out.lt
  have hp : Pieces ((w1.alloc (.cells #[bv m] 5)).alloc (.cells #[.slice (some ⟨w1.heap.size, 0, none⟩) 1 1, .slice (some ⟨w.heap.size, 0, none⟩) 32 32, .slice (some ⟨w.heap.size + 1, 0, none⟩) 32 32] 22)).drew _ (some ⟨w1.heap.size + 1, 0, none⟩) [[m], a, b] :=
    Pieces.three (p := [m]) (by rw [ha, hb]; exact hBV) hBV.lt (Nat.le_refl 1) (by simp [maxLen]) (Sees.of_box hBM hBM.lt) (by omega) (by simp [maxLen]) (Sees.of_box hBA hBA.lt) (by omega) (by simp [maxLen]) (Sees.of_box hBB hBB.lt)
  have hfl : ([[m], a, b] : List (List UInt8)).flatten = m :: (a ++ b) := by simp
  have HOF := Lib.hid (of_any [[m], a, b] (some ⟨w1.heap.size + 1, 0, none⟩) 3 _ hp (by simp) (by rw [hfl, List.length_cons, List.length_append]; omega) (hR.of_below (HF.out.trans (hFW.mono HF.out.size))))
  rw [hfl] at HOF
  generalize hd : shaOf (m :: (a ++ b)) = d at *
  have HDL : Hid (d.length = 32) := by rw [← hd]; exact Lib.hid rfl
  have HD := Lib.hid hd
  have HFW := Lib.hid hFW
  clear hFW hBM hBV hBA hBB hp hfl hd
  go_region_with ((go_at_call 24; refine (HOF.out).mono ?_; rintro e w6 ⟨rfl, hB6⟩; have HB6 := Lib.hid (HFW.out.trans (hB6.mono HFW.out.size)); clear hB6; have hst := (HO.out.below HB6.out HO.out.lt).store_digest rfl d HDL.out))
  all_goals
    have HO6 := Lib.hid (HO.out.below HB6.out HO.out.lt)
    have HB9 : Hid (Box (w6.setCells (w.heap.size + 1 + 1) 0 (d.map bv)) (w.heap.size + 1 + 1) 29 (d.map bv).toArray) := HO6.out.cells_all (d.map bv).toArray (by rw [List.size_toArray, List.length_map, HDL.out]; rfl)
    have HF9 : Hid (Below w.heap.size w (w6.setCells (w.heap.size + 1 + 1) 0 (d.map bv))) := (HF.out.trans (HB6.out.mono HF.out.size)).trans (below_only (only_cells (d.map bv) 0 w6) (by omega) (HF.out.trans (HB6.out.mono HF.out.size)).size)
    have hsz : Hid ((Tryd.prog.info? 29).map (·.size) = some (d.map bv).toArray.size) := by
      rw [List.size_toArray, List.length_map, HDL.out]
      show _ = some 32
      kernel_rfl
    clear hst HO6 HB6 HO HA HB HOF HF HFW
    generalize w6.setCells (w.heap.size + 1 + 1) 0 (d.map bv) = w9 at *
    go_wp2
    refine bodyPost_ret (v := .agg (d.map bv).toArray) (results_cell_row rfl _ w9 (w.heap.size + 1 + 1) 29 (d.map bv).toArray (0, 0) _ rfl HB9.out Tryd.underlying29 rfl hsz.out) rfl ⟨by rw [HD.out], HF9.out⟩
end Go.Proofs.YtkpekglpknbodaaDoor
