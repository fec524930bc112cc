/-
  A secret's digest: once.shut, and the document's (wapentakeref04.Shut).
-/
import Derived.Test.YtdgedhaiefingaaDoorTOwn
import Derived.Test.YtdgedhaiefingaaDoorSRef
import Derived.Test.YtdgedhaiefingaaDoorSPieces
namespace Go.Proofs.YtdgedhaiefingaaDoor
open Go.RowKit

set_option maxRecDepth 100000 in
set_option maxHeartbeats 1000000 in
theorem shut_any (s : List UInt8) (hs : s.length = 32) (w : World) (hR : Roots w) :
    Calls Tryd.prog 16 #[.agg (s.map bv).toArray] w fun e w' => e = .returned (.agg ((shaOf s).map bv).toArray) ∧ Below w.heap.size w w' := by
  have hS : Box ((w.alloc (.cells (s.map bv).toArray 23)).alloc (.cells zs32 23)) w.heap.size 23 (s.map bv).toArray := (Box.made w _ _).alloc _
  have HO : Hid (Box ((w.alloc (.cells (s.map bv).toArray 23)).alloc (.cells zs32 23)) (w.heap.size + 1) 23 zs32) := Box.made_at (by simp) _ _
  have HF : Hid (Below w.heap.size w ((w.alloc (.cells (s.map bv).toArray 23)).alloc (.cells zs32 23))) := ((Below.refl _ _).alloc (Nat.le_refl _) _).alloc (by simp) _
  have HN : Hid (((w.alloc (.cells (s.map bv).toArray 23)).alloc (.cells zs32 23)).heap.size = w.heap.size + 1 + 1) := Lib.hid (by simp)
  go_enter Tryd.func16, Tryd.ntmps16
  go_upto_region 1 with fail
  change Code.wp _ _ _ _ ((w.alloc (.cells (s.map bv).toArray 23)).alloc (.cells zs32 23))
  generalize (w.alloc (.cells (s.map bv).toArray 23)).alloc (.cells zs32 23) = w1 at *
  have hFW : Below w1.heap.size w1 (w1.alloc (.cells #[.slice (some ⟨w.heap.size, 0, none⟩) 32 32] 37)) := (Below.refl _ _).alloc (Nat.le_refl _) _
  have hBV : Box (w1.alloc (.cells #[.slice (some ⟨w.heap.size, 0, none⟩) 32 32] 37)) w1.heap.size 37 #[.slice (some ⟨w.heap.size, 0, none⟩) 32 32] := Box.made _ _ _
  have hBS := hS.below hFW hS.lt
  have hp : Pieces (w1.alloc (.cells #[.slice (some ⟨w.heap.size, 0, none⟩) 32 32] 37)) _ (some ⟨w1.heap.size, 0, none⟩) [s] :=
    Pieces.one (p := s) (by rw [hs]; exact hBV) hBV.lt (by omega) (by simp [maxLen]) (Sees.of_box hBS hBS.lt)
  have hfl : ([s] : List (List UInt8)).flatten = s := by simp
  have HOF := Lib.hid (of_any [s] (some ⟨w1.heap.size, 0, none⟩) 1 _ hp (by simp) (by rw [hfl]; omega) (hR.of_below (HF.out.trans (hFW.mono HF.out.size))))
  rw [hfl] at HOF
  have HDL : Hid ((shaOf s).length = 32) := Lib.hid rfl
  generalize hd : shaOf s = d at *
  have HD := Lib.hid hd
  have HFW := Lib.hid hFW
  have HSM := Lib.hid (dig_same d HDL.out)
  have HSZ := Lib.hid (dig_size d HDL.out)
  clear hFW hBV hBS hp hfl hS hd
  go_wp2_with (first
    | (go_at_call 18; refine (HOF.out).mono ?_; rintro e w6 ⟨rfl, hB6⟩; have HB6 := Lib.hid (HFW.out.trans (hB6.mono HFW.out.size)); clear hB6)
    | (((with_reducible show wpList _ _ _ ((⟨none, Op.store _ (.tmp 2) (.tmp 5), _, _, _, _⟩ : Oper) :: _) _ _)); refine wpList_store_box rfl 23 (.tmp 2) (.tmp 5) rfl (w.heap.size + 1) (d.map bv).toArray rfl rfl 23 zs32 (HO.out.below HB6.out HO.out.lt) HSM.out HSZ.out (bv_one _) ?_; intro w7 hb7 hg7))
  exact ret_dig rfl rfl rfl hb7 HDL.out ⟨by rw [HD.out], (HF.out.trans (HB6.out.mono HF.out.size)).trans (below_only hg7 (by omega) (HF.out.trans (HB6.out.mono HF.out.size)).size)⟩

set_option maxRecDepth 100000 in
set_option maxHeartbeats 1000000 in
theorem rshut_any (s : List UInt8) (hs : s.length = 32) (w : World) :
    Calls Tryd.prog 21 #[.agg (s.map bv).toArray] w fun e w' => e = .returned (.agg ((shaOf s).map bv).toArray) ∧ Below w.heap.size w w' := by
  have hS : Box ((w.alloc (.cells (s.map bv).toArray 23)).alloc (.cells zs32 23)) w.heap.size 23 (s.map bv).toArray := (Box.made w _ _).alloc _
  have HO : Hid (Box ((w.alloc (.cells (s.map bv).toArray 23)).alloc (.cells zs32 23)) (w.heap.size + 1) 23 zs32) := Box.made_at (by simp) _ _
  have HF : Hid (Below w.heap.size w ((w.alloc (.cells (s.map bv).toArray 23)).alloc (.cells zs32 23))) := ((Below.refl _ _).alloc (Nat.le_refl _) _).alloc (by simp) _
  go_enter Tryd.func21, Tryd.ntmps21
  go_upto_region 1 with fail
  change Code.wp _ _ _ _ ((w.alloc (.cells (s.map bv).toArray 23)).alloc (.cells zs32 23))
  generalize (w.alloc (.cells (s.map bv).toArray 23)).alloc (.cells zs32 23) = w1 at *
  have HOF := Lib.hid (ref_any s (some ⟨w.heap.size, 0, none⟩) 32 w1 (Sees.of_box hS hS.lt) (by omega))
  rw [hs] at HOF
  have HDL : Hid ((shaOf s).length = 32) := Lib.hid rfl
  generalize hd : shaOf s = d at *
  have HD := Lib.hid hd
  have HSM := Lib.hid (dig_same d HDL.out)
  have HSZ := Lib.hid (dig_size d HDL.out)
  clear hS hd
  go_wp2_with (first
    | (go_at_call 31; refine (HOF.out).mono ?_; rintro e w6 ⟨rfl, hB6⟩; have HB6 := Lib.hid hB6; clear hB6)
    | (((with_reducible show wpList _ _ _ ((⟨none, Op.store _ (.tmp 2) (.tmp 4), _, _, _, _⟩ : Oper) :: _) _ _)); refine wpList_store_box rfl 23 (.tmp 2) (.tmp 4) rfl (w.heap.size + 1) (d.map bv).toArray rfl rfl 23 zs32 (HO.out.below HB6.out HO.out.lt) HSM.out HSZ.out (bv_one _) ?_; intro w7 hb7 hg7))
  exact ret_dig rfl rfl rfl hb7 HDL.out ⟨by rw [HD.out], (HF.out.trans (HB6.out.mono HF.out.size)).trans (below_only hg7 (by omega) (HF.out.trans (HB6.out.mono HF.out.size)).size)⟩
end Go.Proofs.YtdgedhaiefingaaDoor
