/-
  Package keys: grows, count, leaf.
-/
import Derived.Test.YtkmmhkoommbkpaaDoorTU
import Derived.Test.YtkmmhkoommbkpaaDoorKPlain
namespace Go.Proofs.YtkmmhkoommbkpaaDoor
open Go.RowKit

theorem grows_any (h : Int) (w : World) : Calls Tryd.prog 30 #[.int .i64 h] w fun e w' => e = .returned (.bool (decide (0 ≤ h) && decide (h ≤ 6))) ∧ w' = w := by
  by_cases h0 : 0 ≤ h
  · have h' : decide (0 ≤ h) = true := by simpa using h0
    go_enter Tryd.func30, Tryd.ntmps30
    go_wp2
    go_ret
    exact ⟨by simp [h0], rfl⟩
  · have h' : decide (0 ≤ h) = false := by simpa using h0
    go_enter Tryd.func30, Tryd.ntmps30
    go_wp2
    go_ret
    exact ⟨by simp, rfl⟩

theorem count_any (h : Nat) (hh : h ≤ 6) (w : World) : Calls Tryd.prog 31 #[.int .i64 (h : Int)] w fun e w' => e = .returned (.int .i64 ((2 ^ h : Nat) : Int)) ∧ w' = w := by
  have h7 : h = 0 ∨ h = 1 ∨ h = 2 ∨ h = 3 ∨ h = 4 ∨ h = 5 ∨ h = 6 := by omega
  rcases h7 with rfl | rfl | rfl | rfl | rfl | rfl | rfl <;>
    (go_enter Tryd.func31, Tryd.ntmps31
     go_wp2
     go_ret
     exact ⟨rfl, rfl⟩)

set_option maxRecDepth 100000 in
set_option maxHeartbeats 1000000 in
theorem kleaf_any (s : List UInt8) (hs : s.length = 32) (w : World) (hR : Roots w) :
    Calls Tryd.prog 32 #[.agg (s.map bv).toArray] w fun e w' => e = .returned (.agg ((leafT s).map bv).toArray) ∧ Below w.heap.size w w' := by
  have hS : Box ((w.alloc (.cells (s.map bv).toArray 23)).alloc (.cells zs32 23)) w.heap.size 23 (s.map bv).toArray := (Box.made w _ _).alloc _
  have HO : Hid (Box ((w.alloc (.cells (s.map bv).toArray 23)).alloc (.cells zs32 23)) (w.heap.size + 1) 23 zs32) := Box.made_at (by simp) _ _
  have HF : Hid (Below w.heap.size w ((w.alloc (.cells (s.map bv).toArray 23)).alloc (.cells zs32 23))) := ((Below.refl _ _).alloc (Nat.le_refl _) _).alloc (by simp) _
  go_enter Tryd.func32, Tryd.ntmps32
  go_upto_region 1 with fail
  change Code.wp _ _ _ _ ((w.alloc (.cells (s.map bv).toArray 23)).alloc (.cells zs32 23))
  generalize (w.alloc (.cells (s.map bv).toArray 23)).alloc (.cells zs32 23) = w1 at *
  have HOF := Lib.hid (leaf_any s (some ⟨w.heap.size, 0, none⟩) 32 w1 (Sees.of_box hS hS.lt) (by omega) (by simp [maxLen]) (by omega) (hR.of_below HF.out))
  rw [hs] at HOF
  change Hid (Calls _ _ _ _ fun e w' => e = .returned (.agg ((leafT s).map bv).toArray) ∧ _) at HOF
  have HDL : Hid ((leafT s).length = 32) := Lib.hid rfl
  generalize hd : leafT s = d at *
  have HD := Lib.hid hd
  clear hd
  have HSM := Lib.hid (dig_same d HDL.out)
  have HSZ := Lib.hid (dig_size d HDL.out)
  clear hS
  go_wp2_with (first
    | (go_at_call 63; refine (HOF.out).mono ?_; rintro e w6 ⟨rfl, hB6⟩; have HB6 := Lib.hid hB6; clear hB6)
    | (((with_reducible show wpList _ _ _ ((⟨none, Op.store _ (.tmp 2) (.tmp 4), _, _, _, _⟩ : Oper) :: _) _ _)); refine wpList_store_box rfl 23 (.tmp 2) (.tmp 4) rfl (w.heap.size + 1) (d.map bv).toArray rfl rfl 23 zs32 (HO.out.below HB6.out HO.out.lt) HSM.out HSZ.out (bv_one _) ?_; intro w7 hb7 hg7))
  exact ret_dig rfl rfl rfl hb7 HDL.out ⟨by rw [HD.out], (HF.out.trans (HB6.out.mono HF.out.size)).trans (below_only hg7 (by omega) (HF.out.trans (HB6.out.mono HF.out.size)).size)⟩
end Go.Proofs.YtkmmhkoommbkpaaDoor
