/-
  KeysCheck: the walk.
-/
import Derived.Test.YtkmmhkoommbkpaaDoorKAlive
import Derived.Test.YtkmmhkoommbkpaaDoorKSame
import Derived.Test.YtkmmhkoommbkpaaDoorKRCheck
import Derived.Deep.RegionHeld3
namespace Go.Proofs.YtkmmhkoommbkpaaDoor
open Go.RowKit

attribute [local go_sem ↓] ldDigest_def

set_option maxRecDepth 100000 in
set_option maxHeartbeats 2000000 in
theorem kchecks_walk (root d : List UInt8) (hr : root.length = 32) (hd : d.length = 32) (h n : Int) (X Y P : List (List UInt8)) (A B C : Option Addr) (a b c : Nat) (hc : P.length ≤ c) (w : World) (hA : Digs w w.heap.size A X) (hB : Digs w w.heap.size B Y) (hC : Digs w w.heap.size C P) (hR : Roots w) :
    Calls Tryd.prog 4 #[.agg (keyV root h), .agg (d.map bv).toArray, .agg (sigV n A X.length a B Y.length b C P.length c)] w fun e w' => e = .returned (.bool true) ∧ Below w.heap.size w w' := by
  obtain ⟨w1, hw1⟩ : ∃ w1, w1 = ((w.alloc (.cells (keyV root h) 35)).alloc (.cells (d.map bv).toArray 23)).alloc (.cells (sigV n A X.length a B Y.length b C P.length c) 30) := ⟨_, rfl⟩
  have HK : Hid (Box w1 w.heap.size 35 (keyV root h)) := by
    rw [hw1]
    exact ((Box.made w _ _).alloc _).alloc _
  have HD : Hid (Box w1 (w.heap.size + 1) 23 (d.map bv).toArray) := by
    rw [hw1]
    exact (Box.made_at (by simp) _ _).alloc _
  have HS : Hid (Box w1 (w.heap.size + 1 + 1) 30 (sigV n A X.length a B Y.length b C P.length c)) := by
    rw [hw1]
    exact Box.made_at (by simp) _ _
  have HF : Hid (Below w.heap.size w w1) := by
    rw [hw1]
    exact (((Below.refl _ _).alloc (Nat.le_refl _) _).alloc (by simp) _).alloc (by simp; omega) _
  have HAL := Lib.hid (kalive_any w1 (hR.of_below HF.out))
  have HGT : Hid (∀ w', Calls Tryd.prog 15 #[.agg (sigV n A X.length a B Y.length b C P.length c)] w' fun e w'' => e = .returned (.bool (decide (200 < X.length) || decide (200 < Y.length) || decide (200 < P.length))) ∧ Below w'.heap.size w' w'') := fun w' => kgreat_any n X.length Y.length P.length A B C a b c w'
  have HCK : Hid (∀ w', Below w1.heap.size w1 w' → Calls Tryd.prog 16 #[.agg (keyV root h), .agg (d.map bv).toArray, .agg (sigV n A X.length a B Y.length b C P.length c)] w' fun e w'' => e = .returned (.bool (goodK root d h n X Y P)) ∧ Below w'.heap.size w' w'') := fun w' hb => kcheck_any root d hr hd h n X Y P A B C a b c hc w' ((hA.far HF.out).far hb) ((hB.far HF.out).far hb) ((hC.far HF.out).far hb) (hR.of_below (HF.out.trans (hb.mono HF.out.size)))
  have HRC : Hid (∀ w', Below w1.heap.size w1 w' → Calls Tryd.prog 17 #[.agg (keyV root h), .agg (d.map bv).toArray, .agg (sigV n A X.length a B Y.length b C P.length c)] w' fun e w'' => e = .returned (.bool (goodK root d h n X Y P)) ∧ Below w'.heap.size w' w'') := fun w' hb => rkcheck_any root d hr hd h n X Y P A B C a b c hc w' ((hA.far HF.out).far hb) ((hB.far HF.out).far hb) ((hC.far HF.out).far hb)
  have HKR : Hid (∀ w', Below w1.heap.size w1 w' → w'.rangeAt w.heap.size 0 (keyL root h)) := fun w' hb => Box.range (HK.out.below hb HK.out.lt)
  have HDR : Hid (∀ w', Below w1.heap.size w1 w' → w'.rangeAt (w.heap.size + 1) 0 (d.map bv)) := fun w' hb => Box.range (HD.out.below hb HD.out.lt)
  have HSR : Hid (∀ w', Below w1.heap.size w1 w' → w'.rangeAt (w.heap.size + 1 + 1) 0 (sigV n A X.length a B Y.length b C P.length c).toList) := fun w' hb => Box.range (HS.out.below hb HS.out.lt)
  have hn1 := key_list hr h
  have hn2 := dig_list d hd
  have hn3 := sig_list n A X.length a B Y.length b C P.length c
  have hu1 := Tryd.underlying35
  have hu2 := Tryd.underlying23
  have hu3 := Tryd.underlying30
  clear hA hB hC hR hr hd hc
  generalize goodK root d h n X Y P = q at *
  generalize (decide (200 < X.length) || decide (200 < Y.length) || decide (200 < P.length)) = gr at *
  go_enter Tryd.func4, Tryd.ntmps4
  go_upto_region 1 with fail
  change Code.wp _ _ _ _ (((w.alloc (.cells (keyV root h) 35)).alloc (.cells (d.map bv).toArray 23)).alloc (.cells (sigV n A X.length a B Y.length b C P.length c) 30))
  rw [← hw1]
  clear hw1 HK HD HS
  go_upto_region 3 with (go_at_call 7; (with_reducible refine (HAL.out).mono ?_); rintro e w2 ⟨rfl, hb⟩; have HB2 := Lib.hid hb.drew; clear hb)
  clear HAL
  refine wp_region_held_drew (S := fun w' => Below w1.heap.size w1 w') (by kernel_rfl) HB2.out (fun hS => ?_)
  clear HB2
  (refine wpAnyH_take (i := 0) (v := .agg (sigV n A X.length a B Y.length b C P.length c)) rfl (by kernel_rfl) (by kernel_rfl) (by kernel_rfl) (fun _ _ _ h => h) (yieldsIf_load_mid (by kernel_rfl) 30 (.tmp 5) rfl (w.heap.size + 1 + 1) (0) (by kernel_rfl) ((sigV n A X.length a B Y.length b C P.length c).toList) _ (fun w h => HSR.out w h) hu3 rfl hn3) hS ?_)
  (try simp only [Act.put])
  refine wpAnyH_ready (rs := [1]) (by decide +kernel) (by simp) (AllReadyH.cons rfl (fun K hK => ?_) AllReadyH.nil)
  go_simp
  (go_at_call 15; (with_reducible refine (HGT.out _).mono ?_); rintro e w3 ⟨rfl, hb⟩)
  refine hK.out _ _ (hS.trans (hb.mono hS.size)) (fun hS => ?_)
  clear hK K
  (try simp only [Act.put])
  clear hb
  rcases gr with _ | _
  · (refine wpAnyH_take (i := 2) (v := .bool false) rfl (by kernel_rfl) (by kernel_rfl) (by kernel_rfl) (fun _ _ _ h => h) (Or.inl ⟨by kernel_rfl, fun w hSw => by go_simp⟩) hS ?_)
    (try simp only [Act.put])
    (refine wpAnyH_take (i := 3) (v := .agg (keyV root h)) rfl (by kernel_rfl) (by kernel_rfl) (by kernel_rfl) (fun _ _ _ h => h) (yieldsIf_load_mid (by kernel_rfl) 35 (.tmp 3) rfl w.heap.size (0) (by kernel_rfl) (keyL root h) _ (fun w h => HKR.out w h) hu1 rfl hn1) hS ?_)
    (try simp only [Act.put])
    (refine wpAnyH_take (i := 4) (v := .agg (d.map bv).toArray) rfl (by kernel_rfl) (by kernel_rfl) (by kernel_rfl) (fun _ _ _ h => h) (yieldsIf_load_mid (by kernel_rfl) 23 (.tmp 4) rfl (w.heap.size + 1) (0) (by kernel_rfl) (d.map bv) _ (fun w h => HDR.out w h) hu2 rfl hn2) hS ?_)
    (try simp only [Act.put])
    (refine wpAnyH_take (i := 5) (v := .agg (sigV n A X.length a B Y.length b C P.length c)) rfl (by kernel_rfl) (by kernel_rfl) (by kernel_rfl) (fun _ _ _ h => h) (yieldsIf_load_mid (by kernel_rfl) 30 (.tmp 5) rfl (w.heap.size + 1 + 1) (0) (by kernel_rfl) ((sigV n A X.length a B Y.length b C P.length c).toList) _ (fun w h => HSR.out w h) hu3 rfl hn3) hS ?_)
    (try simp only [Act.put])
    (refine wpAnyH_take (i := 7) (v := .agg (keyV root h)) rfl (by kernel_rfl) (by kernel_rfl) (by kernel_rfl) (fun _ _ _ h => h) (yieldsIf_load_mid (by kernel_rfl) 35 (.tmp 3) rfl w.heap.size (0) (by kernel_rfl) (keyL root h) _ (fun w h => HKR.out w h) hu1 rfl hn1) hS ?_)
    (try simp only [Act.put])
    (refine wpAnyH_take (i := 8) (v := .agg (d.map bv).toArray) rfl (by kernel_rfl) (by kernel_rfl) (by kernel_rfl) (fun _ _ _ h => h) (yieldsIf_load_mid (by kernel_rfl) 23 (.tmp 4) rfl (w.heap.size + 1) (0) (by kernel_rfl) (d.map bv) _ (fun w h => HDR.out w h) hu2 rfl hn2) hS ?_)
    (try simp only [Act.put])
    (refine wpAnyH_take (i := 9) (v := .agg (sigV n A X.length a B Y.length b C P.length c)) rfl (by kernel_rfl) (by kernel_rfl) (by kernel_rfl) (fun _ _ _ h => h) (yieldsIf_load_mid (by kernel_rfl) 30 (.tmp 5) rfl (w.heap.size + 1 + 1) (0) (by kernel_rfl) ((sigV n A X.length a B Y.length b C P.length c).toList) _ (fun w h => HSR.out w h) hu3 rfl hn3) hS ?_)
    (try simp only [Act.put])
    refine wpAnyH_ready (rs := [6]) (by decide +kernel) (by simp) (AllReadyH.cons rfl (fun K hK => ?_) AllReadyH.nil)
    go_simp
    (go_at_call 16; (with_reducible refine (HCK.out _ hS).mono ?_); rintro e w4 ⟨rfl, hb⟩)
    refine hK.out _ _ (hS.trans (hb.mono hS.size)) (fun hS => ?_)
    clear hK K
    (try simp only [Act.put])
    clear hb
    refine wpAnyH_ready (rs := [10]) (by decide +kernel) (by simp) (AllReadyH.cons rfl (fun K hK => ?_) AllReadyH.nil)
    go_simp
    (go_at_call 17; (with_reducible refine (HRC.out _ hS).mono ?_); rintro e w5 ⟨rfl, hb⟩)
    refine hK.out _ _ (hS.trans (hb.mono hS.size)) (fun hS => ?_)
    clear hK K
    (try simp only [Act.put])
    clear hb
    (refine wpAnyH_take (i := 11) (v := .bool (q == q)) rfl (by kernel_rfl) (by kernel_rfl) (by kernel_rfl) (fun _ _ _ h => h) (Or.inl ⟨by kernel_rfl, fun w hSw => by go_simp⟩) hS ?_)
    (try simp only [Act.put])
    (refine wpAnyH_take (i := 12) (v := .bool (q == q)) rfl (by kernel_rfl) (by kernel_rfl) (by kernel_rfl) (fun _ _ _ h => h) (Or.inl ⟨by kernel_rfl, fun w hSw => by go_simp⟩) hS ?_)
    (try simp only [Act.put])
    refine wpAnyH_ready (rs := [13]) (by decide +kernel) (by simp) (AllReadyH.cons rfl (fun K hK => ?_) AllReadyH.nil)
    go_simp
    refine hK.out _ _ (hS) (fun hS => ?_)
    clear hK K
    (try simp only [Act.put])
    refine wpAnyH_done (by kernel_rfl) ?_ _
    have HFG := Lib.hid (HF.out.trans (hS.mono HF.out.size))
    clear hS
    go_wp2
    go_ret
    exact ⟨rfl, HFG.out⟩
  · (refine wpAnyH_take (i := 2) (v := .bool true) rfl (by kernel_rfl) (by kernel_rfl) (by kernel_rfl) (fun _ _ _ h => h) (Or.inl ⟨by kernel_rfl, fun w hSw => by go_simp⟩) hS ?_)
    (try simp only [Act.put])
    (refine wpAnyH_take (i := 3) (v := undef) rfl (by kernel_rfl) (by kernel_rfl) (by kernel_rfl) (fun _ _ _ h => h) (Or.inr ⟨by kernel_rfl, rfl⟩) hS ?_)
    (try simp only [Act.put])
    (refine wpAnyH_take (i := 4) (v := undef) rfl (by kernel_rfl) (by kernel_rfl) (by kernel_rfl) (fun _ _ _ h => h) (Or.inr ⟨by kernel_rfl, rfl⟩) hS ?_)
    (try simp only [Act.put])
    (refine wpAnyH_take (i := 5) (v := undef) rfl (by kernel_rfl) (by kernel_rfl) (by kernel_rfl) (fun _ _ _ h => h) (Or.inr ⟨by kernel_rfl, rfl⟩) hS ?_)
    (try simp only [Act.put])
    (refine wpAnyH_take (i := 6) (v := undef) rfl (by kernel_rfl) (by kernel_rfl) (by kernel_rfl) (fun _ _ _ h => h) (Or.inr ⟨by kernel_rfl, rfl⟩) hS ?_)
    (try simp only [Act.put])
    (refine wpAnyH_take (i := 7) (v := undef) rfl (by kernel_rfl) (by kernel_rfl) (by kernel_rfl) (fun _ _ _ h => h) (Or.inr ⟨by kernel_rfl, rfl⟩) hS ?_)
    (try simp only [Act.put])
    (refine wpAnyH_take (i := 8) (v := undef) rfl (by kernel_rfl) (by kernel_rfl) (by kernel_rfl) (fun _ _ _ h => h) (Or.inr ⟨by kernel_rfl, rfl⟩) hS ?_)
    (try simp only [Act.put])
    (refine wpAnyH_take (i := 9) (v := undef) rfl (by kernel_rfl) (by kernel_rfl) (by kernel_rfl) (fun _ _ _ h => h) (Or.inr ⟨by kernel_rfl, rfl⟩) hS ?_)
    (try simp only [Act.put])
    (refine wpAnyH_take (i := 10) (v := undef) rfl (by kernel_rfl) (by kernel_rfl) (by kernel_rfl) (fun _ _ _ h => h) (Or.inr ⟨by kernel_rfl, rfl⟩) hS ?_)
    (try simp only [Act.put])
    (refine wpAnyH_take (i := 11) (v := undef) rfl (by kernel_rfl) (by kernel_rfl) (by kernel_rfl) (fun _ _ _ h => h) (Or.inr ⟨by kernel_rfl, rfl⟩) hS ?_)
    (try simp only [Act.put])
    (refine wpAnyH_take (i := 12) (v := .bool true) rfl (by kernel_rfl) (by kernel_rfl) (by kernel_rfl) (fun _ _ _ h => h) (Or.inl ⟨by kernel_rfl, fun w hSw => by go_simp⟩) hS ?_)
    (try simp only [Act.put])
    refine wpAnyH_ready (rs := [13]) (by decide +kernel) (by simp) (AllReadyH.cons rfl (fun K hK => ?_) AllReadyH.nil)
    go_simp
    refine hK.out _ _ (hS) (fun hS => ?_)
    clear hK K
    (try simp only [Act.put])
    refine wpAnyH_done (by kernel_rfl) ?_ _
    have HFG := Lib.hid (HF.out.trans (hS.mono HF.out.size))
    clear hS
    go_wp2
    go_ret
    exact ⟨rfl, HFG.out⟩
end Go.Proofs.YtkmmhkoommbkpaaDoor
