/-
  OnceSigns, the walk: for every input the law returns true, and nothing that was there is turned.
-/
import Derived.Test.YtdgedhaiefingaaDoorOAlive
import Derived.Test.YtdgedhaiefingaaDoorOSame
import Derived.Test.YtdgedhaiefingaaDoorORSign
namespace Go.Proofs.YtdgedhaiefingaaDoor
open Go.RowKit

attribute [local go_sem ↓] ldDigest_def eqDigest_def

/-- A signature that was made, and the document's: the same. -/
theorem same_signs (seed : List UInt8) (leaf : Int) (d : List UInt8) (g h : Nat) (A B : Option Addr) (a b c c' : Nat) (w : World) (b1 : Box w g 23 ((openT seed leaf d).flatten.map bv).toArray) (b2 : Box w h 23 ((shutT seed leaf d).flatten.map bv).toArray)
    (d1 : Digs w w.heap.size A (openT seed leaf d)) (d2 : Digs w w.heap.size B (shutT seed leaf d)) :
    Calls Tryd.prog 9 #[.agg (onceV g h a b), .agg #[.slice A 32 c, .slice B 32 c']] w fun e w' => e = .returned (.bool true) ∧ Below w.heap.size w w' := by
  obtain ⟨h1, h2⟩ := sign_lens seed leaf d
  have hA : Digs w w.heap.size (some ⟨g, 0, none⟩) (openT seed leaf d) := ⟨open_all seed leaf d, Sees.of_box b1 b1.lt⟩
  have hB : Digs w w.heap.size (some ⟨h, 0, none⟩) (shutT seed leaf d) := ⟨shut_all seed leaf d, Sees.of_box b2 b2.lt⟩
  have h := rsame_any (openT seed leaf d) (shutT seed leaf d) (openT seed leaf d) (shutT seed leaf d) (some ⟨g, 0, none⟩) (some ⟨h, 0, none⟩) A B a b c c' w hA hB d1 d2 (by omega) (by omega)
  rw [h1, h2, decide_eq_true rfl, decide_eq_true rfl] at h
  exact h

set_option maxRecDepth 100000 in
set_option maxHeartbeats 2000000 in
theorem signs_walk (seed : List UInt8) (leaf : Int) (d : List UInt8) (w : World) (hs : seed.length = 32) (hl1 : -9223372036854775808 ≤ leaf) (hl2 : leaf ≤ 9223372036854775807) (hd : d.length = 32) (hR : Roots w) :
    Calls Tryd.prog 3 #[.agg (seed.map bv).toArray, .int .i64 leaf, .agg (d.map bv).toArray] w fun e w' => e = .returned (.bool true) ∧ Below w.heap.size w w' := by
  obtain ⟨w1, hw1⟩ : ∃ w1, w1 = (w.alloc (.cells (seed.map bv).toArray 23)).alloc (.cells (d.map bv).toArray 23) := ⟨_, rfl⟩
  have HW1 : Hid (DuoW w w.heap.size (seed.map bv).toArray (d.map bv).toArray w1) := by
    rw [hw1]
    exact ⟨(Box.made w _ _).alloc _, Box.made_at (by simp) _ _, ((Below.refl _ _).alloc (Nat.le_refl _) _).alloc (by simp) _⟩
  have HAL := Lib.hid (alive_any w1 (hR.of_below HW1.out.far))
  have HP : Hid (∀ w', Below w.heap.size w w' → Calls Tryd.prog 7 #[.agg (seed.map bv).toArray, .int .i64 leaf] w' fun e w'' => e = .returned (.agg ((pubT seed leaf).map bv).toArray) ∧ Below w'.heap.size w' w'') := fun w' hb => public_any seed hs leaf w' (hR.of_below hb)
  have HRP : Hid (∀ w', Calls Tryd.prog 8 #[.agg (seed.map bv).toArray, .int .i64 leaf] w' fun e w'' => e = .returned (.agg ((pubT seed leaf).map bv).toArray) ∧ Below w'.heap.size w' w'') := fun w' => rpublic_any seed hs leaf hl1 hl2 w'
  have HSG : Hid (∀ w', Below w.heap.size w w' → Calls Tryd.prog 10 #[.agg (seed.map bv).toArray, .int .i64 leaf, .agg (d.map bv).toArray] w' (SignIs w' (openT seed leaf d) (shutT seed leaf d))) := fun w' hb => sign_any seed hs leaf d hd w' (hR.of_below hb)
  have HRS : Hid (∀ w', Calls Tryd.prog 11 #[.agg (seed.map bv).toArray, .int .i64 leaf, .agg (d.map bv).toArray] w' (RSignIs w' (openT seed leaf d) (shutT seed leaf d))) := fun w' => rsign_any seed hs leaf hl1 hl2 d hd w'
  have HSM : Hid (∀ w' g h A B c c', Box w' g 23 ((openT seed leaf d).flatten.map bv).toArray → Box w' h 23 ((shutT seed leaf d).flatten.map bv).toArray → Digs w' w'.heap.size A (openT seed leaf d) → Digs w' w'.heap.size B (shutT seed leaf d) →
      Calls Tryd.prog 9 #[.agg (onceV g h 32 32), .agg #[.slice A 32 c, .slice B 32 c']] w' fun e w'' => e = .returned (.bool true) ∧ Below w'.heap.size w' w'') := fun w' g h A B c c' b1 b2 d1 d2 => same_signs seed leaf d g h A B 32 32 c c' w' b1 b2 d1 d2
  have HPL : Hid ((pubT seed leaf).length = 32) := Lib.hid rfl
  have hn1 := dig_list seed hs
  have hn2 := dig_list d hd
  clear hs hd hR hl1 hl2
  generalize pubT seed leaf = pk at *
  generalize openT seed leaf d = X at *
  generalize shutT seed leaf d = Y at *
  go_enter Tryd.func3, Tryd.ntmps3
  go_upto_region 1 with fail
  change Code.wp _ _ _ _ ((w.alloc (.cells (seed.map bv).toArray 23)).alloc (.cells (d.map bv).toArray 23))
  rw [← hw1]
  clear hw1
  go_upto_region 3 with (go_at_call 6; (with_reducible refine (HAL.out).mono ?_); rintro e w2 ⟨rfl, hb⟩; have HW2 := Lib.hid (HW1.out.call hb); clear hb)
  clear HAL HW1
  have hund := Tryd.underlying23
  have HS0 : Hid (DuoW w w.heap.size (seed.map bv).toArray (d.map bv).toArray w2.drew) := HW2.out.call (Below.refl _ _).drew
  refine wp_region_held_drew (S := DuoW w w.heap.size (seed.map bv).toArray (d.map bv).toArray) (by kernel_rfl) HS0.out (fun hS => ?_)
  clear HW2 HS0
  generalize w2.drew = w4 at *
  (refine wpAnyH_take (i := 0) (v := .agg (seed.map bv).toArray) rfl (by kernel_rfl) (by kernel_rfl) (by kernel_rfl) (fun _ _ _ h => h) (yieldsIf_load_mid (by kernel_rfl) 23 (.tmp 3) rfl w.heap.size (0) (by kernel_rfl) (seed.map bv) _ (fun w h => h.x.range) hund rfl hn1) hS ?_)
  (try simp only [Act.put])
  (refine wpAnyH_take (i := 1) (v := .int .i64 leaf) rfl (by kernel_rfl) (by kernel_rfl) (by kernel_rfl) (fun _ _ _ h => h) (Or.inl ⟨by kernel_rfl, fun w hSw => by go_simp⟩) hS ?_)
  (try simp only [Act.put])
  (refine wpAnyH_take (i := 3) (v := .agg (seed.map bv).toArray) rfl (by kernel_rfl) (by kernel_rfl) (by kernel_rfl) (fun _ _ _ h => h) (yieldsIf_load_mid (by kernel_rfl) 23 (.tmp 3) rfl w.heap.size (0) (by kernel_rfl) (seed.map bv) _ (fun w h => h.x.range) hund rfl hn1) hS ?_)
  (try simp only [Act.put])
  (refine wpAnyH_take (i := 4) (v := .int .i64 leaf) rfl (by kernel_rfl) (by kernel_rfl) (by kernel_rfl) (fun _ _ _ h => h) (Or.inl ⟨by kernel_rfl, fun w hSw => by go_simp⟩) hS ?_)
  (try simp only [Act.put])
  refine wpAnyH_ready (rs := [2]) (by decide +kernel) (by simp) (AllReadyH.cons rfl (fun K hK => ?_) AllReadyH.nil)
  go_simp
  (go_at_call 7; (with_reducible refine (HP.out _ hS.far).mono ?_); rintro e w5 ⟨rfl, hb⟩)
  refine hK.out _ _ (hS.call hb) (fun hS => ?_)
  clear hK K
  (try simp only [Act.put])
  clear hb
  refine wpAnyH_ready (rs := [5]) (by decide +kernel) (by simp) (AllReadyH.cons rfl (fun K hK => ?_) AllReadyH.nil)
  go_simp
  (go_at_call 8; (with_reducible refine (HRP.out _).mono ?_); rintro e w6 ⟨rfl, hb⟩)
  refine hK.out _ _ (hS.call hb) (fun hS => ?_)
  clear hK K
  (try simp only [Act.put])
  clear hb
  refine wpAnyH_ready (rs := [6]) (by decide +kernel) (by simp) (AllReadyH.cons rfl (fun K hK => ?_) AllReadyH.nil)
  refine step_eq_dig rfl (.tmp 11) (.tmp 14) rfl pk pk rfl rfl HPL.out HPL.out ?_
  rw [decide_eq_true (rfl : pk = pk)]
  simp only [Act.put]
  refine hK.out _ _ (hS) (fun hS => ?_)
  clear hK K
  (try simp only [Act.put])
  refine wpAnyH_ready (rs := [7]) (by decide +kernel) (by simp) (AllReadyH.cons rfl (fun K hK => ?_) AllReadyH.nil)
  go_simp
  refine hK.out _ _ (hS) (fun hS => ?_)
  clear hK K
  (try simp only [Act.put])
  (refine wpAnyH_take (i := 8) (v := .agg (seed.map bv).toArray) rfl (by kernel_rfl) (by kernel_rfl) (by kernel_rfl) (fun _ _ _ h => h) (yieldsIf_load_mid (by kernel_rfl) 23 (.tmp 3) rfl w.heap.size (0) (by kernel_rfl) (seed.map bv) _ (fun w h => h.x.range) hund rfl hn1) hS ?_)
  (try simp only [Act.put])
  (refine wpAnyH_take (i := 9) (v := .int .i64 leaf) rfl (by kernel_rfl) (by kernel_rfl) (by kernel_rfl) (fun _ _ _ h => h) (Or.inl ⟨by kernel_rfl, fun w hSw => by go_simp⟩) hS ?_)
  (try simp only [Act.put])
  (refine wpAnyH_take (i := 10) (v := .agg (d.map bv).toArray) rfl (by kernel_rfl) (by kernel_rfl) (by kernel_rfl) (fun _ _ _ h => h) (yieldsIf_load_mid (by kernel_rfl) 23 (.tmp 5) rfl (w.heap.size + 1) (0) (by kernel_rfl) (d.map bv) _ (fun w h => h.y.range) hund rfl hn2) hS ?_)
  (try simp only [Act.put])
  (refine wpAnyH_take (i := 12) (v := .agg (seed.map bv).toArray) rfl (by kernel_rfl) (by kernel_rfl) (by kernel_rfl) (fun _ _ _ h => h) (yieldsIf_load_mid (by kernel_rfl) 23 (.tmp 3) rfl w.heap.size (0) (by kernel_rfl) (seed.map bv) _ (fun w h => h.x.range) hund rfl hn1) hS ?_)
  (try simp only [Act.put])
  (refine wpAnyH_take (i := 13) (v := .int .i64 leaf) rfl (by kernel_rfl) (by kernel_rfl) (by kernel_rfl) (fun _ _ _ h => h) (Or.inl ⟨by kernel_rfl, fun w hSw => by go_simp⟩) hS ?_)
  (try simp only [Act.put])
  (refine wpAnyH_take (i := 14) (v := .agg (d.map bv).toArray) rfl (by kernel_rfl) (by kernel_rfl) (by kernel_rfl) (fun _ _ _ h => h) (yieldsIf_load_mid (by kernel_rfl) 23 (.tmp 5) rfl (w.heap.size + 1) (0) (by kernel_rfl) (d.map bv) _ (fun w h => h.y.range) hund rfl hn2) hS ?_)
  (try simp only [Act.put])
  refine wpAnyH_ready (rs := [11]) (by decide +kernel) (by simp) (AllReadyH.cons rfl (fun K hK => ?_) AllReadyH.nil)
  go_simp
  (go_at_call 10; (with_reducible refine (HSG.out _ hS.far).mono ?_); rintro e w7 ⟨g, h, rfl, b1, b2, _, _, _, hb⟩)
  have HB7 := Lib.hid (And.intro b1 b2)
  clear b1 b2
  refine hK.out _ _ (hS.call hb) (fun hS => ?_)
  clear hK K
  (try simp only [Act.put])
  clear hb
  refine wpAnyH_ready (rs := [15]) (by decide +kernel) (by simp) (AllReadyH.cons rfl (fun K hK => ?_) AllReadyH.nil)
  go_simp
  (go_at_call 11; (with_reducible refine (HRS.out _).mono ?_); rintro e w8 ⟨A, B, c, c', rfl, d1, d2, hb⟩)
  have HB8 := Lib.hid (HSM.out w8 g h A B c c' (HB7.out.1.below hb HB7.out.1.lt) (HB7.out.2.below hb HB7.out.2.lt) d1 d2)
  clear d1 d2
  refine hK.out _ _ (hS.call hb) (fun hS => ?_)
  clear hK K
  (try simp only [Act.put])
  clear hb
  refine wpAnyH_ready (rs := [16]) (by decide +kernel) (by simp) (AllReadyH.cons rfl (fun K hK => ?_) AllReadyH.nil)
  go_simp
  (go_at_call 9; (with_reducible refine (HB8.out).mono ?_); rintro e w9 ⟨rfl, hb⟩)
  refine hK.out _ _ (hS.call hb) (fun hS => ?_)
  clear hK K
  (try simp only [Act.put])
  clear hb
  refine wpAnyH_ready (rs := [17]) (by decide +kernel) (by simp) (AllReadyH.cons rfl (fun K hK => ?_) AllReadyH.nil)
  go_simp
  refine hK.out _ _ (hS) (fun hS => ?_)
  clear hK K
  (try simp only [Act.put])
  refine wpAnyH_ready (rs := [18]) (by decide +kernel) (by simp) (AllReadyH.cons rfl (fun K hK => ?_) AllReadyH.nil)
  go_simp
  refine hK.out _ _ (hS) (fun hS => ?_)
  clear hK K
  (try simp only [Act.put])
  refine wpAnyH_done (by kernel_rfl) ?_ _
  have HF := Lib.hid hS.far
  clear hS hund HB8
  go_wp2
  go_ret
  exact ⟨rfl, HF.out⟩
end Go.Proofs.YtdgedhaiefingaaDoor
