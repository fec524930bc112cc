/-
  A signature is made: once.Sign.
-/
import Derived.Test.YtejnfgcnifcpaaaGreatDoorOB
import Derived.Test.YtejnfgcnifcpaaaGreatDoorOC
import Derived.Deep.DeepCutAuto
namespace Go.Proofs.YtejnfgcnifcpaaaGreatDoor
open Go.RowKit

attribute [local go_sem ↓] ldDigest_def stDigest_def

theorem tri_made (w1 : World) (c1 c2 c3 : Array Value) (t1 t2 t3 : TypeId) : Box (((w1.alloc (.cells c1 t1)).alloc (.cells c2 t2)).alloc (.cells c3 t3)).drew w1.heap.size t1 c1 ∧ Box (((w1.alloc (.cells c1 t1)).alloc (.cells c2 t2)).alloc (.cells c3 t3)).drew (w1.heap.size + 1) t2 c2 ∧
    Box (((w1.alloc (.cells c1 t1)).alloc (.cells c2 t2)).alloc (.cells c3 t3)).drew (w1.heap.size + 1 + 1) t3 c3 ∧ Below w1.heap.size w1 (((w1.alloc (.cells c1 t1)).alloc (.cells c2 t2)).alloc (.cells c3 t3)).drew :=
  ⟨((Box.made w1 _ _).alloc _).alloc _, (Box.made_at (by simp) _ _).alloc _, Box.made_at (by simp) _ _, ((((Below.refl _ _).alloc (Nat.le_refl _) _).alloc (by simp) _).alloc (by simp; omega) _).drew⟩
theorem SgW.start {w1 w : World} {a g h : Nat} {X Y : List (List UInt8)} {Z : Array Value} (b1 : Box w a 65 (onceV g h 32 32)) (b2 : Box w g 26 Z) (b3 : Box w h 26 Z) (hB : Below w1.heap.size w1 w) (ha : w1.heap.size ≤ a) (hg : w1.heap.size ≤ g) (hh : w1.heap.size ≤ h) (hne : g ≠ h)
    (hX : X.length = 32) (hY : Y.length = 32) (hZ : (zerosD 1024).toArray = Z) : SgW w1 a g h X Y 0 0 w :=
  ⟨b1, by rw [fillD_zero, hX]; show Box _ _ _ (zerosD 1024).toArray; rw [hZ]; exact b2, by rw [fillD_zero, hY]; show Box _ _ _ (zerosD 1024).toArray; rw [hZ]; exact b3, hB, ha, hg, hh, hne⟩

set_option maxRecDepth 100000 in
set_option maxHeartbeats 2000000 in
theorem sign_any (seed : List UInt8) (hs : seed.length = 32) (leaf : Int) (d : List UInt8) (hd : d.length = 32) (w : World) (hR : Roots w) :
    Calls Tryz.prog 57 #[.agg (seed.map bv).toArray, .int .i64 leaf, .agg (d.map bv).toArray] w (SignIs w (openT seed leaf d) (shutT seed leaf d)) := by
  obtain ⟨w1, hw1⟩ : ∃ w1, w1 = ((w.alloc (.cells (seed.map bv).toArray 26)).alloc (.cells (d.map bv).toArray 26)).alloc (.cells #[.slice none 0 0, .slice none 0 0] 65) := ⟨_, rfl⟩
  have HS : Hid (Box w1 w.heap.size 26 (seed.map bv).toArray) := by
    rw [hw1]
    exact ((Box.made w _ _).alloc _).alloc _
  have HD : Hid (Box w1 (w.heap.size + 1) 26 (d.map bv).toArray) := by
    rw [hw1]
    exact (Box.made_at (by simp) _ _).alloc _
  have HO : Hid (Box w1 (w.heap.size + 1 + 1) 65 #[.slice none 0 0, .slice none 0 0]) := by
    rw [hw1]
    exact Box.made_at (by simp) _ _
  have HF : Hid (Below w.heap.size w w1) := by
    rw [hw1]
    exact (((Below.refl _ _).alloc (Nat.le_refl _) _).alloc (by simp) _).alloc (by simp; omega) _
  have HZ : Hid (w1.heap.size = w.heap.size + 1 + 1 + 1) := by
    rw [hw1]
    exact Lib.hid (by simp)
  obtain ⟨hl1, hl2⟩ := sign_lens seed leaf d
  have HX := Lib.hid hl1
  have HY := Lib.hid hl2
  have HXA := Lib.hid (open_all seed leaf d)
  have HYA := Lib.hid (shut_all seed leaf d)
  have HXG : Hid (∀ i, i < 32 → (openT seed leaf d).getD i [] = secT seed leaf (2 * i + bitT d i)) := Lib.hid (fun i hi => open_at seed leaf d hi)
  have HYG : Hid (∀ i, i < 32 → (shutT seed leaf d).getD i [] = shaOf (secT seed leaf (2 * i + (1 - bitT d i)))) := Lib.hid (fun i hi => shut_at seed leaf d hi)
  have HSL := Lib.hid hs
  have HDL := Lib.hid hd
  have HR := Lib.hid (hR.of_below HF.out)
  clear hl1 hl2 hs hd hR
  generalize openT seed leaf d = X at *
  generalize shutT seed leaf d = Y at *
  have HW1 := Lib.hid hw1
  go_enter Tryz.func57, Tryz.ntmps57
  go_upto_region 1 with fail
  change Code.wp _ _ _ _ (((w.alloc (.cells (seed.map bv).toArray 26)).alloc (.cells (d.map bv).toArray 26)).alloc (.cells #[.slice none 0 0, .slice none 0 0] 65))
  rw [← hw1]
  clear hw1 HW1
  go_cut [7, 10, 11, 12] (fun t7 _ _ _ wx => ∃ a g h, t7 = .pointer (some ⟨a, 0, none⟩) ∧ Hid (SgW w1 a g h X Y 0 0 wx))
  case first =>
    have hmk : ∀ w : World, (Instr.makeSlice 63 (.int .i64 32) (.int .i64 32)).run Tryz.prog w = .ok (.slice (some ⟨w.heap.size, 0, none⟩) 32 32) (w.alloc (.cells (zerosD 1024).toArray 26)) := fun w => make_digs 32 (by decide) w
    generalize hz : (zerosD 1024).toArray = Z at *
    have HZ1 := Lib.hid hz
    clear hz
    go_region_with (fail)
    all_goals
      go_wp2_with fail
      go_meet
      exact ⟨_, _, _, rfl, Lib.hid (SgW.start (by first | exact (tri_made _ _ _ _ _ _ _).1 | exact (tri_made _ _ _ _ _ _ _).2.1 | exact (tri_made _ _ _ _ _ _ _).2.2.1 | exact (tri_made _ _ _ _ _ _ _).2.2.2) (by first | exact (tri_made _ _ _ _ _ _ _).1 | exact (tri_made _ _ _ _ _ _ _).2.1 | exact (tri_made _ _ _ _ _ _ _).2.2.1 | exact (tri_made _ _ _ _ _ _ _).2.2.2) (by first | exact (tri_made _ _ _ _ _ _ _).1 | exact (tri_made _ _ _ _ _ _ _).2.1 | exact (tri_made _ _ _ _ _ _ _).2.2.1 | exact (tri_made _ _ _ _ _ _ _).2.2.2) (by first | exact (tri_made _ _ _ _ _ _ _).1 | exact (tri_made _ _ _ _ _ _ _).2.1 | exact (tri_made _ _ _ _ _ _ _).2.2.1 | exact (tri_made _ _ _ _ _ _ _).2.2.2) (by omega) (by omega) (by omega) (by omega) HX.out HY.out HZ1.out)⟩
  case rest =>
    obtain ⟨a, g, h, rfl, HW0⟩ := hcut
    have hn1 := dig_list seed HSL.out
    go_upto_region 3 with fail
    go_loopw [8, 9, 13] (fun _ _ i wr => ∃ k : Nat, k ≤ 32 ∧ i = .int .i64 (k : Int) ∧ Hid (SgW w1 a g h X Y k k wr)) (fun _ _ i _ => 32 - (intOf i).toNat)
    case atStart => exact ⟨0, Nat.zero_le _, rfl, HW0⟩
    case round =>
      clear HW0
      obtain ⟨k, hk, rfl, HW⟩ := hrel
      by_cases hlt : k < 32
      · have HBT : Hid (∀ w', Calls Tryz.prog 103 #[.agg (d.map bv).toArray, .int .i64 (k : Int)] w' fun e w'' => e = .returned (.int .i64 (bitT d k : Int)) ∧ Below w'.heap.size w' w'') := fun w' => bit_any d HDL.out k hlt w'
        have hb2 := bitT_lt d k
        have hXk := HXG.out k hlt
        have hYk := HYG.out k hlt
        have HC0 : Hid (∀ w', Below w1.heap.size w1 w' → Calls Tryz.prog 95 #[.agg (seed.map bv).toArray, .int .i64 leaf, .int .i64 (k : Int), .int .i64 (bitT d k : Int)] w' fun e w'' => e = .returned (.agg ((X.getD k []).map bv).toArray) ∧ Below w'.heap.size w' w'') := fun w' hb => by
          rw [hXk]
          exact secret_any seed HSL.out leaf k (bitT d k) hlt hb2 w' (HR.out.of_below hb)
        have HC1 : Hid (∀ w', Below w1.heap.size w1 w' → Calls Tryz.prog 95 #[.agg (seed.map bv).toArray, .int .i64 leaf, .int .i64 (k : Int), .int .i64 (1 - (bitT d k : Int))] w' fun e w'' => e = .returned (.agg ((secT seed leaf (2 * k + (1 - bitT d k))).map bv).toArray) ∧ Below w'.heap.size w' w'') := fun w' hb => by
          have h := secret_any seed HSL.out leaf k (1 - bitT d k) hlt (by omega) w' (HR.out.of_below hb)
          rw [show ((1 - bitT d k : Nat) : Int) = 1 - (bitT d k : Int) by omega] at h
          exact h
        have HH : Hid (∀ w', Below w1.heap.size w1 w' → Calls Tryz.prog 94 #[.agg ((secT seed leaf (2 * k + (1 - bitT d k))).map bv).toArray] w' fun e w'' => e = .returned (.agg ((Y.getD k []).map bv).toArray) ∧ Below w'.heap.size w' w'') := fun w' hb => by
          rw [hYk]
          exact shut_any _ rfl w' (HR.out.of_below hb)
        have HX1 : Hid ((X.getD k []).length = 32) := HXA.out.get (by rw [HX.out]; exact hlt) []
        have HY1 : Hid ((Y.getD k []).length = 32) := HYA.out.get (by rw [HY.out]; exact hlt) []
        have HPX : Hid (∀ w', SgW w1 a g h X Y k k w' → SgW w1 a g h X Y (k + 1) k (w'.setCells g (k * 32) ((X.getD k []).map bv))) := fun w' s => s.put_op HXA.out (by rw [HX.out]; exact hlt)
        have HPY : Hid (∀ w', SgW w1 a g h X Y (k + 1) k w' → SgW w1 a g h X Y (k + 1) (k + 1) (w'.setCells h (k * 32) ((Y.getD k []).map bv))) := fun w' s => s.put_sh HYA.out (by rw [HY.out]; exact hlt)
        have HZX : Hid ((fillD X k).size = 1024) := by
          show _ = _
          rw [fillD_size HXA.out (by rw [HX.out]; exact hk), HX.out]
        have HZY : Hid ((fillD Y k).size = 1024) := by
          show _ = _
          rw [fillD_size HYA.out (by rw [HY.out]; exact hk), HY.out]
        clear hXk hYk
        generalize X.getD k [] = x at *
        generalize Y.getD k [] = y at *
        generalize secT seed leaf (2 * k + (1 - bitT d k)) = sc at *
        generalize bitT d k = b at *
        have hw9 : IntKind.i64.wrap (1 - (b : Int)) = 1 - (b : Int) := IntWalk.i64_in _ (by omega)
        have HD2 := Lib.hid (HD.out.below HW.out.far HD.out.lt)
        have HLD := Lib.hid (dig_size d HDL.out)
        go_upto_region 6 with (first
          | ((with_reducible show wpList _ _ _ ((⟨some 16, _, _, _, _, _⟩ : Oper) :: _) _ _); refine wpList_load_mid rfl 26 (.tmp 5) rfl (w.heap.size + 1) 0 rfl (d.map bv) _ HD2.out.range Tryz.underlying26 rfl HLD.out ?_)
          | (go_at_call 103; (with_reducible refine (HBT.out _).mono ?_); rintro e w2 ⟨rfl, hb⟩; have HW2 := Lib.hid (HW.out.call hb); clear hb))
        have hund := Tryz.underlying26
        have HSX : Hid (∀ W', Below w1.heap.size w1 W' ∧ Box W' a 65 (onceV g h 32 32) → W'.rangeAt w.heap.size 0 (seed.map bv)) := fun W' hb => (HS.out.below hb.1 HS.out.lt).range
        have HSC : Hid (∀ W', Below w1.heap.size w1 W' ∧ Box W' a 65 (onceV g h 32 32) → W'.cell? ⟨a, 0, none⟩ = some (.slice (some ⟨g, 0, none⟩) 32 32) ∧ W'.cell? ⟨a, 1, none⟩ = some (.slice (some ⟨h, 0, none⟩) 32 32)) := fun W' hb => ⟨hb.2.cell 0, hb.2.cell 1⟩
        have i0 : (0 : Int) ≤ (k : Int) := by omega
        have i1 : (k : Int) < 32 := by omega
        refine wp_region_held_drew (S := fun w' => Below w1.heap.size w1 w' ∧ Box w' a 65 (onceV g h 32 32)) (by kernel_rfl) ⟨HW2.out.drew.far, HW2.out.drew.own⟩ (fun hS => ?_)
        (refine wpAnyH_take (i := 0) (v := .pointer (some ⟨a, 0, none⟩)) rfl (by kernel_rfl) (by kernel_rfl) (by kernel_rfl) (fun _ _ _ h => h) (Or.inl ⟨by kernel_rfl, fun w hSw => by go_simp⟩) hS ?_)
        (try simp only [Act.put])
        (refine wpAnyH_take (i := 1) (v := .slice (some ⟨g, 0, none⟩) 32 32) rfl (by kernel_rfl) (by kernel_rfl) (by kernel_rfl) (fun _ _ _ h => h) (Or.inl ⟨by kernel_rfl, fun w hSw => by have hc := (HSC.out w hSw).1; go_simp⟩) hS ?_)
        (try simp only [Act.put])
        (refine wpAnyH_take (i := 2) (v := .int .i64 (k : Int)) rfl (by kernel_rfl) (by kernel_rfl) (by kernel_rfl) (fun _ _ _ h => h) (Or.inl ⟨by kernel_rfl, fun w hSw => by go_simp⟩) hS ?_)
        (try simp only [Act.put])
        (refine wpAnyH_take (i := 3) (v := .agg (seed.map bv).toArray) rfl (by kernel_rfl) (by kernel_rfl) (by kernel_rfl) (fun _ _ _ h => h) (yieldsIf_load_mid (by kernel_rfl) 26 (.tmp 3) rfl w.heap.size (0) (by kernel_rfl) (seed.map bv) _ (fun w h => HSX.out w h) hund rfl hn1) hS ?_)
        (try simp only [Act.put])
        (refine wpAnyH_take (i := 4) (v := .int .i64 leaf) rfl (by kernel_rfl) (by kernel_rfl) (by kernel_rfl) (fun _ _ _ h => h) (Or.inl ⟨by kernel_rfl, fun w hSw => by go_simp⟩) hS ?_)
        (try simp only [Act.put])
        (refine wpAnyH_take (i := 5) (v := .int .i64 (k : Int)) rfl (by kernel_rfl) (by kernel_rfl) (by kernel_rfl) (fun _ _ _ h => h) (Or.inl ⟨by kernel_rfl, fun w hSw => by go_simp⟩) hS ?_)
        (try simp only [Act.put])
        (refine wpAnyH_take (i := 6) (v := .int .i64 (b : Int)) rfl (by kernel_rfl) (by kernel_rfl) (by kernel_rfl) (fun _ _ _ h => h) (Or.inl ⟨by kernel_rfl, fun w hSw => by go_simp⟩) hS ?_)
        (try simp only [Act.put])
        refine wpAnyH_ready (rs := [7]) (by decide +kernel) (by simp) (AllReadyH.cons rfl (fun K hK => ?_) AllReadyH.nil)
        go_simp
        (go_at_call 95; (with_reducible refine (HC0.out _ hS.1).mono ?_); rintro e w3 ⟨rfl, hb⟩)
        have HW3 := Lib.hid (HW2.out.drew.call hb)
        clear hb
        have hst := HW3.out.op.store_mid (o := k * 32) (by rw [HZX.out]; omega) x HX1.out
        refine hK.out _ _ (⟨HW3.out.far, HW3.out.own⟩) (fun hS => ?_)
        clear hK K
        (try simp only [Act.put])
        (refine wpAnyH_take (i := 8) (v := .pointer (some ⟨g, k * 32, none⟩)) rfl (by kernel_rfl) (by kernel_rfl) (by kernel_rfl) (fun _ _ _ h => h) (Or.inl ⟨by kernel_rfl, fun w hSw => by go_simp⟩) hS ?_)
        (try simp only [Act.put])
        refine wpAnyH_ready (rs := [9]) (by decide +kernel) (by simp) (AllReadyH.cons rfl (fun K hK => ?_) AllReadyH.nil)
        go_simp
        have HW4 := Lib.hid (HPX.out _ HW3.out)
        refine hK.out _ _ ⟨HW4.out.far, HW4.out.own⟩ (fun hS => ?_)
        clear hK K hst
        (try simp only [Act.put])
        refine wpAnyH_done (by kernel_rfl) ?_ _
        generalize World.setCells _ g (k * 32) (x.map bv) = WHW4 at *
        clear hS
        clear HW HW2 HW3
        go_upto_region 7 with fail
        refine wp_region_held_drew (S := fun w' => Below w1.heap.size w1 w' ∧ Box w' a 65 (onceV g h 32 32)) (by kernel_rfl) ⟨HW4.out.drew.far, HW4.out.drew.own⟩ (fun hS => ?_)
        (refine wpAnyH_take (i := 0) (v := .pointer (some ⟨a, 1, none⟩)) rfl (by kernel_rfl) (by kernel_rfl) (by kernel_rfl) (fun _ _ _ h => h) (Or.inl ⟨by kernel_rfl, fun w hSw => by go_simp⟩) hS ?_)
        (try simp only [Act.put])
        (refine wpAnyH_take (i := 1) (v := .slice (some ⟨h, 0, none⟩) 32 32) rfl (by kernel_rfl) (by kernel_rfl) (by kernel_rfl) (fun _ _ _ h => h) (Or.inl ⟨by kernel_rfl, fun w hSw => by have hc := (HSC.out w hSw).2; go_simp⟩) hS ?_)
        (try simp only [Act.put])
        (refine wpAnyH_take (i := 2) (v := .int .i64 (k : Int)) rfl (by kernel_rfl) (by kernel_rfl) (by kernel_rfl) (fun _ _ _ h => h) (Or.inl ⟨by kernel_rfl, fun w hSw => by go_simp⟩) hS ?_)
        (try simp only [Act.put])
        (refine wpAnyH_take (i := 3) (v := .agg (seed.map bv).toArray) rfl (by kernel_rfl) (by kernel_rfl) (by kernel_rfl) (fun _ _ _ h => h) (yieldsIf_load_mid (by kernel_rfl) 26 (.tmp 3) rfl w.heap.size (0) (by kernel_rfl) (seed.map bv) _ (fun w h => HSX.out w h) hund rfl hn1) hS ?_)
        (try simp only [Act.put])
        (refine wpAnyH_take (i := 4) (v := .int .i64 leaf) rfl (by kernel_rfl) (by kernel_rfl) (by kernel_rfl) (fun _ _ _ h => h) (Or.inl ⟨by kernel_rfl, fun w hSw => by go_simp⟩) hS ?_)
        (try simp only [Act.put])
        (refine wpAnyH_take (i := 5) (v := .int .i64 (k : Int)) rfl (by kernel_rfl) (by kernel_rfl) (by kernel_rfl) (fun _ _ _ h => h) (Or.inl ⟨by kernel_rfl, fun w hSw => by go_simp⟩) hS ?_)
        (try simp only [Act.put])
        (refine wpAnyH_take (i := 6) (v := .int .i64 (b : Int)) rfl (by kernel_rfl) (by kernel_rfl) (by kernel_rfl) (fun _ _ _ h => h) (Or.inl ⟨by kernel_rfl, fun w hSw => by go_simp⟩) hS ?_)
        (try simp only [Act.put])
        (refine wpAnyH_take (i := 7) (v := .int .i64 (1 - (b : Int))) rfl (by kernel_rfl) (by kernel_rfl) (by kernel_rfl) (fun _ _ _ h => h) (Or.inl ⟨by kernel_rfl, fun w hSw => by go_simp⟩) hS ?_)
        (try simp only [Act.put])
        refine wpAnyH_ready (rs := [8]) (by decide +kernel) (by simp) (AllReadyH.cons rfl (fun K hK => ?_) AllReadyH.nil)
        go_simp
        (go_at_call 95; (with_reducible refine (HC1.out _ hS.1).mono ?_); rintro e w5 ⟨rfl, hb⟩)
        have HW5 := Lib.hid (HW4.out.drew.call hb)
        clear hb
        refine hK.out _ _ (⟨HW5.out.far, HW5.out.own⟩) (fun hS => ?_)
        clear hK K
        (try simp only [Act.put])
        refine wpAnyH_ready (rs := [9]) (by decide +kernel) (by simp) (AllReadyH.cons rfl (fun K hK => ?_) AllReadyH.nil)
        go_simp
        (go_at_call 94; (with_reducible refine (HH.out _ hS.1).mono ?_); rintro e w6 ⟨rfl, hb⟩)
        have HW6 := Lib.hid (HW5.out.call hb)
        clear hb
        have hst := HW6.out.sh.store_mid (o := k * 32) (by rw [HZY.out]; omega) y HY1.out
        refine hK.out _ _ (⟨HW6.out.far, HW6.out.own⟩) (fun hS => ?_)
        clear hK K
        (try simp only [Act.put])
        (refine wpAnyH_take (i := 10) (v := .pointer (some ⟨h, k * 32, none⟩)) rfl (by kernel_rfl) (by kernel_rfl) (by kernel_rfl) (fun _ _ _ h => h) (Or.inl ⟨by kernel_rfl, fun w hSw => by go_simp⟩) hS ?_)
        (try simp only [Act.put])
        refine wpAnyH_ready (rs := [11]) (by decide +kernel) (by simp) (AllReadyH.cons rfl (fun K hK => ?_) AllReadyH.nil)
        go_simp
        have HW7 := Lib.hid (HPY.out _ HW6.out)
        refine hK.out _ _ ⟨HW7.out.far, HW7.out.own⟩ (fun hS => ?_)
        clear hK K hst
        (try simp only [Act.put])
        refine wpAnyH_done (by kernel_rfl) ?_ _
        generalize World.setCells _ h (k * 32) (y.map bv) = WHW7 at *
        clear hS
        clear HW4 HW5 HW6 hw9
        go_wp2
        go_roundw
        case rel => exact ⟨k + 1, hlt, by go_num, HW7⟩
        case measure => simp [intOf]; omega
      · obtain rfl : k = 32 := by omega
        have HI := Lib.hid (SgW.is (X := X) (Y := Y) (by rw [HX.out, HY.out]; exact HW.out))
        have HLO := Lib.hid (once_list g h 32 32)
        have HSO := Lib.hid (once_size g h 32 32)
        have HO2 := Lib.hid (HO.out.below HW.out.far HO.out.lt)
        have hno : a ≠ w.heap.size + 1 + 1 := by
          have h1 := HW.out.ha
          have h2 := HZ.out
          omega
        go_wp2_with (first
          | ((with_reducible show wpList _ _ _ ((⟨some 40, _, _, _, _, _⟩ : Oper) :: _) _ _); refine wpList_load_mid rfl 65 (.tmp 7) rfl a 0 rfl (onceV g h 32 32).toList _ (Box.range HW.out.own) Tryz.underlying65 rfl HLO.out ?_)
          | (((with_reducible show wpList _ _ _ ((⟨none, Op.store _ (.tmp 6) (.tmp 40), _, _, _, _⟩ : Oper) :: _) _ _)); refine wpList_store_box rfl 65 (.tmp 6) (.tmp 40) rfl (w.heap.size + 1 + 1) (onceV g h 32 32) rfl rfl 65 #[.slice none 0 0, .slice none 0 0] HO2.out rfl HSO.out (once_one g h 32 32) ?_; intro w7 hb7 hg7))
        have hg9 : Below w1.heap.size w1 wr := HW.out.far
        have hgn : g ≠ w.heap.size + 1 + 1 := by
          have h1 := HW.out.hg
          have h2 := HZ.out
          omega
        have hhn : h ≠ w.heap.size + 1 + 1 := by
          have h1 := HW.out.hh
          have h2 := HZ.out
          omega
        refine bodyPost_ret (v := .agg (onceV g h 32 32)) (results_cell_row rfl _ w7 (w.heap.size + 1 + 1) 65 (onceV g h 32 32) (0, 0) _ rfl hb7 Tryz.underlying65 rfl HSO.out) rfl ?_
        exact ⟨g, h, rfl, HI.out.1.grown hg7 (fun e => hgn (by injection e)), HI.out.2.grown hg7 (fun e => hhn (by injection e)), by have h1 := HW.out.hg; have h2 := HZ.out; omega, by have h1 := HW.out.hh; have h2 := HZ.out; omega, HW.out.ne, (HF.out.trans (hg9.mono HF.out.size)).trans (below_only hg7 (by omega) (HF.out.trans (hg9.mono HF.out.size)).size)⟩
end Go.Proofs.YtejnfgcnifcpaaaGreatDoor
