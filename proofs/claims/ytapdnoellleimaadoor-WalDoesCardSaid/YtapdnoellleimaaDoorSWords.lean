/-
  Package sha: the words of a block (sha.words).
-/
import Derived.Test.YtapdnoellleimaaDoorSA
namespace Go.Proofs.YtapdnoellleimaaDoor
open Go.RowKit

set_option maxRecDepth 100000 in
set_option maxHeartbeats 1000000 in
theorem words_any (b : List UInt8) (hb : b.length = 64) (w : World) : Calls Tryd.prog 81 #[.agg (b.map bv).toArray] w fun e w' => e = .returned (.agg (cellsW b 64)) ∧ Below w.heap.size w w' := by
  have hB := Lib.hid hb
  clear hb
  go_enter Tryd.func81, Tryd.ntmps81
  go_wp2
  go_loopw [12] (fun i wr => ∃ k : Nat, k ≤ 16 ∧ i = .int .i64 k ∧ Hid (Box wr w.heap.size 119 (b.map bv).toArray) ∧ Hid (∃ z, Box wr (w.heap.size + 1) 114 z ∧ z.size = 64) ∧ Hid (Box wr (w.heap.size + 1 + 1) 114 (cellsW b k)) ∧ Hid (Below w.heap.size w wr)) (fun i _ => 16 - (intOf i).toNat)
  case atStart =>
    refine ⟨0, by decide, rfl, ?_, ?_, ?_, ?_⟩
    · exact ((Box.made w _ _).alloc _).alloc _
    · exact ⟨_, (Box.made_at (by simp) _ _).alloc _, by decide⟩
    · rw [cellsW_zero]
      exact Box.made_at (by simp) _ _
    · exact (((Below.refl _ _).alloc (Nat.le_refl _) _).alloc (by simp) _).alloc (by simp; omega) _
  case round =>
    obtain ⟨k, hk, rfl, HB, HZ, HW, HF⟩ := hrel
    by_cases hlt : k < 16
    · go_wp2
      refine wp_still_tail 27 (by kernel_rfl) (by kernel_rfl) ?_
      intro w1 hw1
      have HBd : Box w1 w.heap.size 119 (b.map bv).toArray := by rw [hw1]; exact HB.out
      have HWd : Hid (Box w1 (w.heap.size + 1 + 1) 114 (cellsW b k)) := by rw [hw1]; exact HW.out
      have HZd : Hid (∃ z, Box w1 (w.heap.size + 1) 114 z ∧ z.size = 64) := by rw [hw1]; exact HZ.out
      have HFd : Hid (Below w.heap.size w w1) := by rw [hw1]; exact HF.out.drew
      clear hw1 HB HW HZ HF
      simp only [List.take_succ_cons, List.take_zero, List.drop_succ_cons, List.drop_zero]
      have s1 : IntKind.i64.wrap (4 * (k : Int) + 1) = 4 * (k : Int) + 1 := IntWalk.i64_in _ (by omega)
      have s2 : IntKind.i64.wrap (4 * (k : Int) + 2) = 4 * (k : Int) + 2 := IntWalk.i64_in _ (by omega)
      have s3 : IntKind.i64.wrap (4 * (k : Int) + 3) = 4 * (k : Int) + 3 := IntWalk.i64_in _ (by omega)
      have n0 : (4 * (k : Int)).toNat = 4 * k := by omega
      have n1 : (4 * (k : Int) + 1).toNat = 4 * k + 1 := by omega
      have n2 : (4 * (k : Int) + 2).toNat = 4 * k + 2 := by omega
      have n3 : (4 * (k : Int) + 3).toNat = 4 * k + 3 := by omega
      have bk : (k : Int) < 64 := by omega
      have b0 : 0 ≤ 4 * (k : Int) ∧ 4 * (k : Int) < 64 := by omega
      have b1 : 0 ≤ 4 * (k : Int) + 1 ∧ 4 * (k : Int) + 1 < 64 := by omega
      have b2 : 0 ≤ 4 * (k : Int) + 2 ∧ 4 * (k : Int) + 2 < 64 := by omega
      have b3 : 0 ≤ 4 * (k : Int) + 3 ∧ 4 * (k : Int) + 3 < 64 := by omega
      have c0 := oneB HBd (4 * k) (by have := hB.out; omega)
      have c1 := oneB HBd (4 * k + 1) (by have := hB.out; omega)
      have c2 := oneB HBd (4 * k + 2) (by have := hB.out; omega)
      have c3 := oneB HBd (4 * k + 3) (by have := hB.out; omega)
      have f := HWd.out.free k
      obtain ⟨cv, hcv⟩ := cellsW_at b (n := k) (i := k) (by omega) (by omega)
      have cg := HWd.out.cell k
      rw [hcv] at cg
      clear hcv
      have HV := Lib.hid (wd_lo b k hlt)
      generalize b.getD (4 * k) 0 = x0 at *
      generalize b.getD (4 * k + 1) 0 = x1 at *
      generalize b.getD (4 * k + 2) 0 = x2 at *
      generalize b.getD (4 * k + 3) 0 = x3 at *
      have q0 := wrap_u8_u32 x0
      have q1 := wrap_u8_u32 x1
      have q2 := wrap_u8_u32 x2
      have q3 := wrap_u8_u32 x3
      have p0 := put24 x0
      have p1 := put16 x1
      have p2 := put8 x2
      have o1 := or24 x0 x1
      have o2 := or16 x0 x1 x2
      have o3 := or8 x0 x1 x2 x3
      repeat still_step
      refine wpStill_nil ?_
      go_wp2
      go_roundw
      case rel =>
        refine ⟨k + 1, by omega, by go_num, ?_, ?_, ?_, ?_⟩
        · exact HBd.aside (by simp; omega) _
        · obtain ⟨z, hz, hs⟩ := HZd.out
          exact ⟨z, hz.aside (by simp) _, hs⟩
        · have h := HWd.out.put k (.int .u32 (wi (wd b k)))
          rw [cellsW_put b (by omega), HV.out] at h
          exact h
        · exact HFd.out.setCell (by simp; omega) _
      case measure => simp [intOf]; omega
    · obtain rfl : k = 16 := by omega
      rw [show ((16 : Nat) : Int) = 16 from rfl]
      go_wp2
      go_loopw [45] (fun i wr => ∃ k : Nat, k ≤ 48 ∧ i = .int .i64 k ∧ Hid (∃ z, Box wr (w.heap.size + 1) 114 z ∧ z.size = 64) ∧ Hid (Box wr (w.heap.size + 1 + 1) 114 (cellsW b (k + 16))) ∧ Hid (Below w.heap.size w wr)) (fun i _ => 48 - (intOf i).toNat)
      case atStart => exact ⟨0, by decide, rfl, HZ, HW, HF⟩
      case round =>
        rename_i wr0 _
        clear HZ HW HF HB
        obtain ⟨k, hk, rfl, HZ, HW, HF⟩ := hrel
        by_cases hlt : k < 48
        · go_wp2
          have s1 : IntKind.i64.wrap ((k : Int) + 16 - 15) = (k : Int) + 1 := by rw [IntWalk.i64_in _ (by omega)]; omega
          have s2 : IntKind.i64.wrap ((k : Int) + 16 - 2) = (k : Int) + 14 := by rw [IntWalk.i64_in _ (by omega)]; omega
          have n1 : ((k : Int) + 1).toNat = k + 1 := by omega
          have n2 : ((k : Int) + 14).toNat = k + 14 := by omega
          have b1 : 0 ≤ (k : Int) + 1 ∧ (k : Int) + 1 < 64 := by omega
          have b2 : 0 ≤ (k : Int) + 14 ∧ (k : Int) + 14 < 64 := by omega
          have c1 := HW.out.cell (k + 1)
          have c2 := HW.out.cell (k + 14)
          rw [cellsW_get b (by omega)] at c1 c2
          have HV := Lib.hid (wd_hi b k)
          generalize wd b (k + 1) = X at *
          generalize wd b (k + 14) = Y at *
          go_quiet (fail)
          have HZ1 : Hid (∃ z, Box (wr.drewN nq) (w.heap.size + 1) 114 z ∧ z.size = 64) := HZ.out
          have HW1 : Hid (Box (wr.drewN nq) (w.heap.size + 1 + 1) 114 (cellsW b (k + 16))) := HW.out
          have HF1 : Hid (Below w.heap.size w (wr.drewN nq)) := below_drewN HF.out nq
          generalize wr.drewN nq = w1 at *
          clear HZ HW HF s1 s2 n1 n2 b1 b2 c1 c2
          have X1 := Lib.hid (turned_any X 7 (by decide) (by decide) w1)
          have X2 := Lib.hid (turned_any X 18 (by decide) (by decide) w1)
          have Y1 := Lib.hid (turned_any Y 17 (by decide) (by decide) w1)
          have Y2 := Lib.hid (turned_any Y 19 (by decide) (by decide) w1)
          have wx := wi_xor
          have d3 := shr3
          have d10 := shr10
          go_wp2_with fail
          refine (X1.out).mono ?_
          rintro e w' ⟨rfl, rfl⟩
          go_wp2_with fail
          refine (X2.out).mono ?_
          rintro e w' ⟨rfl, rfl⟩
          go_wp2_with fail
          refine (Y1.out).mono ?_
          rintro e w' ⟨rfl, rfl⟩
          go_wp2_with fail
          refine (Y2.out).mono ?_
          rintro e w' ⟨rfl, rfl⟩
          go_wp2
          clear X1 X2 Y1 Y2 wx d3 d10
          refine wp_still_tail 15 (by kernel_rfl) (by kernel_rfl) ?_
          intro w2 hw2
          have HZ2 : Hid (∃ z, Box w2 (w.heap.size + 1) 114 z ∧ z.size = 64) := by rw [hw2]; exact HZ1.out
          have HW2 : Hid (Box w2 (w.heap.size + 1 + 1) 114 (cellsW b (k + 16))) := by rw [hw2]; exact HW1.out
          have HF2 : Hid (Below w.heap.size w w2) := by rw [hw2]; exact HF1.out.drew
          clear hw2 HZ1 HW1 HF1
          simp only [List.take_succ_cons, List.take_zero, List.drop_succ_cons, List.drop_zero]
          have s1 : IntKind.i64.wrap (k : Int) = (k : Int) := IntWalk.i64_in _ (by omega)
          have s2 : IntKind.i64.wrap ((k : Int) + 16 - 7) = (k : Int) + 9 := by rw [IntWalk.i64_in _ (by omega)]; omega
          have n1 : ((k : Int) + 9).toNat = k + 9 := by omega
          have n2 : ((k : Int) + 16).toNat = k + 16 := by omega
          have b0 : 0 ≤ (k : Int) ∧ (k : Int) < 64 := by omega
          have b1 : 0 ≤ (k : Int) + 9 ∧ (k : Int) + 9 < 64 := by omega
          have b2 : 0 ≤ (k : Int) + 16 ∧ (k : Int) + 16 < 64 := by omega
          have c1 := HW2.out.cell k
          have c2 := HW2.out.cell (k + 9)
          rw [cellsW_get b (by omega)] at c1 c2
          obtain ⟨cv, hcv⟩ := cellsW_at b (n := k + 16) (i := k + 16) (by omega) (by omega)
          have cg := HW2.out.cell (k + 16)
          rw [hcv] at cg
          clear hcv
          have f := HW2.out.free (k + 16)
          have wa := wi_addw
          repeat still_step
          try refine wpStill_nil ?_
          go_wp2
          go_roundw
          case rel =>
            refine ⟨k + 1, by omega, by go_num, ?_, ?_, ?_⟩
            · obtain ⟨z, hz, hs⟩ := HZ2.out
              exact ⟨z, hz.aside (by simp) _, hs⟩
            · have h := HW2.out.put (k + 16) (.int .u32 (wi (wd b (k + 16))))
              rw [cellsW_put b (by omega), HV.out] at h
              rw [show k + 1 + 16 = k + 16 + 1 from by omega]
              exact h
            · exact HF2.out.setCell (by simp; omega) _
          case measure => simp [intOf]; omega
        · obtain rfl : k = 48 := by omega
          obtain ⟨z, hz, hzs⟩ := HZ.out
          have HZ1 := Lib.hid hz
          have HZS : Hid ((cellsW b 64).size = z.size) := by
            show _ = _
            rw [cellsW_size b (Nat.le_refl _), hzs]
          have hsz : Hid ((Tryd.prog.info? 114).map (·.size) = some (cellsW b 64).size) := by
            show _ = _
            rw [cellsW_size b (Nat.le_refl _)]
            kernel_rfl
          have hone : Hid (∀ v ∈ (cellsW b 64).toList, v.oneCell' = true) := cellsW_one b 64
          have HW1 : Hid (Box wr (w.heap.size + 1 + 1) 114 (cellsW b 64)) := HW.out
          clear hz hzs HW HZ
          go_upto_region 17 with fail
          go_step
          refine wpList_load_row (o := ⟨some 90, _, _, _, _, _⟩) rfl 114 (.tmp 3) rfl (w.heap.size + 1 + 1) rfl 114 (cellsW b 64) (0, 0) _ HW1.out Tryd.underlying114 rfl hsz.out ?_
          refine wpList_store_box (op := ⟨none, _, _, _, _, _⟩) rfl 114 (.tmp 2) (.tmp 90) rfl (w.heap.size + 1) (cellsW b 64) (by simp [Act.eval, Act.put]) (by simp [Act.eval, Act.put]) 114 z HZ1.out HZS.out hsz.out hone.out ?_
          intro w3 hb3 hg3
          have HB5 := Lib.hid hb3
          have HG5 := Lib.hid hg3
          clear hb3 hg3
          simp only [Act.put]
          go_wp2
          refine bodyPost_ret (v := .agg (cellsW b 64)) (results_cell_row rfl _ w3 (w.heap.size + 1) 114 (cellsW b 64) (0, 0) _ rfl HB5.out Tryd.underlying114 rfl hsz.out) rfl ⟨rfl, ?_⟩
          exact HF.out.trans (below_only HG5.out (by omega) HF.out.size)
end Go.Proofs.YtapdnoellleimaaDoor
