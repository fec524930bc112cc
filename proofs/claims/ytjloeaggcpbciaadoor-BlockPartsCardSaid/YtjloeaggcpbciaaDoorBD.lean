/-
  Whether a block may stand somewhere: block.Follows.
  What the laws ask first: wapentakelaw12.alive.
-/
import Derived.Test.YtjloeaggcpbciaaDoorBA
import Derived.Test.YtjloeaggcpbciaaDoorBB
namespace Go.Proofs.YtjloeaggcpbciaaDoor
open Go.RowKit

attribute [local go_sem ↓] ldReq_def stReq_def ldBlk_def stBlk_def ldDigest_def stDigest_def eqDigest_def

def folB (x : BlkX) (e h : Int) (p s : List UInt8) : Bool := blkGood x && (decide (x.epoch = e) && (decide (x.height = h) && (decide (x.prev = p) && decide (x.state = s))))
set_option maxRecDepth 100000 in
theorem folB_self (x : BlkX) : folB x x.epoch x.height x.prev x.state = blkGood x := by unfold folB; simp

set_option maxRecDepth 100000 in
set_option maxHeartbeats 4000000 in
theorem follows_any12 (b : BlkM) (hn : b.x.reqs.length ≤ maxLen) (e h : Int) (p s : List UInt8) (hp : p.length = 32) (hs : s.length = 32) (w : World) (hS : QSee w w.heap.size b.A b.x.reqs) :
    Calls Tryd.prog 11 #[.agg b.cells.toArray, .int .i64 e, .int .i64 h, .agg (p.map bv).toArray, .agg (s.map bv).toArray] w fun e' w' => e' = .returned (.bool (folB b.x e h p s)) ∧ Below w.heap.size w w' := by
  obtain ⟨w1, hw1⟩ : ∃ w1, w1 = ((w.alloc (.cells b.cells.toArray 26)).alloc (.cells (p.map bv).toArray 23)).alloc (.cells (s.map bv).toArray 23) := ⟨_, rfl⟩
  have HX : Hid (Box w1 w.heap.size 26 b.cells.toArray) := by rw [hw1]; exact ((Box.made w _ _).alloc _).alloc _
  have HP : Hid (Box w1 (w.heap.size + 1) 23 (p.map bv).toArray) := by rw [hw1]; exact (Box.made_at (by simp) _ _).alloc _
  have HQ : Hid (Box w1 (w.heap.size + 1 + 1) 23 (s.map bv).toArray) := by rw [hw1]; exact Box.made_at (by simp) _ _
  have HF : Hid (Below w.heap.size w w1) := by rw [hw1]; exact (((Below.refl _ _).alloc (Nat.le_refl _) _).alloc (by simp) _).alloc (by simp; omega) _
  have HG := Lib.hid (good_any12 b hn w1 (hS.far HF.out))
  have lb := HX.out.ld_blk
  have HC : Hid (∀ w', Below w1.heap.size w1 w' → w'.cell? ⟨w.heap.size, 0, none⟩ = some (.int .i64 b.x.epoch) ∧ w'.cell? ⟨w.heap.size, 1, none⟩ = some (.int .i64 b.x.height) ∧ (ldDigest (.pointer (some ⟨w.heap.size, 2, none⟩))).run Tryd.prog w' = .ok (.agg (b.x.prev.map bv).toArray) w' ∧ (ldDigest (.pointer (some ⟨w.heap.size, 34, none⟩))).run Tryd.prog w' = .ok (.agg (b.x.state.map bv).toArray) w' ∧
      (ldDigest (.pointer (some ⟨w.heap.size + 1, 0, none⟩))).run Tryd.prog w' = .ok (.agg (p.map bv).toArray) w' ∧ (ldDigest (.pointer (some ⟨w.heap.size + 1 + 1, 0, none⟩))).run Tryd.prog w' = .ok (.agg (s.map bv).toArray) w') := Lib.hid (fun w' hb => by
    have hx := HX.out.below hb HX.out.lt
    exact ⟨hx.bk_0, hx.bk_1, range_load hx.bk_prev b.x.lp, range_load (hx.bk_state b.x.lp) b.x.ls, (HP.out.below hb HP.out.lt).load_digest hp, (HQ.out.below hb HQ.out.lt).load_digest hs⟩)
  have ep := eq_digest b.x.prev p b.x.lp hp
  have es := eq_digest b.x.state s b.x.ls hs
  have HE : Hid (folB b.x e h p s = (blkGood b.x && (decide (b.x.epoch = e) && (decide (b.x.height = h) && (decide (b.x.prev = p) && decide (b.x.state = s)))))) := Lib.hid rfl
  clear HX HP HQ hS hn hp hs
  generalize folB b.x e h p s = r at *
  generalize b.cells.toArray = cs at *
  generalize (b.x.prev.map bv).toArray = P1 at *
  generalize (b.x.state.map bv).toArray = P2 at *
  generalize (p.map bv).toArray = Q1 at *
  generalize (s.map bv).toArray = Q2 at *
  generalize decide (b.x.prev = p) = dp at *
  generalize decide (b.x.state = s) = ds at *
  generalize blkGood b.x = gd at *
  generalize b.x.epoch = n0 at *
  generalize b.x.height = n1 at *
  rcases gd with _ | _
  · have HR : Hid (r = false) := Lib.hid (by rw [HE.out]; rfl)
    clear HE
    go_enter Tryd.func11, Tryd.ntmps11
    go_upto_region 1 with fail
    change Code.wp _ _ _ _ (((w.alloc (.cells cs 26)).alloc (.cells Q1 23)).alloc (.cells Q2 23))
    rw [← hw1]
    clear hw1
    go_wp2_with (go_at_call 10; (with_reducible refine (HG.out).mono ?_); rintro e w2 ⟨rfl, hb⟩; have HB2 := Lib.hid (HF.out.trans (hb.mono HF.out.size)); obtain ⟨c0, c1, l1, l2, l3, l4⟩ := HC.out w2 hb; clear hb)
    go_ret
    exact ⟨ret_val (congrArg Value.bool HR.out.symm), HB2.out⟩
  by_cases g0 : n0 = e
  rotate_left
  · have HR : Hid (r = false) := Lib.hid (by rw [HE.out, decide_eq_false g0]; rfl)
    have m0 : (n0 == e) = false := by simpa using g0
    clear HE g0
    go_enter Tryd.func11, Tryd.ntmps11
    go_upto_region 1 with fail
    change Code.wp _ _ _ _ (((w.alloc (.cells cs 26)).alloc (.cells Q1 23)).alloc (.cells Q2 23))
    rw [← hw1]
    clear hw1
    go_wp2_with (go_at_call 10; (with_reducible refine (HG.out).mono ?_); rintro e w2 ⟨rfl, hb⟩; have HB2 := Lib.hid (HF.out.trans (hb.mono HF.out.size)); obtain ⟨c0, c1, l1, l2, l3, l4⟩ := HC.out w2 hb; clear hb)
    go_ret
    exact ⟨ret_val (congrArg Value.bool HR.out.symm), HB2.out⟩
  subst g0
  have m0 : (n0 == n0) = true := by simp
  by_cases g1 : n1 = h
  rotate_left
  · have HR : Hid (r = false) := Lib.hid (by rw [HE.out, decide_eq_false g1]; simp)
    have m1 : (n1 == h) = false := by simpa using g1
    clear HE g1
    go_enter Tryd.func11, Tryd.ntmps11
    go_upto_region 1 with fail
    change Code.wp _ _ _ _ (((w.alloc (.cells cs 26)).alloc (.cells Q1 23)).alloc (.cells Q2 23))
    rw [← hw1]
    clear hw1
    go_wp2_with (go_at_call 10; (with_reducible refine (HG.out).mono ?_); rintro e w2 ⟨rfl, hb⟩; have HB2 := Lib.hid (HF.out.trans (hb.mono HF.out.size)); obtain ⟨c0, c1, l1, l2, l3, l4⟩ := HC.out w2 hb; clear hb)
    go_ret
    exact ⟨ret_val (congrArg Value.bool HR.out.symm), HB2.out⟩
  subst g1
  have m1 : (n1 == n1) = true := by simp
  rcases dp with _ | _
  · have HR : Hid (r = false) := Lib.hid (by rw [HE.out]; simp)
    clear HE
    go_enter Tryd.func11, Tryd.ntmps11
    go_upto_region 1 with fail
    change Code.wp _ _ _ _ (((w.alloc (.cells cs 26)).alloc (.cells Q1 23)).alloc (.cells Q2 23))
    rw [← hw1]
    clear hw1
    go_wp2_with (go_at_call 10; (with_reducible refine (HG.out).mono ?_); rintro e w2 ⟨rfl, hb⟩; have HB2 := Lib.hid (HF.out.trans (hb.mono HF.out.size)); obtain ⟨c0, c1, l1, l2, l3, l4⟩ := HC.out w2 hb; clear hb)
    go_ret
    exact ⟨ret_val (congrArg Value.bool HR.out.symm), HB2.out⟩
  have HR : Hid (r = ds) := Lib.hid (by rw [HE.out]; simp)
  clear HE
  go_enter Tryd.func11, Tryd.ntmps11
  go_upto_region 1 with fail
  change Code.wp _ _ _ _ (((w.alloc (.cells cs 26)).alloc (.cells Q1 23)).alloc (.cells Q2 23))
  rw [← hw1]
  clear hw1
  go_wp2_with (go_at_call 10; (with_reducible refine (HG.out).mono ?_); rintro e w2 ⟨rfl, hb⟩; have HB2 := Lib.hid (HF.out.trans (hb.mono HF.out.size)); obtain ⟨c0, c1, l1, l2, l3, l4⟩ := HC.out w2 hb; clear hb)
  go_ret
  exact ⟨ret_val (congrArg Value.bool HR.out.symm), HB2.out⟩
end Go.Proofs.YtjloeaggcpbciaaDoor

namespace Go.Proofs.YtjloeaggcpbciaaDoor
open Go.RowKit

def aliX : BlkX := ⟨0, 1, zeros, zeros, zeros, [], zeros_len12, zeros_len12, zeros_len12⟩
def aliM : BlkM := ⟨aliX, none, 0⟩
set_option maxRecDepth 100000 in
theorem aliX_good : blkGood aliX = true := by decide
set_option maxRecDepth 100000 in
theorem aliX_len : (blkB aliX).length = 120 := by
  unfold blkB
  simp only [List.length_append, numBytes_len]
  rfl
set_option maxRecDepth 100000 in
theorem aliX_fol : folB aliX 0 1 zeros zeros = true := by decide
set_option maxRecDepth 100000 in
theorem bd_ali (w : World) : (bdBlk #[(1, .int .i64 1)]).run Tryd.prog w = .ok (.agg aliM.cells.toArray) w := run_build w _ _ _ (by kernel_rfl)
noncomputable def bdDig12 (parts : Array (Nat × Value)) : Sem Value := Instr.build 23 parts
set_option maxRecDepth 100000 in
theorem bdDig12_def (parts : Array (Nat × Value)) : Instr.build 23 parts = bdDig12 parts := rfl
set_option maxRecDepth 100000 in
theorem bd_zdig (w : World) : (bdDig12 #[]).run Tryd.prog w = .ok (.agg (zeros.map bv).toArray) w := run_build w _ _ _ (by kernel_rfl)

attribute [local go_sem ↓] ldReq_def stReq_def ldBlk_def stBlk_def bdBlk_def ldDigest_def stDigest_def bdDig12_def

set_option maxRecDepth 100000 in
set_option maxHeartbeats 2000000 in
theorem alive_any12 (w : World) : Calls Tryd.prog 4 #[] w fun e w' => e = .returned (.bool true) ∧ Below w.heap.size w w' := by
  have hbd := bd_ali w
  have hzv := zero_blk w
  obtain ⟨w1, hst, hb1, hf1⟩ := laid_blk w aliM
  have HB1 := Lib.hid hb1
  have HF1 := Lib.hid hf1
  have l1 := hb1.ld_blk
  have HW2 : Hid (Wr (w1.alloc (.cells #[.slice none 0 0] 32)) w1.heap.size w1.heap.size []) := wr_new (Box.made _ _ _) (Nat.le_refl _)
  have HF2 : Hid (Below w.heap.size w (w1.alloc (.cells #[.slice none 0 0] 32))) := HF1.out.alloc HF1.out.size _
  have HL : Hid (∀ w', Below w1.heap.size w1 w' → (ldBlk (.pointer (some ⟨w.heap.size, 0, none⟩))).run Tryd.prog w' = .ok (.agg aliM.cells.toArray) w') := Lib.hid (fun w' hb => (HB1.out.below hb HB1.out.lt).ld_blk)
  have HX2 : Hid (Below w1.heap.size w1 (w1.alloc (.cells #[.slice none 0 0] 32))) := (Below.refl _ _).alloc (Nat.le_refl _) _
  have l2 := HL.out _ HX2.out
  have HWR := Lib.hid (write_any12 w1.heap.size w1.heap.size [] aliM _ HW2.out (.inl rfl) (by simp) ⟨by simp [aliM, aliX], fun q hq => by cases hq⟩)
  have HGD : Hid (∀ w', Calls Tryd.prog 10 #[.agg aliM.cells.toArray] w' fun e w'' => e = .returned (.bool true) ∧ Below w'.heap.size w' w'') := Lib.hid (fun w' => by
    have h := good_any12 aliM (by simp [aliM, aliX]) w' (.inl rfl)
    rw [show blkGood aliM.x = true from aliX_good] at h
    exact h)
  have HBY : Hid (∀ w', Wr w' w1.heap.size w1.heap.size ([] ++ blkB aliM.x) → Calls Tryd.prog 8 #[.pointer (some ⟨w1.heap.size, 0, none⟩)] w' (fun e w'' => ∃ A c, e = .returned (.slice A 120 c) ∧ Below w'.heap.size w' w'')) := Lib.hid (fun w' hw => (bytes_any w1.heap.size w1.heap.size (blkB aliX) w' hw (by rw [aliX_len]; decide)).mono fun e w'' ⟨A, c, he, _, _, _, hb⟩ => ⟨A, c, by rw [he, aliX_len], hb⟩)
  have HFO : Hid (∀ w', Calls Tryd.prog 11 #[.agg aliM.cells.toArray, .int .i64 0, .int .i64 1, .agg (zeros.map bv).toArray, .agg (zeros.map bv).toArray] w' fun e w'' => e = .returned (.bool true) ∧ Below w'.heap.size w' w'') := Lib.hid (fun w' => by
    have h := follows_any12 aliM (by simp [aliM, aliX]) 0 1 zeros zeros zeros_len12 zeros_len12 w' (.inl rfl)
    rw [show folB aliM.x 0 1 zeros zeros = true from aliX_fol] at h
    exact h)
  have hzd := bd_zdig
  clear hb1 hf1 HB1
  generalize [] ++ blkB aliM.x = bb at *
  generalize aliM.cells.toArray = ca at *
  generalize (zeros.map bv).toArray = zd at *
  go_enter Tryd.func4, Tryd.ntmps4
  go_upto_region 3 with fail
  clear hbd hst hzv l1
  go_upto_region 4 with (go_at_call 6; (with_reducible refine (HWR.out).mono ?_); rintro e w3 ⟨rfl, hw, hf⟩; have HW3 := Lib.hid hw; have HX3 := Lib.hid (HX2.out.trans (hf.below HW2.out)); have HF3 := Lib.hid (HF1.out.trans (HX3.out.mono HF1.out.size)); have l3 := HL.out _ HX3.out; clear hw hf)
  clear HW2 HF2 HWR HX2 l2
  go_wp2_with (first
    | (go_at_call 10; (with_reducible refine (HGD.out _).mono ?_); rintro e w5 ⟨rfl, hb⟩; have HW5 := Lib.hid (HW3.out.below_size hb); have HX5 := Lib.hid (HX3.out.trans (hb.mono HX3.out.size)); clear hb)
    | (go_at_call 8; (with_reducible refine (HBY.out _ HW5.out).mono ?_); rintro e w6 ⟨A6, c6, rfl, hb⟩; have HX6 := Lib.hid (HX5.out.trans (hb.mono HX5.out.size)); have l6 := HL.out _ HX6.out; clear hb)
    | (go_at_call 11; (with_reducible refine (HFO.out _).mono ?_); rintro e w7 ⟨rfl, hb⟩; have HX7 := Lib.hid (HX6.out.trans (hb.mono HX6.out.size)); clear hb))
  go_ret
  exact ⟨rfl, HF1.out.trans (HX7.out.mono HF1.out.size)⟩
end Go.Proofs.YtjloeaggcpbciaaDoor
