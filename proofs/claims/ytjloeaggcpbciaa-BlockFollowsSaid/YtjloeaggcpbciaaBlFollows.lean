/-
  BlockFollows: the walk.
-/
import Derived.Test.YtjloeaggcpbciaaBD
import Derived.Test.YtjloeaggcpbciaaBB
import Derived.BigQuiet
namespace Go.Proofs.Ytjloeaggcpbciaa
open Go.RowKit Go.Sort

attribute [local go_sem ↓] ldReq_def stReq_def ldBlk_def stBlk_def ldDigest_def stDigest_def eqDigest_def

set_option maxRecDepth 100000 in
set_option maxHeartbeats 4000000 in
theorem follows_walk (b : BlkM) (hn : b.x.reqs.length ≤ 140737488351232) (hq : ∀ q ∈ b.x.reqs, q.key.size ≤ 140737488351232 ∧ q.val.size ≤ 140737488351232 ∧ q.old.size ≤ 140737488351232) (e h : Int) (p s : List UInt8) (hp : p.length = 32) (hs : s.length = 32) (w : World) (hS : QSee w w.heap.size b.A b.x.reqs) :
    Calls Try.prog 4 #[.agg b.cells.toArray, .int .i64 e, .int .i64 h, .agg (p.map bv).toArray, .agg (s.map bv).toArray] w fun e' w' => e' = .returned (.bool true) ∧ Below w.heap.size w w' := by
  obtain ⟨w1, hw1⟩ : ∃ w1, w1 = ((w.alloc (.cells b.cells.toArray 26)).alloc (.cells (p.map bv).toArray 23)).alloc (.cells (s.map bv).toArray 23) := ⟨_, rfl⟩
  have HX : Hid (Box w1 w.heap.size 26 b.cells.toArray) := by rw [hw1]; exact ((Box.made w _ _).alloc _).alloc _
  have HP : Hid (Box w1 (w.heap.size + 1) 23 (p.map bv).toArray) := by rw [hw1]; exact (Box.made_at (by simp) _ _).alloc _
  have HQ : Hid (Box w1 (w.heap.size + 1 + 1) 23 (s.map bv).toArray) := by rw [hw1]; exact Box.made_at (by simp) _ _
  have HF : Hid (Below w.heap.size w w1) := by rw [hw1]; exact (((Below.refl _ _).alloc (Nat.le_refl _) _).alloc (by simp) _).alloc (by simp; omega) _
  have HS := Lib.hid (hS.far HF.out)
  have HAL := Lib.hid (alive_any12 w1)
  have hn2 : b.x.reqs.length ≤ maxLen := Nat.le_trans hn (by simp [maxLen])
  have HGR : Hid (∀ w', Below w1.heap.size w1 w' → Calls Try.prog 7 #[.agg b.cells.toArray, .int .i64 8192] w' fun e w'' => ∃ g, e = .returned (.bool g) ∧ Below w'.heap.size w' w'') := Lib.hid (fun w' hb => (great_any12 b hn hq w' (HS.out.far hb)).mono fun e w'' ⟨g, he, _, hb⟩ => ⟨g, he, hb⟩)
  have HRG : Hid (∀ w', Below w1.heap.size w1 w' → Calls Try.prog 18 #[.agg b.cells.toArray] w' fun e w'' => e = .returned (.bool (blkGood b.x)) ∧ Below w'.heap.size w' w'') := Lib.hid (fun w' hb => rgood_any12 b w' (HS.out.far hb))
  have HFA : Hid (∀ w', Below w1.heap.size w1 w' → Calls Try.prog 19 #[.agg b.cells.toArray, .int .i64 e, .int .i64 h, .agg (p.map bv).toArray, .agg (s.map bv).toArray] w' fun e w'' => e = .returned (.bool (folB b.x _ h p s)) ∧ Below w'.heap.size w' w'') := Lib.hid (fun w' hb => follows_any12 b hn2 e h p s hp hs w' (HS.out.far hb))
  have HFB : Hid (∀ w', Below w1.heap.size w1 w' → Calls Try.prog 19 #[.agg b.cells.toArray, .int .i64 b.x.epoch, .int .i64 b.x.height, .agg (b.x.prev.map bv).toArray, .agg (b.x.state.map bv).toArray] w' fun e w'' => e = .returned (.bool (blkGood b.x)) ∧ Below w'.heap.size w' w'') := Lib.hid (fun w' hb => by
    have h := follows_any12 b hn2 b.x.epoch b.x.height b.x.prev b.x.state b.x.lp b.x.ls w' (HS.out.far hb)
    rw [folB_self] at h
    exact h)
  have HC : Hid (∀ w', Below w1.heap.size w1 w' → (ldBlk (.pointer (some ⟨w.heap.size, 0, none⟩))).run Try.prog w' = .ok (.agg b.cells.toArray) w' ∧ w'.cell? ⟨w.heap.size, 0, none⟩ = some (.int .i64 b.x.epoch) ∧ w'.cell? ⟨w.heap.size, 1, none⟩ = some (.int .i64 b.x.height) ∧ (ldDigest (.pointer (some ⟨w.heap.size, 2, none⟩))).run Try.prog w' = .ok (.agg (b.x.prev.map bv).toArray) w' ∧ (ldDigest (.pointer (some ⟨w.heap.size, 34, none⟩))).run Try.prog w' = .ok (.agg (b.x.state.map bv).toArray) w' ∧
      (ldDigest (.pointer (some ⟨w.heap.size + 1, 0, none⟩))).run Try.prog w' = .ok (.agg (p.map bv).toArray) w' ∧ (ldDigest (.pointer (some ⟨w.heap.size + 1 + 1, 0, none⟩))).run Try.prog w' = .ok (.agg (s.map bv).toArray) w') := Lib.hid (fun w' hb => by
    have hx := HX.out.below hb HX.out.lt
    exact ⟨hx.ld_blk, hx.bk_0, hx.bk_1, range_load hx.bk_prev b.x.lp, range_load (hx.bk_state b.x.lp) b.x.ls, (HP.out.below hb HP.out.lt).load_digest hp, (HQ.out.below hb HQ.out.lt).load_digest hs⟩)
  have ep := eq_digest b.x.prev p b.x.lp hp
  have es := eq_digest b.x.state s b.x.ls hs
  have HE : Hid (folB b.x e h p s = (blkGood b.x && (decide (b.x.epoch = e) && (decide (b.x.height = h) && (decide (b.x.prev = p) && decide (b.x.state = s)))))) := Lib.hid rfl
  clear HX HP HQ hS hn hn2 hp hs hq
  generalize folB b.x e h p s = r at *
  generalize b.cells.toArray = cs at *
  generalize (b.x.prev.map bv).toArray = P1 at *
  generalize (b.x.state.map bv).toArray = P2 at *
  generalize (p.map bv).toArray = Q1 at *
  generalize (s.map bv).toArray = Q2 at *
  generalize decide (b.x.prev = p) = dp at *
  generalize decide (b.x.state = s) = ds at *
  generalize blkGood b.x = gd at *
  generalize b.x.epoch = n0 at *
  generalize b.x.height = n1 at *
  obtain ⟨lb0, _⟩ := HC.out w1 (Below.refl _ _)
  go_enter Try.func4, Try.ntmps4
  go_upto_region 1 with fail
  change Code.wp _ _ _ _ (((w.alloc (.cells cs 26)).alloc (.cells Q1 23)).alloc (.cells Q2 23))
  rw [← hw1]
  clear hw1
  go_upto_region 3 with (go_at_call 6; (with_reducible refine (HAL.out).mono ?_); rintro e w2 ⟨rfl, hb⟩; have HB2 := Lib.hid hb; have lb2 := (HC.out w2 hb).1; clear hb)
  clear lb0 HAL
  go_upto_region 5 with (go_at_call 7; (with_reducible refine (HGR.out _ HB2.out).mono ?_); rintro e w3 ⟨g, rfl, hb⟩; have HB3 := Lib.hid (HB2.out.trans (hb.mono HB2.out.size)); have lb3 := (HC.out w3 HB3.out).1; clear hb; cases g)
  all_goals (try (go_ret; exact ⟨rfl, HF.out.trans (HB3.out.mono HF.out.size)⟩))
  clear lb2 HGR HB2
  go_cut [11, 16, 17, 18, 19, 20, 21, 22, 23, 24, 25, 26, 27, 28, 29, 30, 31, 32, 33, 34, 35, 36, 37, 38, 39, 40, 41] (fun x _ _ _ _ _ _ _ _ _ _ _ _ _ _ _ _ _ _ _ _ _ _ _ _ _ _ wx => x = .bool r ∧ Hid (Below w1.heap.size w1 wx))
  case first =>
    rcases gd with _ | _
    · have HR : Hid (r = false) := Lib.hid (by rw [HE.out]; rfl)
      clear HE HFA HFB
      go_upto_region 6 with (go_at_call 18; (with_reducible refine (HRG.out _ HB3.out).mono ?_); rintro e w4 ⟨rfl, hb⟩; have HB4 := Lib.hid (HB3.out.trans (hb.mono HB3.out.size)); obtain ⟨_, c0, c1, l1, l2, l3, l4⟩ := HC.out w4 HB4.out; clear hb)
      go_meet
      exact ⟨by rw [HR.out], HB4⟩
    by_cases g0 : n0 = e
    rotate_left
    · have HR : Hid (r = false) := Lib.hid (by rw [HE.out, decide_eq_false g0]; rfl)
      have m0 : (n0 == e) = false := by simpa using g0
      clear HE g0 HFA HFB
      go_upto_region 6 with (go_at_call 18; (with_reducible refine (HRG.out _ HB3.out).mono ?_); rintro e w4 ⟨rfl, hb⟩; have HB4 := Lib.hid (HB3.out.trans (hb.mono HB3.out.size)); obtain ⟨_, c0, c1, l1, l2, l3, l4⟩ := HC.out w4 HB4.out; clear hb)
      go_meet
      exact ⟨by rw [HR.out], HB4⟩
    subst g0
    have m0 : (n0 == n0) = true := by simp
    by_cases g1 : n1 = h
    rotate_left
    · have HR : Hid (r = false) := Lib.hid (by rw [HE.out, decide_eq_false g1]; simp)
      have m1 : (n1 == h) = false := by simpa using g1
      clear HE g1 HFA HFB
      go_upto_region 6 with (go_at_call 18; (with_reducible refine (HRG.out _ HB3.out).mono ?_); rintro e w4 ⟨rfl, hb⟩; have HB4 := Lib.hid (HB3.out.trans (hb.mono HB3.out.size)); obtain ⟨_, c0, c1, l1, l2, l3, l4⟩ := HC.out w4 HB4.out; clear hb)
      go_meet
      exact ⟨by rw [HR.out], HB4⟩
    subst g1
    have m1 : (n1 == n1) = true := by simp
    rcases dp with _ | _
    · have HR : Hid (r = false) := Lib.hid (by rw [HE.out]; simp)
      clear HE HFA HFB
      go_upto_region 6 with (go_at_call 18; (with_reducible refine (HRG.out _ HB3.out).mono ?_); rintro e w4 ⟨rfl, hb⟩; have HB4 := Lib.hid (HB3.out.trans (hb.mono HB3.out.size)); obtain ⟨_, c0, c1, l1, l2, l3, l4⟩ := HC.out w4 HB4.out; clear hb)
      go_meet
      exact ⟨by rw [HR.out], HB4⟩
    have HR : Hid (r = ds) := Lib.hid (by rw [HE.out]; simp)
    clear HE HFA HFB
    go_upto_region 6 with (go_at_call 18; (with_reducible refine (HRG.out _ HB3.out).mono ?_); rintro e w4 ⟨rfl, hb⟩; have HB4 := Lib.hid (HB3.out.trans (hb.mono HB3.out.size)); obtain ⟨_, c0, c1, l1, l2, l3, l4⟩ := HC.out w4 HB4.out; clear hb)
    go_meet
    exact ⟨by rw [HR.out], HB4⟩
  case rest =>
    obtain ⟨rfl, HBC⟩ := hcut
    clear HB3 lb3 ep es HE
    have Q1' : ∀ d os, (ldBlk (.pointer (some ⟨w.heap.size, 0, none⟩))).run Try.prog (grow (redrawn wc d) os) = .ok (.agg cs) (grow (redrawn wc d) os) := fun d os => (HC.out _ (HBC.out.trans ((below_regrown wc d os).mono HBC.out.size))).1
    have Q2' : ∀ d os, (grow (redrawn wc d) os).cell? ⟨w.heap.size, 0, none⟩ = some (.int .i64 n0) := fun d os => (HC.out _ (HBC.out.trans ((below_regrown wc d os).mono HBC.out.size))).2.1
    have Q3' : ∀ d os, (grow (redrawn wc d) os).cell? ⟨w.heap.size, 1, none⟩ = some (.int .i64 n1) := fun d os => (HC.out _ (HBC.out.trans ((below_regrown wc d os).mono HBC.out.size))).2.2.1
    have Q4' : ∀ d os, (ldDigest (.pointer (some ⟨w.heap.size, 2, none⟩))).run Try.prog (grow (redrawn wc d) os) = .ok (.agg P1) (grow (redrawn wc d) os) := fun d os => (HC.out _ (HBC.out.trans ((below_regrown wc d os).mono HBC.out.size))).2.2.2.1
    have Q5' : ∀ d os, (ldDigest (.pointer (some ⟨w.heap.size, 34, none⟩))).run Try.prog (grow (redrawn wc d) os) = .ok (.agg P2) (grow (redrawn wc d) os) := fun d os => (HC.out _ (HBC.out.trans ((below_regrown wc d os).mono HBC.out.size))).2.2.2.2.1
    have Q6' : ∀ d os, (ldDigest (.pointer (some ⟨w.heap.size + 1, 0, none⟩))).run Try.prog (grow (redrawn wc d) os) = .ok (.agg Q1) (grow (redrawn wc d) os) := fun d os => (HC.out _ (HBC.out.trans ((below_regrown wc d os).mono HBC.out.size))).2.2.2.2.2.1
    have Q7' : ∀ d os, (ldDigest (.pointer (some ⟨w.heap.size + 1 + 1, 0, none⟩))).run Try.prog (grow (redrawn wc d) os) = .ok (.agg Q2) (grow (redrawn wc d) os) := fun d os => (HC.out _ (HBC.out.trans ((below_regrown wc d os).mono HBC.out.size))).2.2.2.2.2.2
    have K1 : Hid (∀ d os, Calls Try.prog 19 #[.agg cs, .int .i64 e, .int .i64 h, .agg Q1, .agg Q2] (grow (redrawn wc d) os) fun e w'' => e = .returned (.bool r) ∧ ∃ p : Regrown, w'' = grow (redrawn wc p.d) p.os) := Lib.hid (fun d os => Calls.regrown_of (HFA.out _ (HBC.out.trans ((below_regrown wc d os).mono HBC.out.size))))
    have K2 : Hid (∀ d os, Calls Try.prog 19 #[.agg cs, .int .i64 n0, .int .i64 n1, .agg P1, .agg P2] (grow (redrawn wc d) os) fun e w'' => e = .returned (.bool gd) ∧ ∃ p : Regrown, w'' = grow (redrawn wc p.d) p.os) := Lib.hid (fun d os => Calls.regrown_of (HFB.out _ (HBC.out.trans ((below_regrown wc d os).mono HBC.out.size))))
    have K3 : Hid (∀ d os, Calls Try.prog 18 #[.agg cs] (grow (redrawn wc d) os) fun e w'' => e = .returned (.bool gd) ∧ ∃ p : Regrown, w'' = grow (redrawn wc p.d) p.os) := Lib.hid (fun d os => Calls.regrown_of (HRG.out _ (HBC.out.trans ((below_regrown wc d os).mono HBC.out.size))))
    have b1 : (r == r) = true := by simp
    have b2 : (gd == gd) = true := by simp
    go_upto_region 6 with fail
    refine wp_region_quiet_below (by kernel_rfl) (by kernel_rfl) ?_
    repeat (go_big_quiet_step (first
      | (go_at_call 19; with_reducible exact K1.out _ _)
      | (go_at_call 19; with_reducible exact K2.out _ _)
      | (go_at_call 18; with_reducible exact K3.out _ _)))
    refine wpQuiet_nil ?_
    intro _ hw'
    obtain ⟨⟨dq, osq⟩, hw''⟩ := hw'
    subst hw''
    have HB7 := Lib.hid (HF.out.trans ((HBC.out.trans ((below_regrown wc dq osq).mono HBC.out.size)).mono HF.out.size))
    clear Q1' Q2' Q3' Q4' Q5' Q6' Q7' K1 K2 K3
    generalize grow (redrawn wc dq) osq = w7 at *
    go_wp2
    go_ret
    exact ⟨rfl, HB7.out⟩
end Go.Proofs.Ytjloeaggcpbciaa
