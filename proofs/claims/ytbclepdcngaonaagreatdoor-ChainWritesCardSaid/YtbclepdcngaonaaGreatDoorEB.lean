/-
  Whether a word is right: cert.says, cert.Check.
  Whether what is played is great: wapentakeref12.Great at 4096, wapentakelaw14.great; what is known of what isn't. The first part is XBlGreat's at another bound.
  What the laws of layer 14 ask first: that a word is made and right (wapentakelaw14.alive).
  What is known of a word that is right, on plain lists.
-/
import Derived.Test.YtbclepdcngaonaaGreatDoorEA
import Derived.Test.YtbclepdcngaonaaGreatDoorBB
import Derived.Test.YtbclepdcngaonaaGreatDoorBA
import Derived.Test.YtbclepdcngaonaaGreatDoorCA
import Derived.BigQuiet
import Derived.Deep.RegionHeld3
import Derived.Test.YtbclepdcngaonaaGreatDoorKD
import Derived.Test.YtbclepdcngaonaaGreatDoorNB
namespace Go.Proofs.YtbclepdcngaonaaGreatDoor
open Go.RowKit Go.Maps Go.Sort

/-! ### On plain lists -/
def says14 (x : VtX) (h r : Int) (d : List UInt8) : Bool := decide (x.kind = 2) && (decide (x.height = h) && (decide (x.round = r) && decide (x.dig = d)))
/-- Is a vote right, whatever memory has it? -/
def rightX14 (ms : List MemX) (ep : Int) (x : VtX) : Bool := vGood x && (decide (x.epoch = ep) && (hasB ms x.frm && goodK (findM ms x.frm).root (voteD x) (findM ms x.frm).high x.leaf x.opn x.sht x.pth))
def ok14 (ms : List MemX) (ep h r : Int) (d : List UInt8) (x : VtX) : Bool := says14 x h r d && rightX14 ms ep x
/-- Is a word right? -/
def certB (ep : Int) (ms : List MemX) (b : BlkX) (r : Int) (xs : List VtX) : Bool := goodB ep ms && (blkGood b && (decide (b.epoch = ep) && (decide (quorumN ms.length ≤ xs.length) && (risB14 xs && xs.all (ok14 ms ep b.height r (blkD b))))))

attribute [local go_sem ↓] ldVt_def stVt_def ldDigest_def stDigest_def eqDigest_def
set_option maxRecDepth 100000 in
set_option maxHeartbeats 4000000 in
theorem says_any14 (m : VtM) (h r : Int) (d : List UInt8) (hd : d.length = 32) (w : World) :
    Calls Tryz.prog 51 #[.agg m.cells.toArray, .int .i64 h, .int .i64 r, .agg (d.map bv).toArray] w fun e' w' => e' = .returned (.bool (says14 m.x h r d)) ∧ Below w.heap.size w w' := by
  obtain ⟨w1, hw1⟩ : ∃ w1, w1 = (w.alloc (.cells m.cells.toArray 74)).alloc (.cells (d.map bv).toArray 29) := ⟨_, rfl⟩
  have hX : Box w1 w.heap.size 74 m.cells.toArray := by rw [hw1]; exact (Box.made w _ _).alloc _
  have hD : Box w1 (w.heap.size + 1) 29 (d.map bv).toArray := by rw [hw1]; exact Box.made_at (by simp) _ _
  have HF : Hid (Below w.heap.size w w1) := by rw [hw1]; exact ((Below.refl _ _).alloc (Nat.le_refl _) _).alloc (by simp) _
  have c0 := hX.vt_0
  have c2 := hX.vt_2
  have c3 := hX.vt_3
  have l1 : (ldDigest (.pointer (some ⟨w.heap.size, 4, none⟩))).run Tryz.prog w1 = .ok (.agg (m.x.dig.map bv).toArray) w1 := range_load hX.vt_dig m.x.len
  have l2 := hD.load_digest hd
  have ed := eq_digest m.x.dig d m.x.len hd
  have HE : Hid (says14 m.x h r d = (decide (m.x.kind = 2) && (decide (m.x.height = h) && (decide (m.x.round = r) && decide (m.x.dig = d))))) := Lib.hid rfl
  clear hX hD hd
  generalize says14 m.x h r d = res at *
  generalize m.cells.toArray = cs at *
  generalize (m.x.dig.map bv).toArray = P1 at *
  generalize (d.map bv).toArray = Q1 at *
  generalize decide (m.x.dig = d) = dd at *
  generalize m.x.kind = n0 at *
  generalize m.x.height = n2 at *
  generalize m.x.round = n3 at *
  by_cases g0 : n0 = 2
  rotate_left
  · have HR : Hid (res = false) := Lib.hid (by rw [HE.out, decide_eq_false g0]; rfl)
    have m0 : (n0 == 2) = false := by simpa using g0
    clear HE g0
    go_enter Tryz.func51, Tryz.ntmps51
    go_upto_region 1 with fail
    change Code.wp _ _ _ _ ((w.alloc (.cells cs 74)).alloc (.cells Q1 29))
    rw [← hw1]
    clear hw1
    go_wp2
    go_ret
    exact ⟨ret_val (congrArg Value.bool HR.out.symm), HF.out⟩
  subst g0
  by_cases g1 : n2 = h
  rotate_left
  · have HR : Hid (res = false) := Lib.hid (by rw [HE.out, decide_eq_false g1]; simp)
    have m1 : (n2 == h) = false := by simpa using g1
    clear HE g1
    go_enter Tryz.func51, Tryz.ntmps51
    go_upto_region 1 with fail
    change Code.wp _ _ _ _ ((w.alloc (.cells cs 74)).alloc (.cells Q1 29))
    rw [← hw1]
    clear hw1
    go_wp2
    go_ret
    exact ⟨ret_val (congrArg Value.bool HR.out.symm), HF.out⟩
  subst g1
  have m1 : (n2 == n2) = true := by simp
  by_cases g2 : n3 = r
  rotate_left
  · have HR : Hid (res = false) := Lib.hid (by rw [HE.out, decide_eq_false g2]; simp)
    have m2 : (n3 == r) = false := by simpa using g2
    clear HE g2
    go_enter Tryz.func51, Tryz.ntmps51
    go_upto_region 1 with fail
    change Code.wp _ _ _ _ ((w.alloc (.cells cs 74)).alloc (.cells Q1 29))
    rw [← hw1]
    clear hw1
    go_wp2
    go_ret
    exact ⟨ret_val (congrArg Value.bool HR.out.symm), HF.out⟩
  subst g2
  have m2 : (n3 == n3) = true := by simp
  have HR : Hid (res = dd) := Lib.hid (by rw [HE.out]; simp)
  clear HE
  go_enter Tryz.func51, Tryz.ntmps51
  go_upto_region 1 with fail
  change Code.wp _ _ _ _ ((w.alloc (.cells cs 74)).alloc (.cells Q1 29))
  rw [← hw1]
  clear hw1
  go_wp2
  go_ret
  exact ⟨ret_val (congrArg Value.bool HR.out.symm), HF.out⟩

attribute [local go_sem ↓] ldCf_def ldBlk_def alDg14_def alVt14_def
set_option maxRecDepth 100000 in
set_option maxHeartbeats 8000000 in
theorem ccheck_any (ms : List MemX) (ep : Int) (AM : Option Addr) (cM : Nat) (hn : ms.length ≤ 1099511627776) (b : BlkM) (hz : Small12 b.x) (r : Int) (vs : List VtM) (A : Option Addr) (c : Nat) (hl : vs.length ≤ 1000000) (w : World) (hM : Mems w w.heap.size AM ms) (hB : QSee w w.heap.size b.A b.x.reqs) (hV : VtK.See w w.heap.size A vs) (hS : ∀ m ∈ vs, SgSee w m.sg) (hR : Roots w) :
    Calls Tryz.prog 25 #[.agg (cfgV ep AM ms.length cM), .agg b.cells.toArray, .agg (crtV r A vs.length c)] w fun e w' => e = .returned (.bool (certB ep ms b.x r (vs.map VtM.x))) ∧ Below w.heap.size w w' := by
  obtain ⟨w1, hw1⟩ : ∃ w1, w1 = ((w.alloc (.cells (cfgV ep AM ms.length cM) 24)).alloc (.cells b.cells.toArray 32)).alloc (.cells (crtV r A vs.length c) 35) := ⟨_, rfl⟩
  have hX : Box w1 w.heap.size 24 (cfgV ep AM ms.length cM) := by rw [hw1]; exact ((Box.made w _ _).alloc _).alloc _
  have hY : Box w1 (w.heap.size + 1) 32 b.cells.toArray := by rw [hw1]; exact (Box.made_at (by simp) _ _).alloc _
  have hZ : Box w1 (w.heap.size + 1 + 1) 35 (crtV r A vs.length c) := by rw [hw1]; exact Box.made_at (by simp) _ _
  have HF : Hid (Below w.heap.size w w1) := by rw [hw1]; exact (((Below.refl _ _).alloc (Nat.le_refl _) _).alloc (by simp) _).alloc (by simp; omega) _
  have HC : Hid (∀ w', Below w1.heap.size w1 w' → (ldCf (.pointer (some ⟨w.heap.size, 0, none⟩))).run Tryz.prog w' = .ok (.agg (cfgV ep AM ms.length cM)) w' ∧ w'.cell? ⟨w.heap.size, 0, none⟩ = some (.int .i64 ep) ∧ (ldBlk (.pointer (some ⟨w.heap.size + 1, 0, none⟩))).run Tryz.prog w' = .ok (.agg b.cells.toArray) w' ∧ w'.cell? ⟨w.heap.size + 1, 0, none⟩ = some (.int .i64 b.x.epoch) ∧ w'.cell? ⟨w.heap.size + 1, 1, none⟩ = some (.int .i64 b.x.height) ∧
      w'.cell? ⟨w.heap.size + 1 + 1, 0, none⟩ = some (.int .i64 r) ∧ w'.cell? ⟨w.heap.size + 1 + 1, 1, none⟩ = some (.slice A vs.length c)) := Lib.hid (fun w' hb => by
    have hx := hX.below hb hX.lt
    have hy := hY.below hb hY.lt
    have hz := hZ.below hb hZ.lt
    exact ⟨hx.l_cf, hx.cell 0, hy.ld_blk, hy.bk_0, hy.bk_1, hz.cell 0, hz.cell 1⟩)
  have hn2 : ms.length ≤ maxLen := Nat.le_trans hn (by simp [maxLen])
  have HM1 := Lib.hid (hM.far HF.out)
  have HB1 := Lib.hid (hB.far HF.out)
  have HV1 := Lib.hid (EK.See.far hV HF.out)
  have HR1 := Lib.hid (hR.of_below HF.out)
  have HGC : Hid (∀ w', Below w1.heap.size w1 w' → Calls Tryz.prog 24 #[.agg (cfgV ep AM ms.length cM)] w' fun e w'' => e = .returned (.bool (goodB ep ms)) ∧ Below w'.heap.size w' w'') := Lib.hid (fun w' hb => good_any8 ms ep AM cM hn2 w' (HM1.out.far hb))
  have HGB : Hid (∀ w', Below w1.heap.size w1 w' → Calls Tryz.prog 47 #[.agg b.cells.toArray] w' fun e w'' => e = .returned (.bool (blkGood b.x)) ∧ Below w'.heap.size w' w'') := Lib.hid (fun w' hb => good_any12 b (Nat.le_trans hz.len (by simp [maxLen])) w' (HB1.out.far hb))
  have HGQ : Hid (∀ w', Calls Tryz.prog 48 #[.agg (cfgV ep AM ms.length cM)] w' fun e w'' => e = .returned (.int .i64 ((quorumN ms.length : Nat) : Int)) ∧ Below w'.heap.size w' w'') := Lib.hid (fun w' => quorum_any ep AM ms.length cM hn w')
  have HGR : Hid (∀ w', Below w1.heap.size w1 w' → Calls Tryz.prog 49 #[.slice A vs.length c] w' fun e w'' => e = .returned (.bool (risB14 (vs.map VtM.x))) ∧ Below w'.heap.size w' w'') := Lib.hid (fun w' hb => rises_any14 vs A c hl w' (EK.See.far HV1.out hb))
  have HGD : Hid (∀ w', Below w1.heap.size w1 w' → Calls Tryz.prog 50 #[.agg b.cells.toArray] w' fun e w'' => e = .returned (.agg ((blkD b.x).map bv).toArray) ∧ Below w'.heap.size w' w'') := Lib.hid (fun w' hb => bkdgt_any b hz w' (HB1.out.far hb) (HR1.out.of_below hb))
  have HGI : Hid (∀ w', Below w1.heap.size w1 w' → ∀ m ∈ vs, Calls Tryz.prog 52 #[.agg (cfgV ep AM ms.length cM), .agg m.cells.toArray] w' fun e w'' => e = .returned (.bool (rightX14 ms ep m.x)) ∧ Below w'.heap.size w' w'') := Lib.hid (fun w' hb m hm => right_any13 ms ep AM cM hn2 m w' (HM1.out.far hb) (((hS m hm).call HF.out).call hb) (HR1.out.of_below hb))
  have HE : Hid (certB ep ms b.x r (vs.map VtM.x) = (goodB ep ms && (blkGood b.x && (decide (b.x.epoch = ep) && (decide (quorumN ms.length ≤ vs.length) && (risB14 (vs.map VtM.x) && (vs.map VtM.x).all (ok14 ms ep b.x.height r (blkD b.x)))))))) := Lib.hid (by
    unfold certB
    rw [List.length_map])
  have HDL := Lib.hid (blkD_len b.x)
  have HLN := Lib.hid hl
  clear hX hY hZ hM hB hV hS hR hn hn2 hz hl HM1 HB1 HR1
  generalize goodB ep ms = g0 at *
  generalize blkGood b.x = g1 at *
  generalize risB14 (vs.map VtM.x) = g3 at *
  generalize blkD b.x = d at *
  generalize quorumN ms.length = q at *
  generalize hres : certB ep ms b.x r (vs.map VtM.x) = res at *
  clear hres
  generalize cfgV ep AM ms.length cM = CF at *
  generalize b.cells.toArray = BC at *
  generalize b.x.epoch = n0 at *
  generalize b.x.height = hh at *
  go_enter Tryz.func25, Tryz.ntmps25
  go_upto_region 1 with fail
  change Code.wp _ _ _ _ (((w.alloc (.cells CF 24)).alloc (.cells BC 32)).alloc (.cells (crtV r A vs.length c) 35))
  rw [← hw1]
  clear hw1
  have l1 := (HC.out w1 (Below.refl _ _)).1
  have HCC := Lib.hid (HGC.out w1 (Below.refl _ _))
  cases g0 with
  | false =>
    have HRS : Hid (res = false) := Lib.hid (by rw [HE.out]; rfl)
    clear HE
    go_wp2_with (go_at_call 24; (with_reducible refine (HCC.out).mono ?_); rintro e w2 ⟨rfl, hb⟩; have HB2 := Lib.hid (HF.out.trans (hb.mono HF.out.size)); clear hb)
    go_ret
    exact ⟨ret_val (congrArg Value.bool HRS.out.symm), HB2.out⟩
  | true =>
  cases g1 with
  | false =>
    have HRS : Hid (res = false) := Lib.hid (by rw [HE.out]; rfl)
    clear HE
    go_wp2_with (first
      | (go_at_call 24; (with_reducible refine (HCC.out).mono ?_); rintro e w2 ⟨rfl, hb⟩; have HB2 := Lib.hid hb; obtain ⟨k1, k2, k3, k4, k5, k6, k7⟩ := HC.out w2 hb; clear hb)
      | (go_at_call 47; (with_reducible refine (HGB.out _ HB2.out).mono ?_); rintro e w3 ⟨rfl, hb⟩; have HB3 := Lib.hid (HF.out.trans ((HB2.out.trans (hb.mono HB2.out.size)).mono HF.out.size)); clear hb))
    go_ret
    exact ⟨ret_val (congrArg Value.bool HRS.out.symm), HB3.out⟩
  | true =>
  by_cases e0 : n0 = ep
  rotate_left
  · have HRS : Hid (res = false) := Lib.hid (by rw [HE.out, decide_eq_false e0]; rfl)
    have m0 : (n0 == ep) = false := by simpa using e0
    have m1 : (!(n0 == ep)) = true := by rw [m0]; rfl
    clear HE e0
    go_wp2_with (first
      | (go_at_call 24; (with_reducible refine (HCC.out).mono ?_); rintro e w2 ⟨rfl, hb⟩; have HB2 := Lib.hid hb; obtain ⟨k1, k2, k3, k4, k5, k6, k7⟩ := HC.out w2 hb; clear hb)
      | (go_at_call 47; (with_reducible refine (HGB.out _ HB2.out).mono ?_); rintro e w3 ⟨rfl, hb⟩; have HB3 := Lib.hid (HB2.out.trans (hb.mono HB2.out.size)); obtain ⟨j1, j2, j3, j4, j5, j6, j7⟩ := HC.out w3 (HB2.out.trans (hb.mono HB2.out.size)); clear hb))
    go_ret
    exact ⟨ret_val (congrArg Value.bool HRS.out.symm), HF.out.trans (HB3.out.mono HF.out.size)⟩
  subst e0
  have m0 : (n0 == n0) = true := by simp
  go_upto_region 3 with (first
      | (go_at_call 24; (with_reducible refine (HCC.out).mono ?_); rintro e w2 ⟨rfl, hb⟩; have HB2 := Lib.hid hb; obtain ⟨k1, k2, k3, k4, k5, k6, k7⟩ := HC.out w2 hb; clear hb)
      | (go_at_call 47; (with_reducible refine (HGB.out _ HB2.out).mono ?_); rintro e w3 ⟨rfl, hb⟩; have HB3 := Lib.hid (HB2.out.trans (hb.mono HB2.out.size)); obtain ⟨j1, j2, j3, j4, j5, j6, j7⟩ := HC.out w3 (HB2.out.trans (hb.mono HB2.out.size)); clear hb))
  clear HCC HGC HGB l1 k1 k2 k3 k4 k5 k6 k7 m0 HB2
  have Q1 : ∀ d os, (ldCf (.pointer (some ⟨w.heap.size, 0, none⟩))).run Tryz.prog (grow (redrawn w3 d) os) = .ok (.agg CF) (grow (redrawn w3 d) os) := fun d os => (HC.out _ (HB3.out.trans ((below_regrown w3 d os).mono HB3.out.size))).1
  have Q2 : ∀ d os, (grow (redrawn w3 d) os).cell? ⟨w.heap.size + 1 + 1, 1, none⟩ = some (.slice A vs.length c) := fun d os => (HC.out _ (HB3.out.trans ((below_regrown w3 d os).mono HB3.out.size))).2.2.2.2.2.2
  have K1 : Hid (∀ d os, Calls Tryz.prog 48 #[.agg CF] (grow (redrawn w3 d) os) fun e w'' => e = .returned (.int .i64 (q : Int)) ∧ ∃ p : Regrown, w'' = grow (redrawn w3 p.d) p.os) := Lib.hid (fun d os => Calls.regrown_of (HGQ.out _))
  have K2 : Hid (∀ d os, Calls Tryz.prog 49 #[.slice A vs.length c] (grow (redrawn w3 d) os) fun e w'' => e = .returned (.bool g3) ∧ ∃ p : Regrown, w'' = grow (redrawn w3 p.d) p.os) := Lib.hid (fun d os => Calls.regrown_of (HGR.out _ (HB3.out.trans ((below_regrown w3 d os).mono HB3.out.size))))
  clear HGQ HGR j1 j2 j3 j4 j5 j6 j7
  by_cases hq : q ≤ vs.length
  rotate_left
  · have HRS : Hid (res = false) := Lib.hid (by rw [HE.out, decide_eq_false hq]; simp)
    have n1 : decide (vs.length < q) = true := decide_eq_true (by omega)
    have n2 : decide ((vs.length : Int) < (q : Int)) = true := decide_eq_true (by omega)
    have n3 : (vs.length : Int) < (q : Int) := by omega
    clear HE
    refine wp_region_quiet_below (by kernel_rfl) (by kernel_rfl) ?_
    repeat (go_big_quiet_step (first
      | (go_at_call 48; with_reducible exact K1.out _ _)
      | (go_at_call 49; with_reducible exact K2.out _ _)))
    refine wpQuiet_nil ?_
    intro _ hw'
    obtain ⟨⟨dq, osq⟩, hw''⟩ := hw'
    subst hw''
    have HB4 := Lib.hid (HB3.out.trans ((below_regrown w3 dq osq).mono HB3.out.size))
    clear Q1 Q2 K1 K2
    generalize grow (redrawn w3 dq) osq = w4 at *
    clear n1 n2 n3
    go_wp2
    go_ret
    exact ⟨ret_val (congrArg Value.bool HRS.out.symm), HF.out.trans (HB4.out.mono HF.out.size)⟩
  have n1 : decide (vs.length < q) = false := decide_eq_false (by omega)
  have n2 : decide ((vs.length : Int) < (q : Int)) = false := decide_eq_false (by omega)
  have n3 : ¬ (vs.length : Int) < (q : Int) := by omega
  cases g3 with
  | false =>
    have HRS : Hid (res = false) := Lib.hid (by rw [HE.out]; simp)
    clear HE
    refine wp_region_quiet_below (by kernel_rfl) (by kernel_rfl) ?_
    repeat (go_big_quiet_step (first
      | (go_at_call 48; with_reducible exact K1.out _ _)
      | (go_at_call 49; with_reducible exact K2.out _ _)))
    refine wpQuiet_nil ?_
    intro _ hw'
    obtain ⟨⟨dq, osq⟩, hw''⟩ := hw'
    subst hw''
    have HB4 := Lib.hid (HB3.out.trans ((below_regrown w3 dq osq).mono HB3.out.size))
    clear Q1 Q2 K1 K2
    generalize grow (redrawn w3 dq) osq = w4 at *
    clear n1 n2 n3
    go_wp2
    go_ret
    exact ⟨ret_val (congrArg Value.bool HRS.out.symm), HF.out.trans (HB4.out.mono HF.out.size)⟩
  | true =>
  have HRS : Hid (res = (vs.map VtM.x).all (ok14 ms n0 hh r d)) := Lib.hid (by rw [HE.out, decide_eq_true hq]; simp)
  clear HE
  refine wp_region_quiet_below (by kernel_rfl) (by kernel_rfl) ?_
  repeat (go_big_quiet_step (first
    | (go_at_call 48; with_reducible exact K1.out _ _)
    | (go_at_call 49; with_reducible exact K2.out _ _)))
  refine wpQuiet_nil ?_
  intro _ hw'
  obtain ⟨⟨dq, osq⟩, hw''⟩ := hw'
  subst hw''
  have HB4 := Lib.hid (HB3.out.trans ((below_regrown w3 dq osq).mono HB3.out.size))
  clear Q1 Q2 K1 K2
  generalize grow (redrawn w3 dq) osq = w4 at *
  clear n1 n2 n3 hq
  have HF4 := Lib.hid (HF.out.trans (HB4.out.mono HF.out.size))
  have lb := (HC.out w4 HB4.out).2.2.1
  have HDC := Lib.hid (HGD.out w4 HB4.out)
  have hal := al_dg14
  go_upto_region 6 with (go_at_call 50; (with_reducible refine (HDC.out).mono ?_); rintro e w5 ⟨rfl, hb⟩; obtain ⟨w6, hst, hb6, hbl6⟩ := laid_dg14 w5 HDL.out; have HD6 := Lib.hid hb6; have HB6 := Lib.hid (HB4.out.trans ((hb.trans (hbl6.mono hb.size)).mono HB4.out.size)); clear hb hb6 hbl6)
  clear hst hal lb HDC HGD HB4 HB3 HF4
  generalize w5.heap.size = gd at *
  have k7 := (HC.out w6 HB6.out).2.2.2.2.2.2
  go_wp2
  clear k7
  go_loopw [42] (fun i wr => ∃ k : Nat, k ≤ vs.length ∧ i = .int .i64 (k : Int) ∧ Hid (Below w6.heap.size w6 wr) ∧ Hid (∀ j (h : j < vs.length), j < k → ok14 ms n0 hh r d (vs[j]'h).x = true)) (fun i _ => vs.length - (intOf i).toNat)
  case atStart => exact ⟨0, Nat.zero_le _, rfl, Lib.hid (Below.refl _ _), Lib.hid (fun j h h2 => by omega)⟩
  case round =>
    obtain ⟨k, hk, rfl, HW, HI⟩ := hrel
    have HBR := Lib.hid (HB6.out.trans (HW.out.mono HB6.out.size))
    by_cases hlt : k < vs.length
    rotate_left
    · have i1 : ¬ (k : Int) < (vs.length : Int) := by omega
      have HR2 : Hid (res = true) := Lib.hid (by
        rw [HRS.out, List.all_eq_true]
        intro x hx
        obtain ⟨m, hm, rfl⟩ := List.mem_map.1 hx
        obtain ⟨j, hj, rfl⟩ := List.getElem_of_mem hm
        exact HI.out j hj (by omega))
      go_wp2
      go_ret
      exact ⟨ret_val (congrArg Value.bool HR2.out.symm), HF.out.trans (HBR.out.mono HF.out.size)⟩
    have i1 : (k : Int) < (vs.length : Int) := by omega
    have i0 : (0 : Int) ≤ (k : Int) := by omega
    obtain ⟨g, o, hA, hlv⟩ := row_vote (EK.See.far HV1.out HBR.out) hlt
    subst hA
    have lv := hlv wr (Below.refl _ _)
    have HM : Hid ((vs[k]'hlt) ∈ vs) := Lib.hid (List.getElem_mem hlt)
    have HNO : Hid (ok14 ms n0 hh r d (vs[k]'hlt).x = false → res = false) := Lib.hid (fun h => by
      rw [HRS.out, List.all_eq_false]
      exact ⟨(vs[k]'hlt).x, List.mem_map.2 ⟨_, HM.out, rfl⟩, by rw [h]; simp⟩)
    have HYE : Hid (ok14 ms n0 hh r d (vs[k]'hlt).x = true → ∀ j (h : j < vs.length), j < k + 1 → ok14 ms n0 hh r d (vs[j]'h).x = true) := Lib.hid (fun h j hj hjk => by
      by_cases e : j = k
      · subst e
        exact h
      · exact HI.out j hj (by omega))
    have HLT := Lib.hid hlt
    clear hlv
    generalize vs[k]'hlt = m at *
    have HOK : Hid (ok14 ms n0 hh r d m.x = (says14 m.x hh r d && rightX14 ms n0 m.x)) := Lib.hid rfl
    generalize ok14 ms n0 hh r d m.x = ok at *
    obtain ⟨w8, hst8, hb8, hbl8⟩ := laid_vt wr m
    have HX8 := Lib.hid hb8
    have HB8 := Lib.hid (HBR.out.trans (hbl8.mono HBR.out.size))
    have HW8 := Lib.hid (HW.out.trans (hbl8.mono HW.out.size))
    have hav := al_vt14
    have l8 := HX8.out.ld_vt
    have l9 := (HD6.out.below HW8.out HD6.out.lt).load_digest HDL.out
    obtain ⟨k1, k2, k3, k4, k5, k6, k7⟩ := HC.out w8 HB8.out
    have HSY := Lib.hid (says_any14 m hh r d HDL.out w8)
    have HRX : Hid (∀ w', Below w8.heap.size w8 w' → Calls Tryz.prog 52 #[.agg CF, .agg m.cells.toArray] w' fun e w'' => e = .returned (.bool (rightX14 ms n0 m.x)) ∧ Below w'.heap.size w' w'') := Lib.hid (fun w' hb => HGI.out w' (HB8.out.trans (hb.mono HB8.out.size)) m HM.out)
    have wk : IntKind.i64.wrap ((k : Int) + 1) = ((k + 1 : Nat) : Int) := by rw [IntKind.wrap_i64]; have := HLN.out; omega
    generalize hsy : says14 m.x hh r d = sy at *
    generalize hrx : rightX14 ms n0 m.x = rx at *
    generalize (d.map bv).toArray = DC at *
    have HLB : Hid (∀ w', Below w8.heap.size w8 w' → (ldVt (.pointer (some ⟨wr.heap.size, 0, none⟩))).run Tryz.prog w' = .ok (.agg m.cells.toArray) w') := Lib.hid (fun w' hb => (HX8.out.below hb HX8.out.lt).ld_vt)
    clear hb8 hbl8 hsy hrx
    cases sy with
    | false =>
      have HR2 : Hid (res = false) := Lib.hid (HNO.out (by rw [HOK.out]; rfl))
      clear HNO HYE HOK
      go_wp2_with (go_at_call 51; (with_reducible refine (HSY.out).mono ?_); rintro e w9 ⟨rfl, hb⟩; have HB9 := Lib.hid (HB8.out.trans (hb.mono HB8.out.size)); clear hb)
      go_ret
      exact ⟨ret_val (congrArg Value.bool HR2.out.symm), HF.out.trans (HB9.out.mono HF.out.size)⟩
    | true =>
      cases rx with
      | false =>
        have HR2 : Hid (res = false) := Lib.hid (HNO.out (by rw [HOK.out]; rfl))
        clear HNO HYE HOK
        go_wp2_with (first
          | (go_at_call 51; (with_reducible refine (HSY.out).mono ?_); rintro e w9 ⟨rfl, hb⟩; have HB9 := Lib.hid hb; have q1 := HLB.out w9 hb; have q2 := (HC.out w9 (HB8.out.trans (hb.mono HB8.out.size))).1; clear hb)
          | (go_at_call 52; (with_reducible refine (HRX.out _ HB9.out).mono ?_); rintro e w10 ⟨rfl, hb⟩; have HB10 := Lib.hid (HB8.out.trans ((HB9.out.trans (hb.mono HB9.out.size)).mono HB8.out.size)); clear hb))
        go_ret
        exact ⟨ret_val (congrArg Value.bool HR2.out.symm), HF.out.trans (HB10.out.mono HF.out.size)⟩
      | true =>
        have HY2 := Lib.hid (HYE.out (by rw [HOK.out]; rfl))
        clear HNO HYE HOK
        go_wp2_with (first
          | (go_at_call 51; (with_reducible refine (HSY.out).mono ?_); rintro e w9 ⟨rfl, hb⟩; have HB9 := Lib.hid hb; have q1 := HLB.out w9 hb; have q2 := (HC.out w9 (HB8.out.trans (hb.mono HB8.out.size))).1; clear hb)
          | (go_at_call 52; (with_reducible refine (HRX.out _ HB9.out).mono ?_); rintro e w10 ⟨rfl, hb⟩; have HB10 := Lib.hid (HW8.out.trans ((HB9.out.trans (hb.mono HB9.out.size)).mono HW8.out.size)); clear hb))
        go_roundw
        case rel => exact ⟨k + 1, HLT.out, by go_num, HB10, HY2⟩
        case measure => have := HLT.out; simp [intOf]; omega
end Go.Proofs.YtbclepdcngaonaaGreatDoor

namespace Go.Proofs.YtbclepdcngaonaaGreatDoor
open Go.RowKit Go.Maps Go.Sort

attribute [local go_sem ↓] ldReq_def stReq_def ldBlk_def stBlk_def ldVt_def stVt_def alVt14_def

/-- A block's bytes are fewer. -/
structure Few14 (x : BlkX) : Prop where
  len : x.reqs.length ≤ 40
  txt : ∀ q ∈ x.reqs, q.key.size ≤ 4096 ∧ q.val.size ≤ 4096 ∧ q.old.size ≤ 4096
set_option maxRecDepth 100000 in
theorem Few14.few {x : BlkX} (h : Few14 x) : Few x := ⟨h.len, fun q hq => by have := h.txt q hq; omega⟩
def GreatB14 (b : BlkM) (w : World) (e : Ending) (w' : World) : Prop := ∃ g : Bool, e = .returned (.bool g) ∧ (g = false → Few14 b.x) ∧ Below w.heap.size w w'
set_option maxRecDepth 100000 in
theorem GreatB14.yes {b : BlkM} {w w' : World} (h : Below w.heap.size w w') : GreatB14 b w (.returned (.bool true)) w' := ⟨true, rfl, fun h => (by cases h), h⟩

set_option maxRecDepth 100000 in
set_option maxHeartbeats 4000000 in
theorem great_any14 (b : BlkM) (hn : b.x.reqs.length ≤ 140737488351232) (hq : ∀ q ∈ b.x.reqs, q.key.size ≤ 140737488351232 ∧ q.val.size ≤ 140737488351232 ∧ q.old.size ≤ 140737488351232) (w : World) (hS : QSee w w.heap.size b.A b.x.reqs) :
    Calls Tryz.prog 23 #[.agg b.cells.toArray, .int .i64 4096] w (GreatB14 b w) := by
  have HB : Hid (Box (w.alloc (.cells b.cells.toArray 32)) w.heap.size 32 b.cells.toArray) := Box.made _ _ _
  have c2 : (w.alloc (.cells b.cells.toArray 32)).cell? ⟨w.heap.size, 98, none⟩ = some (.slice b.A b.x.reqs.length b.z) := HB.out.bk_98 b.x.lp b.x.ls b.x.ln
  have HF : Hid (Below w.heap.size w (w.alloc (.cells b.cells.toArray 32))) := Lib.hid ((Below.refl _ _).alloc (Nat.le_refl _) _)
  have HS := Lib.hid hS
  have HQ := Lib.hid hq
  have HX : Hid (b.x.reqs.length ≤ 40 → (∀ q ∈ b.x.reqs, q.key.size ≤ 4096 ∧ q.val.size ≤ 4096 ∧ q.old.size ≤ 4096) → Few14 b.x) := Lib.hid (fun h1 h2 => ⟨h1, h2⟩)
  clear HB hS hq
  generalize b.cells.toArray = cs at *
  generalize b.x.reqs = xs at *
  generalize b.A = A at *
  generalize b.z = z at *
  by_cases h40 : 40 < xs.length
  · have e8 : decide ((40 : Int) < (xs.length : Int)) = true := decide_eq_true (by omega)
    clear h40 hn
    go_enter Tryz.func23, Tryz.ntmps23
    go_wp2
    go_ret
    exact GreatB14.yes HF.out
  have HN : Hid (xs.length ≤ 40) := Lib.hid (by omega)
  have e8 : decide ((40 : Int) < (xs.length : Int)) = false := decide_eq_false (by omega)
  clear hn h40
  go_enter Tryz.func23, Tryz.ntmps23
  go_wp2
  clear c2 e8
  generalize w.alloc (.cells cs 32) = w1 at *
  go_loopw [5, 17] (fun n i wr => ∃ k t : Nat, k ≤ xs.length ∧ i = .int .i64 (k : Int) ∧ n = .int .i64 (t : Int) ∧ Hid (t ≤ 4096 ∧ ∀ j (hj : j < xs.length), j < k → (xs[j]'hj).key.size ≤ 4096 ∧ (xs[j]'hj).val.size ≤ 4096 ∧ (xs[j]'hj).old.size ≤ 4096) ∧ Hid (Below w.heap.size w wr)) (fun _ i _ => xs.length - (intOf i).toNat)
  case atStart => exact ⟨0, 0, Nat.zero_le _, rfl, rfl, Lib.hid ⟨by omega, fun j _ h => by omega⟩, HF⟩
  case round =>
    obtain ⟨k, t, hk, rfl, rfl, HT, HW⟩ := hrel
    by_cases hlt : k < xs.length
    · have HLT := Lib.hid hlt
      obtain ⟨g, o, rfl, _, hr⟩ := (HS.out.far HW.out).at_ hlt
      have lk := hr k hlt
      have i1 : (k : Int) < (xs.length : Int) := by omega
      have i0 : (0 : Int) ≤ (k : Int) := by omega
      have wk : IntKind.i64.wrap ((k : Int) + 1) = ((k + 1 : Nat) : Int) := by rw [IntKind.wrap_i64]; have := HN.out; omega
      have wt : IntKind.i64.wrap ((t : Int) + 100) = ((t + 100 : Nat) : Int) := by rw [IntKind.wrap_i64]; have := HT.out.1; have := HN.out; omega
      obtain ⟨w4, hst, hb4, hg4⟩ := (Box.made wr 100 zreqV).st_req rfl (xs[k]'hlt)
      have hF4 : Below wr.heap.size wr w4 := ((Below.refl _ _).alloc (Nat.le_refl _) _).trans (below_only hg4 (Nat.le_refl _) (by simp))
      have HW4 := Lib.hid (HW.out.trans (hF4.mono HW.out.size))
      have HKV := Lib.hid (HQ.out _ (List.getElem_mem hlt))
      have d3 : w4.cell? ⟨wr.heap.size, 3, none⟩ = some (.string (xs[k]'hlt).key) := hb4.rq_cell rfl
      have d4 : w4.cell? ⟨wr.heap.size, 4, none⟩ = some (.string (xs[k]'hlt).val) := hb4.rq_cell rfl
      have d5 : w4.cell? ⟨wr.heap.size, 5, none⟩ = some (.string (xs[k]'hlt).old) := hb4.rq_cell rfl
      have HNX : Hid ((xs[k]'hlt).key.size ≤ 4096 → (xs[k]'hlt).val.size ≤ 4096 → (xs[k]'hlt).old.size ≤ 4096 → ∀ j (hj : j < xs.length), j < k + 1 → (xs[j]'hj).key.size ≤ 4096 ∧ (xs[j]'hj).val.size ≤ 4096 ∧ (xs[j]'hj).old.size ≤ 4096) := Lib.hid (fun h1 h2 h3 j hj hjk => by
        rcases Nat.lt_or_ge j k with h | h
        · exact HT.out.2 j hj h
        · obtain rfl : j = k := by omega
          exact ⟨h1, h2, h3⟩)
      generalize (xs[k]'hlt).cells.toArray = qc at *
      generalize (xs[k]'hlt).key = s3 at *
      generalize (xs[k]'hlt).val = s4 at *
      generalize (xs[k]'hlt).old = s5 at *
      clear hr hb4 hg4 hF4
      go_wp2
      clear lk hst d3 d4 d5
      go_loopw [5, 33] (fun n i wr' => ∃ j u : Nat, j ≤ 3 ∧ i = .int .i64 (j : Int) ∧ n = .int .i64 (u : Int) ∧ Hid (u ≤ 4196 ∧ (1 ≤ j → u ≤ 4096) ∧ (1 ≤ j → s3.size ≤ 4096) ∧ (2 ≤ j → s4.size ≤ 4096) ∧ (3 ≤ j → s5.size ≤ 4096)) ∧ w4 = wr') (fun _ i _ => 3 - (intOf i).toNat)
      case atStart => exact ⟨0, t + 100, by omega, rfl, by go_num, Lib.hid ⟨by have := HT.out.1; omega, fun h => by omega, fun h => by omega, fun h => by omega, fun h => by omega⟩, rfl⟩
      case round =>
        obtain ⟨j, u, hj, rfl, rfl, HU, rfl⟩ := hrel
        by_cases hj3 : j < 3
        · have HJ := Lib.hid hj3
          obtain ⟨sx, hix, hsx, hnx⟩ : ∃ sx : ByteArray, (Instr.index 101 (.agg #[.string s3, .string s4, .string s5]) (.int .i64 (j : Int))).run Tryz.prog w4 = .ok (.string sx) w4 ∧ sx.size ≤ 140737488351232 ∧ (sx.size ≤ 4096 → (1 ≤ j + 1 → s3.size ≤ 4096) ∧ (2 ≤ j + 1 → s4.size ≤ 4096) ∧ (3 ≤ j + 1 → s5.size ≤ 4096)) := by
            have h := HU.out
            match j, hj3 with
            | 0, _ => exact ⟨s3, by kernel_rfl, HKV.out.1, fun h0 => ⟨fun _ => h0, fun h => by omega, fun h => by omega⟩⟩
            | 1, _ => exact ⟨s4, by kernel_rfl, HKV.out.2.1, fun h0 => ⟨fun _ => h.2.2.1 (by omega), fun _ => h0, fun h => by omega⟩⟩
            | 2, _ => exact ⟨s5, by kernel_rfl, HKV.out.2.2, fun h0 => ⟨fun _ => h.2.2.1 (by omega), fun _ => h.2.2.2.1 (by omega), fun _ => h0⟩⟩
          have j1 : (j : Int) < 3 := by omega
          have j0 : (0 : Int) ≤ (j : Int) := by omega
          have wj : IntKind.i64.wrap ((j : Int) + 1) = ((j + 1 : Nat) : Int) := by rw [IntKind.wrap_i64]; omega
          have wu : IntKind.i64.wrap ((u : Int) + (sx.size : Int)) = ((u + sx.size : Nat) : Int) := by rw [IntKind.wrap_i64]; have := HU.out.1; omega
          by_cases hb : 4096 < u + sx.size
          · have e2 : decide ((4096 : Int) < ((u + sx.size : Nat) : Int)) = true := decide_eq_true (by omega)
            clear hj hj3 hsx hnx hb
            generalize u + sx.size = v at *
            go_wp2
            go_ret
            exact GreatB14.yes HW4.out
          · have e2 : decide ((4096 : Int) < ((u + sx.size : Nat) : Int)) = false := decide_eq_false (by omega)
            have HV : Hid (u + sx.size ≤ 4096) := Lib.hid (by omega)
            have HX2 := Lib.hid (hnx (by omega))
            clear hj hj3 hsx hnx hb
            generalize u + sx.size = v at *
            go_wp2
            go_roundw
            case rel => exact ⟨j + 1, v, HJ.out, by go_num, rfl, Lib.hid ⟨by have := HV.out; omega, fun _ => HV.out, HX2.out⟩, by first | rfl | trivial⟩
            case measure => have := HJ.out; simp [intOf]; omega
        · have j1 : ¬ (j : Int) < 3 := by omega
          have HJ : Hid (j = 3) := Lib.hid (by omega)
          have HT2 : Hid (u ≤ 4096 ∧ ∀ j (hj : j < xs.length), j < k + 1 → (xs[j]'hj).key.size ≤ 4096 ∧ (xs[j]'hj).val.size ≤ 4096 ∧ (xs[j]'hj).old.size ≤ 4096) := by
            obtain ⟨_, h1, h2, h3, h4⟩ := HU.out
            have h3' := HJ.out
            exact Lib.hid ⟨h1 (by omega), HNX.out (h2 (by omega)) (h3 (by omega)) (h4 (by omega))⟩
          clear hj hj3 HU
          go_wp2
          go_roundw
          case rel => exact ⟨k + 1, u, HLT.out, by go_num, rfl, HT2, HW4⟩
          case measure => have := HLT.out; simp [intOf]; omega
    · have i1 : ¬ (k : Int) < (xs.length : Int) := by omega
      have e2 : decide ((4096 : Int) < (t : Int)) = false := decide_eq_false (by have := HT.out.1; omega)
      have HFW : Hid (Few14 b.x) := Lib.hid (HX.out HN.out (fun q hq => by
        obtain ⟨j, hj, rfl⟩ := List.mem_iff_getElem.1 hq
        exact HT.out.2 j hj (by omega)))
      clear hk
      go_wp2
      go_ret
      exact ⟨false, rfl, fun _ => HFW.out, HW.out⟩

/-- What is played when it isn't great. -/
structure CSmall (ms : List MemX) (b : BlkX) (vs : List VtM) : Prop where
  mem : ms.length ≤ 20
  blk : Few14 b
  len : vs.length ≤ 12
  few : ∀ m ∈ vs, VFew m.x
def GreatC (ms : List MemX) (b : BlkX) (vs : List VtM) (w : World) (e : Ending) (w' : World) : Prop := ∃ g : Bool, e = .returned (.bool g) ∧ (g = false → CSmall ms b vs) ∧ Below w.heap.size w w'
set_option maxRecDepth 100000 in
theorem GreatC.yes {ms : List MemX} {b : BlkX} {vs : List VtM} {w w' : World} (h : Below w.heap.size w w') : GreatC ms b vs w (.returned (.bool true)) w' := ⟨true, rfl, fun h => (by cases h), h⟩

end Go.Proofs.YtbclepdcngaonaaGreatDoor

namespace Go.Proofs.YtbclepdcngaonaaGreatDoor
open Go.RowKit Go.Maps Go.Sort

/-! ### Literals -/
noncomputable def bdVt14 (parts : Array (Nat × Value)) : Sem Value := Instr.build 74 parts
set_option maxRecDepth 100000 in
theorem bdVt14_def (parts : Array (Nat × Value)) : Instr.build 74 parts = bdVt14 parts := rfl
noncomputable def bdDg14 (parts : Array (Nat × Value)) : Sem Value := Instr.build 29 parts
set_option maxRecDepth 100000 in
theorem bdDg14_def (parts : Array (Nat × Value)) : Instr.build 29 parts = bdDg14 parts := rfl
noncomputable def bdCf14 (parts : Array (Nat × Value)) : Sem Value := Instr.build 24 parts
set_option maxRecDepth 100000 in
theorem bdCf14_def (parts : Array (Nat × Value)) : Instr.build 24 parts = bdCf14 parts := rfl
noncomputable def stSg14 (p v : Value) : Sem Unit := Instr.storeAt 72 p v
set_option maxRecDepth 100000 in
theorem stSg14_def (p v : Value) : Instr.storeAt 72 p v = stSg14 p v := rfl
/-! ### The vote that is signed -/
def vtP14 (x : VtX) : List Value := .int .i64 x.kind :: .int .i64 x.epoch :: .int .i64 x.height :: .int .i64 x.round :: (x.dig.map bv ++ [.int .i64 x.frm])
set_option maxRecDepth 100000 in
/-- A vote's signature is written. -/
theorem Box.st_vsg14 {w : World} {g : Nat} {t : TypeId} {m : VtM} (hb : Box w g t m.cells.toArray) (s : SgM) : ∃ w', (stSg14 (.pointer (some ⟨g, 37, none⟩)) (.agg s.cells)).run Tryz.prog w = .ok () w' ∧ Box w' g t (VtM.cells ⟨⟨m.x.kind, m.x.epoch, m.x.height, m.x.round, m.x.dig, m.x.frm, s.n, s.X, s.Y, s.P, m.x.len⟩, s.A, s.a, s.B, s.b, s.C, s.c⟩).toArray ∧ w.grownBy w' (some g) := by
  have hb2 : Box w g t (vtP14 m.x ++ (m.sg.cells.toList ++ [])).toArray := by
    have e : vtP14 m.x ++ (m.sg.cells.toList ++ []) = m.cells := by
      unfold VtM.cells vtL VtM.sg SgM.cells vtP14
      simp
    rw [e]
    exact hb
  have hp : (vtP14 m.x).length = 37 := by unfold vtP14; simp [m.x.len]
  have h3 := Box.put_mid hb2 hp (vs := s.cells.toList) rfl
  refine ⟨w.setCells g 37 s.cells.toList, ?_, ?_, only_cells (g := g) _ 37 w⟩
  · exact run_storeAt_mid (P := Tryz.prog) _ g 37 72 s.cells (fun j hj => by
      have hj4 : j < 4 := hj
      rw [hb.cell, hb.free, Array.getElem?_eq_getElem (by rw [List.size_toArray, m.cells_len]; omega)]
      exact ⟨rfl, rfl⟩) (sig_size _ _ _ _ _ _ _ _ _ _) (by have := all_oneCell_toArray (sig_one s.n s.A s.X.length s.a s.B s.Y.length s.b s.C s.P.length s.c); exact this)
  · have e : vtP14 m.x ++ (s.cells.toList ++ []) = (VtM.cells ⟨⟨m.x.kind, m.x.epoch, m.x.height, m.x.round, m.x.dig, m.x.frm, s.n, s.X, s.Y, s.P, m.x.len⟩, s.A, s.a, s.B, s.b, s.C, s.c⟩) := by
      unfold VtM.cells vtL SgM.cells vtP14
      simp
    rw [e] at h3
    exact h3


attribute [local go_sem ↓] ldVt_def stVt_def alVt14_def bdVt14_def bdDg14_def bdCf14_def bdMem_def stSg14_def bsT_def ldCf_def stCf_def ldBlk_def stBlk_def bdBlk_def ldCt_def stCt_def
end Go.Proofs.YtbclepdcngaonaaGreatDoor

namespace Go.Proofs.YtbclepdcngaonaaGreatDoor
open Go.RowKit Go.Maps Go.Sort

/-! ### On plain lists -/
set_option maxRecDepth 100000 in
theorem certB_true {ep : Int} {ms : List MemX} {b : BlkX} {r : Int} {xs : List VtX} (h : certB ep ms b r xs = true) : goodB ep ms = true ∧ quorumN ms.length ≤ xs.length ∧ risB14 xs = true ∧ ∀ x ∈ xs, ok14 ms ep b.height r (blkD b) x = true := by
  unfold certB at h
  simp only [Bool.and_eq_true, decide_eq_true_eq] at h
  obtain ⟨h1, _, _, h4, h5, h6⟩ := h
  exact ⟨h1, h4, h5, List.all_eq_true.1 h6⟩
end Go.Proofs.YtbclepdcngaonaaGreatDoor
