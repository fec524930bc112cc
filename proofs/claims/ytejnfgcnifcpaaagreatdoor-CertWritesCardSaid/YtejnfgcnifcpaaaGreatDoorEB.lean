/-
  Whether a word is right: cert.says, cert.Check.
  Whether what is played is great: wapentakeref12.Great at 4096, wapentakelaw14.great; what is known of what isn't. The first part is XBlGreat's at another bound.
  cert.clone, and the first votes of a row: cert.Make.
  What the laws of layer 14 ask first: that a word is made and right (wapentakelaw14.alive).
  What is known of a word that is right, on plain lists.
-/
import Derived.Test.YtejnfgcnifcpaaaGreatDoorEA
import Derived.Test.YtejnfgcnifcpaaaGreatDoorBB
import Derived.Test.YtejnfgcnifcpaaaGreatDoorBA
import Derived.Test.YtejnfgcnifcpaaaGreatDoorCA
import Derived.BigQuiet
import Derived.Deep.RegionHeld3
import Derived.Test.YtejnfgcnifcpaaaGreatDoorBD
import Derived.Test.YtejnfgcnifcpaaaGreatDoorKD
import Derived.Test.YtejnfgcnifcpaaaGreatDoorNB
namespace Go.Proofs.YtejnfgcnifcpaaaGreatDoor
open Go.RowKit Go.Maps Go.Sort

/-! ### On plain lists -/
def says14 (x : VtX) (h r : Int) (d : List UInt8) : Bool := decide (x.kind = 2) && (decide (x.height = h) && (decide (x.round = r) && decide (x.dig = d)))
/-- Is a vote right, whatever memory has it? -/
def rightX14 (ms : List MemX) (ep : Int) (x : VtX) : Bool := vGood x && (decide (x.epoch = ep) && (hasB ms x.frm && goodK (findM ms x.frm).root (voteD x) (findM ms x.frm).high x.leaf x.opn x.sht x.pth))
set_option maxRecDepth 100000 in
theorem right_x14 (ms : List MemX) (ep : Int) (m : VtM) : rightB ms ep m = rightX14 ms ep m.x := rfl
def ok14 (ms : List MemX) (ep h r : Int) (d : List UInt8) (x : VtX) : Bool := says14 x h r d && rightX14 ms ep x
/-- Is a word right? -/
def certB (ep : Int) (ms : List MemX) (b : BlkX) (r : Int) (xs : List VtX) : Bool := goodB ep ms && (blkGood b && (decide (b.epoch = ep) && (decide (quorumN ms.length ≤ xs.length) && (risB14 xs && xs.all (ok14 ms ep b.height r (blkD b))))))

attribute [local go_sem ↓] ldVt_def stVt_def ldDigest_def stDigest_def eqDigest_def
set_option maxRecDepth 100000 in
set_option maxHeartbeats 4000000 in
theorem says_any14 (m : VtM) (h r : Int) (d : List UInt8) (hd : d.length = 32) (w : World) :
    Calls Tryz.prog 31 #[.agg m.cells.toArray, .int .i64 h, .int .i64 r, .agg (d.map bv).toArray] w fun e' w' => e' = .returned (.bool (says14 m.x h r d)) ∧ Below w.heap.size w w' := by
  obtain ⟨w1, hw1⟩ : ∃ w1, w1 = (w.alloc (.cells m.cells.toArray 69)).alloc (.cells (d.map bv).toArray 26) := ⟨_, rfl⟩
  have hX : Box w1 w.heap.size 69 m.cells.toArray := by rw [hw1]; exact (Box.made w _ _).alloc _
  have hD : Box w1 (w.heap.size + 1) 26 (d.map bv).toArray := by rw [hw1]; exact Box.made_at (by simp) _ _
  have HF : Hid (Below w.heap.size w w1) := by rw [hw1]; exact ((Below.refl _ _).alloc (Nat.le_refl _) _).alloc (by simp) _
  have c0 := hX.vt_0
  have c2 := hX.vt_2
  have c3 := hX.vt_3
  have l1 : (ldDigest (.pointer (some ⟨w.heap.size, 4, none⟩))).run Tryz.prog w1 = .ok (.agg (m.x.dig.map bv).toArray) w1 := range_load hX.vt_dig m.x.len
  have l2 := hD.load_digest hd
  have ed := eq_digest m.x.dig d m.x.len hd
  have HE : Hid (says14 m.x h r d = (decide (m.x.kind = 2) && (decide (m.x.height = h) && (decide (m.x.round = r) && decide (m.x.dig = d))))) := Lib.hid rfl
  clear hX hD hd
  generalize says14 m.x h r d = res at *
  generalize m.cells.toArray = cs at *
  generalize (m.x.dig.map bv).toArray = P1 at *
  generalize (d.map bv).toArray = Q1 at *
  generalize decide (m.x.dig = d) = dd at *
  generalize m.x.kind = n0 at *
  generalize m.x.height = n2 at *
  generalize m.x.round = n3 at *
  by_cases g0 : n0 = 2
  rotate_left
  · have HR : Hid (res = false) := Lib.hid (by rw [HE.out, decide_eq_false g0]; rfl)
    have m0 : (n0 == 2) = false := by simpa using g0
    clear HE g0
    go_enter Tryz.func31, Tryz.ntmps31
    go_upto_region 1 with fail
    change Code.wp _ _ _ _ ((w.alloc (.cells cs 69)).alloc (.cells Q1 26))
    rw [← hw1]
    clear hw1
    go_wp2
    go_ret
    exact ⟨ret_val (congrArg Value.bool HR.out.symm), HF.out⟩
  subst g0
  by_cases g1 : n2 = h
  rotate_left
  · have HR : Hid (res = false) := Lib.hid (by rw [HE.out, decide_eq_false g1]; simp)
    have m1 : (n2 == h) = false := by simpa using g1
    clear HE g1
    go_enter Tryz.func31, Tryz.ntmps31
    go_upto_region 1 with fail
    change Code.wp _ _ _ _ ((w.alloc (.cells cs 69)).alloc (.cells Q1 26))
    rw [← hw1]
    clear hw1
    go_wp2
    go_ret
    exact ⟨ret_val (congrArg Value.bool HR.out.symm), HF.out⟩
  subst g1
  have m1 : (n2 == n2) = true := by simp
  by_cases g2 : n3 = r
  rotate_left
  · have HR : Hid (res = false) := Lib.hid (by rw [HE.out, decide_eq_false g2]; simp)
    have m2 : (n3 == r) = false := by simpa using g2
    clear HE g2
    go_enter Tryz.func31, Tryz.ntmps31
    go_upto_region 1 with fail
    change Code.wp _ _ _ _ ((w.alloc (.cells cs 69)).alloc (.cells Q1 26))
    rw [← hw1]
    clear hw1
    go_wp2
    go_ret
    exact ⟨ret_val (congrArg Value.bool HR.out.symm), HF.out⟩
  subst g2
  have m2 : (n3 == n3) = true := by simp
  have HR : Hid (res = dd) := Lib.hid (by rw [HE.out]; simp)
  clear HE
  go_enter Tryz.func31, Tryz.ntmps31
  go_upto_region 1 with fail
  change Code.wp _ _ _ _ ((w.alloc (.cells cs 69)).alloc (.cells Q1 26))
  rw [← hw1]
  clear hw1
  go_wp2
  go_ret
  exact ⟨ret_val (congrArg Value.bool HR.out.symm), HF.out⟩

attribute [local go_sem ↓] ldCf_def ldBlk_def alDg14_def alVt14_def
set_option maxRecDepth 100000 in
set_option maxHeartbeats 8000000 in
theorem ccheck_any (ms : List MemX) (ep : Int) (AM : Option Addr) (cM : Nat) (hn : ms.length ≤ 1099511627776) (b : BlkM) (hz : Small12 b.x) (r : Int) (vs : List VtM) (A : Option Addr) (c : Nat) (hl : vs.length ≤ 1000000) (w : World) (hM : Mems w w.heap.size AM ms) (hB : QSee w w.heap.size b.A b.x.reqs) (hV : VtK.See w w.heap.size A vs) (hS : ∀ m ∈ vs, SgSee w m.sg) (hR : Roots w) :
    Calls Tryz.prog 7 #[.agg (cfgV ep AM ms.length cM), .agg b.cells.toArray, .agg (crtV r A vs.length c)] w fun e w' => e = .returned (.bool (certB ep ms b.x r (vs.map VtM.x))) ∧ Below w.heap.size w w' := by
  obtain ⟨w1, hw1⟩ : ∃ w1, w1 = ((w.alloc (.cells (cfgV ep AM ms.length cM) 24)).alloc (.cells b.cells.toArray 29)).alloc (.cells (crtV r A vs.length c) 32) := ⟨_, rfl⟩
  have hX : Box w1 w.heap.size 24 (cfgV ep AM ms.length cM) := by rw [hw1]; exact ((Box.made w _ _).alloc _).alloc _
  have hY : Box w1 (w.heap.size + 1) 29 b.cells.toArray := by rw [hw1]; exact (Box.made_at (by simp) _ _).alloc _
  have hZ : Box w1 (w.heap.size + 1 + 1) 32 (crtV r A vs.length c) := by rw [hw1]; exact Box.made_at (by simp) _ _
  have HF : Hid (Below w.heap.size w w1) := by rw [hw1]; exact (((Below.refl _ _).alloc (Nat.le_refl _) _).alloc (by simp) _).alloc (by simp; omega) _
  have HC : Hid (∀ w', Below w1.heap.size w1 w' → (ldCf (.pointer (some ⟨w.heap.size, 0, none⟩))).run Tryz.prog w' = .ok (.agg (cfgV ep AM ms.length cM)) w' ∧ w'.cell? ⟨w.heap.size, 0, none⟩ = some (.int .i64 ep) ∧ (ldBlk (.pointer (some ⟨w.heap.size + 1, 0, none⟩))).run Tryz.prog w' = .ok (.agg b.cells.toArray) w' ∧ w'.cell? ⟨w.heap.size + 1, 0, none⟩ = some (.int .i64 b.x.epoch) ∧ w'.cell? ⟨w.heap.size + 1, 1, none⟩ = some (.int .i64 b.x.height) ∧
      w'.cell? ⟨w.heap.size + 1 + 1, 0, none⟩ = some (.int .i64 r) ∧ w'.cell? ⟨w.heap.size + 1 + 1, 1, none⟩ = some (.slice A vs.length c)) := Lib.hid (fun w' hb => by
    have hx := hX.below hb hX.lt
    have hy := hY.below hb hY.lt
    have hz := hZ.below hb hZ.lt
    exact ⟨hx.l_cf, hx.cell 0, hy.ld_blk, hy.bk_0, hy.bk_1, hz.cell 0, hz.cell 1⟩)
  have hn2 : ms.length ≤ maxLen := Nat.le_trans hn (by simp [maxLen])
  have HM1 := Lib.hid (hM.far HF.out)
  have HB1 := Lib.hid (hB.far HF.out)
  have HV1 := Lib.hid (EK.See.far hV HF.out)
  have HR1 := Lib.hid (hR.of_below HF.out)
  have HGC : Hid (∀ w', Below w1.heap.size w1 w' → Calls Tryz.prog 27 #[.agg (cfgV ep AM ms.length cM)] w' fun e w'' => e = .returned (.bool (goodB ep ms)) ∧ Below w'.heap.size w' w'') := Lib.hid (fun w' hb => good_any8 ms ep AM cM hn2 w' (HM1.out.far hb))
  have HGB : Hid (∀ w', Below w1.heap.size w1 w' → Calls Tryz.prog 28 #[.agg b.cells.toArray] w' fun e w'' => e = .returned (.bool (blkGood b.x)) ∧ Below w'.heap.size w' w'') := Lib.hid (fun w' hb => good_any12 b (Nat.le_trans hz.len (by simp [maxLen])) w' (HB1.out.far hb))
  have HGQ : Hid (∀ w', Calls Tryz.prog 29 #[.agg (cfgV ep AM ms.length cM)] w' fun e w'' => e = .returned (.int .i64 ((quorumN ms.length : Nat) : Int)) ∧ Below w'.heap.size w' w'') := Lib.hid (fun w' => quorum_any ep AM ms.length cM hn w')
  have HGR : Hid (∀ w', Below w1.heap.size w1 w' → Calls Tryz.prog 30 #[.slice A vs.length c] w' fun e w'' => e = .returned (.bool (risB14 (vs.map VtM.x))) ∧ Below w'.heap.size w' w'') := Lib.hid (fun w' hb => rises_any14 vs A c hl w' (EK.See.far HV1.out hb))
  have HGD : Hid (∀ w', Below w1.heap.size w1 w' → Calls Tryz.prog 22 #[.agg b.cells.toArray] w' fun e w'' => e = .returned (.agg ((blkD b.x).map bv).toArray) ∧ Below w'.heap.size w' w'') := Lib.hid (fun w' hb => bkdgt_any b hz w' (HB1.out.far hb) (HR1.out.of_below hb))
  have HGI : Hid (∀ w', Below w1.heap.size w1 w' → ∀ m ∈ vs, Calls Tryz.prog 32 #[.agg (cfgV ep AM ms.length cM), .agg m.cells.toArray] w' fun e w'' => e = .returned (.bool (rightX14 ms ep m.x)) ∧ Below w'.heap.size w' w'') := Lib.hid (fun w' hb m hm => right_any13 ms ep AM cM hn2 m w' (HM1.out.far hb) (((hS m hm).call HF.out).call hb) (HR1.out.of_below hb))
  have HE : Hid (certB ep ms b.x r (vs.map VtM.x) = (goodB ep ms && (blkGood b.x && (decide (b.x.epoch = ep) && (decide (quorumN ms.length ≤ vs.length) && (risB14 (vs.map VtM.x) && (vs.map VtM.x).all (ok14 ms ep b.x.height r (blkD b.x)))))))) := Lib.hid (by
    unfold certB
    rw [List.length_map])
  have HDL := Lib.hid (blkD_len b.x)
  have HLN := Lib.hid hl
  clear hX hY hZ hM hB hV hS hR hn hn2 hz hl HM1 HB1 HR1
  generalize goodB ep ms = g0 at *
  generalize blkGood b.x = g1 at *
  generalize risB14 (vs.map VtM.x) = g3 at *
  generalize blkD b.x = d at *
  generalize quorumN ms.length = q at *
  generalize hres : certB ep ms b.x r (vs.map VtM.x) = res at *
  clear hres
  generalize cfgV ep AM ms.length cM = CF at *
  generalize b.cells.toArray = BC at *
  generalize b.x.epoch = n0 at *
  generalize b.x.height = hh at *
  go_enter Tryz.func7, Tryz.ntmps7
  go_upto_region 1 with fail
  change Code.wp _ _ _ _ (((w.alloc (.cells CF 24)).alloc (.cells BC 29)).alloc (.cells (crtV r A vs.length c) 32))
  rw [← hw1]
  clear hw1
  have l1 := (HC.out w1 (Below.refl _ _)).1
  have HCC := Lib.hid (HGC.out w1 (Below.refl _ _))
  cases g0 with
  | false =>
    have HRS : Hid (res = false) := Lib.hid (by rw [HE.out]; rfl)
    clear HE
    go_wp2_with (go_at_call 27; (with_reducible refine (HCC.out).mono ?_); rintro e w2 ⟨rfl, hb⟩; have HB2 := Lib.hid (HF.out.trans (hb.mono HF.out.size)); clear hb)
    go_ret
    exact ⟨ret_val (congrArg Value.bool HRS.out.symm), HB2.out⟩
  | true =>
  cases g1 with
  | false =>
    have HRS : Hid (res = false) := Lib.hid (by rw [HE.out]; rfl)
    clear HE
    go_wp2_with (first
      | (go_at_call 27; (with_reducible refine (HCC.out).mono ?_); rintro e w2 ⟨rfl, hb⟩; have HB2 := Lib.hid hb; obtain ⟨k1, k2, k3, k4, k5, k6, k7⟩ := HC.out w2 hb; clear hb)
      | (go_at_call 28; (with_reducible refine (HGB.out _ HB2.out).mono ?_); rintro e w3 ⟨rfl, hb⟩; have HB3 := Lib.hid (HF.out.trans ((HB2.out.trans (hb.mono HB2.out.size)).mono HF.out.size)); clear hb))
    go_ret
    exact ⟨ret_val (congrArg Value.bool HRS.out.symm), HB3.out⟩
  | true =>
  by_cases e0 : n0 = ep
  rotate_left
  · have HRS : Hid (res = false) := Lib.hid (by rw [HE.out, decide_eq_false e0]; rfl)
    have m0 : (n0 == ep) = false := by simpa using e0
    have m1 : (!(n0 == ep)) = true := by rw [m0]; rfl
    clear HE e0
    go_wp2_with (first
      | (go_at_call 27; (with_reducible refine (HCC.out).mono ?_); rintro e w2 ⟨rfl, hb⟩; have HB2 := Lib.hid hb; obtain ⟨k1, k2, k3, k4, k5, k6, k7⟩ := HC.out w2 hb; clear hb)
      | (go_at_call 28; (with_reducible refine (HGB.out _ HB2.out).mono ?_); rintro e w3 ⟨rfl, hb⟩; have HB3 := Lib.hid (HB2.out.trans (hb.mono HB2.out.size)); obtain ⟨j1, j2, j3, j4, j5, j6, j7⟩ := HC.out w3 (HB2.out.trans (hb.mono HB2.out.size)); clear hb))
    go_ret
    exact ⟨ret_val (congrArg Value.bool HRS.out.symm), HF.out.trans (HB3.out.mono HF.out.size)⟩
  subst e0
  have m0 : (n0 == n0) = true := by simp
  go_upto_region 3 with (first
      | (go_at_call 27; (with_reducible refine (HCC.out).mono ?_); rintro e w2 ⟨rfl, hb⟩; have HB2 := Lib.hid hb; obtain ⟨k1, k2, k3, k4, k5, k6, k7⟩ := HC.out w2 hb; clear hb)
      | (go_at_call 28; (with_reducible refine (HGB.out _ HB2.out).mono ?_); rintro e w3 ⟨rfl, hb⟩; have HB3 := Lib.hid (HB2.out.trans (hb.mono HB2.out.size)); obtain ⟨j1, j2, j3, j4, j5, j6, j7⟩ := HC.out w3 (HB2.out.trans (hb.mono HB2.out.size)); clear hb))
  clear HCC HGC HGB l1 k1 k2 k3 k4 k5 k6 k7 m0 HB2
  have Q1 : ∀ d os, (ldCf (.pointer (some ⟨w.heap.size, 0, none⟩))).run Tryz.prog (grow (redrawn w3 d) os) = .ok (.agg CF) (grow (redrawn w3 d) os) := fun d os => (HC.out _ (HB3.out.trans ((below_regrown w3 d os).mono HB3.out.size))).1
  have Q2 : ∀ d os, (grow (redrawn w3 d) os).cell? ⟨w.heap.size + 1 + 1, 1, none⟩ = some (.slice A vs.length c) := fun d os => (HC.out _ (HB3.out.trans ((below_regrown w3 d os).mono HB3.out.size))).2.2.2.2.2.2
  have K1 : Hid (∀ d os, Calls Tryz.prog 29 #[.agg CF] (grow (redrawn w3 d) os) fun e w'' => e = .returned (.int .i64 (q : Int)) ∧ ∃ p : Regrown, w'' = grow (redrawn w3 p.d) p.os) := Lib.hid (fun d os => Calls.regrown_of (HGQ.out _))
  have K2 : Hid (∀ d os, Calls Tryz.prog 30 #[.slice A vs.length c] (grow (redrawn w3 d) os) fun e w'' => e = .returned (.bool g3) ∧ ∃ p : Regrown, w'' = grow (redrawn w3 p.d) p.os) := Lib.hid (fun d os => Calls.regrown_of (HGR.out _ (HB3.out.trans ((below_regrown w3 d os).mono HB3.out.size))))
  clear HGQ HGR j1 j2 j3 j4 j5 j6 j7
  by_cases hq : q ≤ vs.length
  rotate_left
  · have HRS : Hid (res = false) := Lib.hid (by rw [HE.out, decide_eq_false hq]; simp)
    have n1 : decide (vs.length < q) = true := decide_eq_true (by omega)
    have n2 : decide ((vs.length : Int) < (q : Int)) = true := decide_eq_true (by omega)
    have n3 : (vs.length : Int) < (q : Int) := by omega
    clear HE
    refine wp_region_quiet_below (by kernel_rfl) (by kernel_rfl) ?_
    repeat (go_big_quiet_step (first
      | (go_at_call 29; with_reducible exact K1.out _ _)
      | (go_at_call 30; with_reducible exact K2.out _ _)))
    refine wpQuiet_nil ?_
    intro _ hw'
    obtain ⟨⟨dq, osq⟩, hw''⟩ := hw'
    subst hw''
    have HB4 := Lib.hid (HB3.out.trans ((below_regrown w3 dq osq).mono HB3.out.size))
    clear Q1 Q2 K1 K2
    generalize grow (redrawn w3 dq) osq = w4 at *
    clear n1 n2 n3
    go_wp2
    go_ret
    exact ⟨ret_val (congrArg Value.bool HRS.out.symm), HF.out.trans (HB4.out.mono HF.out.size)⟩
  have n1 : decide (vs.length < q) = false := decide_eq_false (by omega)
  have n2 : decide ((vs.length : Int) < (q : Int)) = false := decide_eq_false (by omega)
  have n3 : ¬ (vs.length : Int) < (q : Int) := by omega
  cases g3 with
  | false =>
    have HRS : Hid (res = false) := Lib.hid (by rw [HE.out]; simp)
    clear HE
    refine wp_region_quiet_below (by kernel_rfl) (by kernel_rfl) ?_
    repeat (go_big_quiet_step (first
      | (go_at_call 29; with_reducible exact K1.out _ _)
      | (go_at_call 30; with_reducible exact K2.out _ _)))
    refine wpQuiet_nil ?_
    intro _ hw'
    obtain ⟨⟨dq, osq⟩, hw''⟩ := hw'
    subst hw''
    have HB4 := Lib.hid (HB3.out.trans ((below_regrown w3 dq osq).mono HB3.out.size))
    clear Q1 Q2 K1 K2
    generalize grow (redrawn w3 dq) osq = w4 at *
    clear n1 n2 n3
    go_wp2
    go_ret
    exact ⟨ret_val (congrArg Value.bool HRS.out.symm), HF.out.trans (HB4.out.mono HF.out.size)⟩
  | true =>
  have HRS : Hid (res = (vs.map VtM.x).all (ok14 ms n0 hh r d)) := Lib.hid (by rw [HE.out, decide_eq_true hq]; simp)
  clear HE
  refine wp_region_quiet_below (by kernel_rfl) (by kernel_rfl) ?_
  repeat (go_big_quiet_step (first
    | (go_at_call 29; with_reducible exact K1.out _ _)
    | (go_at_call 30; with_reducible exact K2.out _ _)))
  refine wpQuiet_nil ?_
  intro _ hw'
  obtain ⟨⟨dq, osq⟩, hw''⟩ := hw'
  subst hw''
  have HB4 := Lib.hid (HB3.out.trans ((below_regrown w3 dq osq).mono HB3.out.size))
  clear Q1 Q2 K1 K2
  generalize grow (redrawn w3 dq) osq = w4 at *
  clear n1 n2 n3 hq
  have HF4 := Lib.hid (HF.out.trans (HB4.out.mono HF.out.size))
  have lb := (HC.out w4 HB4.out).2.2.1
  have HDC := Lib.hid (HGD.out w4 HB4.out)
  have hal := al_dg14
  go_upto_region 6 with (go_at_call 22; (with_reducible refine (HDC.out).mono ?_); rintro e w5 ⟨rfl, hb⟩; obtain ⟨w6, hst, hb6, hbl6⟩ := laid_dg14 w5 HDL.out; have HD6 := Lib.hid hb6; have HB6 := Lib.hid (HB4.out.trans ((hb.trans (hbl6.mono hb.size)).mono HB4.out.size)); clear hb hb6 hbl6)
  clear hst hal lb HDC HGD HB4 HB3 HF4
  generalize w5.heap.size = gd at *
  have k7 := (HC.out w6 HB6.out).2.2.2.2.2.2
  go_wp2
  clear k7
  go_loopw [42] (fun i wr => ∃ k : Nat, k ≤ vs.length ∧ i = .int .i64 (k : Int) ∧ Hid (Below w6.heap.size w6 wr) ∧ Hid (∀ j (h : j < vs.length), j < k → ok14 ms n0 hh r d (vs[j]'h).x = true)) (fun i _ => vs.length - (intOf i).toNat)
  case atStart => exact ⟨0, Nat.zero_le _, rfl, Lib.hid (Below.refl _ _), Lib.hid (fun j h h2 => by omega)⟩
  case round =>
    obtain ⟨k, hk, rfl, HW, HI⟩ := hrel
    have HBR := Lib.hid (HB6.out.trans (HW.out.mono HB6.out.size))
    by_cases hlt : k < vs.length
    rotate_left
    · have i1 : ¬ (k : Int) < (vs.length : Int) := by omega
      have HR2 : Hid (res = true) := Lib.hid (by
        rw [HRS.out, List.all_eq_true]
        intro x hx
        obtain ⟨m, hm, rfl⟩ := List.mem_map.1 hx
        obtain ⟨j, hj, rfl⟩ := List.getElem_of_mem hm
        exact HI.out j hj (by omega))
      go_wp2
      go_ret
      exact ⟨ret_val (congrArg Value.bool HR2.out.symm), HF.out.trans (HBR.out.mono HF.out.size)⟩
    have i1 : (k : Int) < (vs.length : Int) := by omega
    have i0 : (0 : Int) ≤ (k : Int) := by omega
    obtain ⟨g, o, hA, hlv⟩ := row_vote (EK.See.far HV1.out HBR.out) hlt
    subst hA
    have lv := hlv wr (Below.refl _ _)
    have HM : Hid ((vs[k]'hlt) ∈ vs) := Lib.hid (List.getElem_mem hlt)
    have HNO : Hid (ok14 ms n0 hh r d (vs[k]'hlt).x = false → res = false) := Lib.hid (fun h => by
      rw [HRS.out, List.all_eq_false]
      exact ⟨(vs[k]'hlt).x, List.mem_map.2 ⟨_, HM.out, rfl⟩, by rw [h]; simp⟩)
    have HYE : Hid (ok14 ms n0 hh r d (vs[k]'hlt).x = true → ∀ j (h : j < vs.length), j < k + 1 → ok14 ms n0 hh r d (vs[j]'h).x = true) := Lib.hid (fun h j hj hjk => by
      by_cases e : j = k
      · subst e
        exact h
      · exact HI.out j hj (by omega))
    have HLT := Lib.hid hlt
    clear hlv
    generalize vs[k]'hlt = m at *
    have HOK : Hid (ok14 ms n0 hh r d m.x = (says14 m.x hh r d && rightX14 ms n0 m.x)) := Lib.hid rfl
    generalize ok14 ms n0 hh r d m.x = ok at *
    obtain ⟨w8, hst8, hb8, hbl8⟩ := laid_vt wr m
    have HX8 := Lib.hid hb8
    have HB8 := Lib.hid (HBR.out.trans (hbl8.mono HBR.out.size))
    have HW8 := Lib.hid (HW.out.trans (hbl8.mono HW.out.size))
    have hav := al_vt14
    have l8 := HX8.out.ld_vt
    have l9 := (HD6.out.below HW8.out HD6.out.lt).load_digest HDL.out
    obtain ⟨k1, k2, k3, k4, k5, k6, k7⟩ := HC.out w8 HB8.out
    have HSY := Lib.hid (says_any14 m hh r d HDL.out w8)
    have HRX : Hid (∀ w', Below w8.heap.size w8 w' → Calls Tryz.prog 32 #[.agg CF, .agg m.cells.toArray] w' fun e w'' => e = .returned (.bool (rightX14 ms n0 m.x)) ∧ Below w'.heap.size w' w'') := Lib.hid (fun w' hb => HGI.out w' (HB8.out.trans (hb.mono HB8.out.size)) m HM.out)
    have wk : IntKind.i64.wrap ((k : Int) + 1) = ((k + 1 : Nat) : Int) := by rw [IntKind.wrap_i64]; have := HLN.out; omega
    generalize hsy : says14 m.x hh r d = sy at *
    generalize hrx : rightX14 ms n0 m.x = rx at *
    generalize (d.map bv).toArray = DC at *
    have HLB : Hid (∀ w', Below w8.heap.size w8 w' → (ldVt (.pointer (some ⟨wr.heap.size, 0, none⟩))).run Tryz.prog w' = .ok (.agg m.cells.toArray) w') := Lib.hid (fun w' hb => (HX8.out.below hb HX8.out.lt).ld_vt)
    clear hb8 hbl8 hsy hrx
    cases sy with
    | false =>
      have HR2 : Hid (res = false) := Lib.hid (HNO.out (by rw [HOK.out]; rfl))
      clear HNO HYE HOK
      go_wp2_with (go_at_call 31; (with_reducible refine (HSY.out).mono ?_); rintro e w9 ⟨rfl, hb⟩; have HB9 := Lib.hid (HB8.out.trans (hb.mono HB8.out.size)); clear hb)
      go_ret
      exact ⟨ret_val (congrArg Value.bool HR2.out.symm), HF.out.trans (HB9.out.mono HF.out.size)⟩
    | true =>
      cases rx with
      | false =>
        have HR2 : Hid (res = false) := Lib.hid (HNO.out (by rw [HOK.out]; rfl))
        clear HNO HYE HOK
        go_wp2_with (first
          | (go_at_call 31; (with_reducible refine (HSY.out).mono ?_); rintro e w9 ⟨rfl, hb⟩; have HB9 := Lib.hid hb; have q1 := HLB.out w9 hb; have q2 := (HC.out w9 (HB8.out.trans (hb.mono HB8.out.size))).1; clear hb)
          | (go_at_call 32; (with_reducible refine (HRX.out _ HB9.out).mono ?_); rintro e w10 ⟨rfl, hb⟩; have HB10 := Lib.hid (HB8.out.trans ((HB9.out.trans (hb.mono HB9.out.size)).mono HB8.out.size)); clear hb))
        go_ret
        exact ⟨ret_val (congrArg Value.bool HR2.out.symm), HF.out.trans (HB10.out.mono HF.out.size)⟩
      | true =>
        have HY2 := Lib.hid (HYE.out (by rw [HOK.out]; rfl))
        clear HNO HYE HOK
        go_wp2_with (first
          | (go_at_call 31; (with_reducible refine (HSY.out).mono ?_); rintro e w9 ⟨rfl, hb⟩; have HB9 := Lib.hid hb; have q1 := HLB.out w9 hb; have q2 := (HC.out w9 (HB8.out.trans (hb.mono HB8.out.size))).1; clear hb)
          | (go_at_call 32; (with_reducible refine (HRX.out _ HB9.out).mono ?_); rintro e w10 ⟨rfl, hb⟩; have HB10 := Lib.hid (HW8.out.trans ((HB9.out.trans (hb.mono HB9.out.size)).mono HW8.out.size)); clear hb))
        go_roundw
        case rel => exact ⟨k + 1, HLT.out, by go_num, HB10, HY2⟩
        case measure => have := HLT.out; simp [intOf]; omega
end Go.Proofs.YtejnfgcnifcpaaaGreatDoor

namespace Go.Proofs.YtejnfgcnifcpaaaGreatDoor
open Go.RowKit Go.Maps Go.Sort

attribute [local go_sem ↓] ldReq_def stReq_def ldBlk_def stBlk_def ldVt_def stVt_def alVt14_def

/-- A block's bytes are fewer. -/
structure Few14 (x : BlkX) : Prop where
  len : x.reqs.length ≤ 40
  txt : ∀ q ∈ x.reqs, q.key.size ≤ 4096 ∧ q.val.size ≤ 4096 ∧ q.old.size ≤ 4096
set_option maxRecDepth 100000 in
theorem Few14.few {x : BlkX} (h : Few14 x) : Few x := ⟨h.len, fun q hq => by have := h.txt q hq; omega⟩
def GreatB14 (b : BlkM) (w : World) (e : Ending) (w' : World) : Prop := ∃ g : Bool, e = .returned (.bool g) ∧ (g = false → Few14 b.x) ∧ Below w.heap.size w w'
set_option maxRecDepth 100000 in
theorem GreatB14.yes {b : BlkM} {w w' : World} (h : Below w.heap.size w w') : GreatB14 b w (.returned (.bool true)) w' := ⟨true, rfl, fun h => (by cases h), h⟩

set_option maxRecDepth 100000 in
set_option maxHeartbeats 4000000 in
theorem great_any14 (b : BlkM) (hn : b.x.reqs.length ≤ 140737488351232) (hq : ∀ q ∈ b.x.reqs, q.key.size ≤ 140737488351232 ∧ q.val.size ≤ 140737488351232 ∧ q.old.size ≤ 140737488351232) (w : World) (hS : QSee w w.heap.size b.A b.x.reqs) :
    Calls Tryz.prog 26 #[.agg b.cells.toArray, .int .i64 4096] w (GreatB14 b w) := by
  have HB : Hid (Box (w.alloc (.cells b.cells.toArray 29)) w.heap.size 29 b.cells.toArray) := Box.made _ _ _
  have c2 : (w.alloc (.cells b.cells.toArray 29)).cell? ⟨w.heap.size, 98, none⟩ = some (.slice b.A b.x.reqs.length b.z) := HB.out.bk_98 b.x.lp b.x.ls b.x.ln
  have HF : Hid (Below w.heap.size w (w.alloc (.cells b.cells.toArray 29))) := Lib.hid ((Below.refl _ _).alloc (Nat.le_refl _) _)
  have HS := Lib.hid hS
  have HQ := Lib.hid hq
  have HX : Hid (b.x.reqs.length ≤ 40 → (∀ q ∈ b.x.reqs, q.key.size ≤ 4096 ∧ q.val.size ≤ 4096 ∧ q.old.size ≤ 4096) → Few14 b.x) := Lib.hid (fun h1 h2 => ⟨h1, h2⟩)
  clear HB hS hq
  generalize b.cells.toArray = cs at *
  generalize b.x.reqs = xs at *
  generalize b.A = A at *
  generalize b.z = z at *
  by_cases h40 : 40 < xs.length
  · have e8 : decide ((40 : Int) < (xs.length : Int)) = true := decide_eq_true (by omega)
    clear h40 hn
    go_enter Tryz.func26, Tryz.ntmps26
    go_wp2
    go_ret
    exact GreatB14.yes HF.out
  have HN : Hid (xs.length ≤ 40) := Lib.hid (by omega)
  have e8 : decide ((40 : Int) < (xs.length : Int)) = false := decide_eq_false (by omega)
  clear hn h40
  go_enter Tryz.func26, Tryz.ntmps26
  go_wp2
  clear c2 e8
  generalize w.alloc (.cells cs 29) = w1 at *
  go_loopw [5, 17] (fun n i wr => ∃ k t : Nat, k ≤ xs.length ∧ i = .int .i64 (k : Int) ∧ n = .int .i64 (t : Int) ∧ Hid (t ≤ 4096 ∧ ∀ j (hj : j < xs.length), j < k → (xs[j]'hj).key.size ≤ 4096 ∧ (xs[j]'hj).val.size ≤ 4096 ∧ (xs[j]'hj).old.size ≤ 4096) ∧ Hid (Below w.heap.size w wr)) (fun _ i _ => xs.length - (intOf i).toNat)
  case atStart => exact ⟨0, 0, Nat.zero_le _, rfl, rfl, Lib.hid ⟨by omega, fun j _ h => by omega⟩, HF⟩
  case round =>
    obtain ⟨k, t, hk, rfl, rfl, HT, HW⟩ := hrel
    by_cases hlt : k < xs.length
    · have HLT := Lib.hid hlt
      obtain ⟨g, o, rfl, _, hr⟩ := (HS.out.far HW.out).at_ hlt
      have lk := hr k hlt
      have i1 : (k : Int) < (xs.length : Int) := by omega
      have i0 : (0 : Int) ≤ (k : Int) := by omega
      have wk : IntKind.i64.wrap ((k : Int) + 1) = ((k + 1 : Nat) : Int) := by rw [IntKind.wrap_i64]; have := HN.out; omega
      have wt : IntKind.i64.wrap ((t : Int) + 100) = ((t + 100 : Nat) : Int) := by rw [IntKind.wrap_i64]; have := HT.out.1; have := HN.out; omega
      obtain ⟨w4, hst, hb4, hg4⟩ := (Box.made wr 113 zreqV).st_req rfl (xs[k]'hlt)
      have hF4 : Below wr.heap.size wr w4 := ((Below.refl _ _).alloc (Nat.le_refl _) _).trans (below_only hg4 (Nat.le_refl _) (by simp))
      have HW4 := Lib.hid (HW.out.trans (hF4.mono HW.out.size))
      have HKV := Lib.hid (HQ.out _ (List.getElem_mem hlt))
      have d3 : w4.cell? ⟨wr.heap.size, 3, none⟩ = some (.string (xs[k]'hlt).key) := hb4.rq_cell rfl
      have d4 : w4.cell? ⟨wr.heap.size, 4, none⟩ = some (.string (xs[k]'hlt).val) := hb4.rq_cell rfl
      have d5 : w4.cell? ⟨wr.heap.size, 5, none⟩ = some (.string (xs[k]'hlt).old) := hb4.rq_cell rfl
      have HNX : Hid ((xs[k]'hlt).key.size ≤ 4096 → (xs[k]'hlt).val.size ≤ 4096 → (xs[k]'hlt).old.size ≤ 4096 → ∀ j (hj : j < xs.length), j < k + 1 → (xs[j]'hj).key.size ≤ 4096 ∧ (xs[j]'hj).val.size ≤ 4096 ∧ (xs[j]'hj).old.size ≤ 4096) := Lib.hid (fun h1 h2 h3 j hj hjk => by
        rcases Nat.lt_or_ge j k with h | h
        · exact HT.out.2 j hj h
        · obtain rfl : j = k := by omega
          exact ⟨h1, h2, h3⟩)
      generalize (xs[k]'hlt).cells.toArray = qc at *
      generalize (xs[k]'hlt).key = s3 at *
      generalize (xs[k]'hlt).val = s4 at *
      generalize (xs[k]'hlt).old = s5 at *
      clear hr hb4 hg4 hF4
      go_wp2
      clear lk hst d3 d4 d5
      go_loopw [5, 33] (fun n i wr' => ∃ j u : Nat, j ≤ 3 ∧ i = .int .i64 (j : Int) ∧ n = .int .i64 (u : Int) ∧ Hid (u ≤ 4196 ∧ (1 ≤ j → u ≤ 4096) ∧ (1 ≤ j → s3.size ≤ 4096) ∧ (2 ≤ j → s4.size ≤ 4096) ∧ (3 ≤ j → s5.size ≤ 4096)) ∧ w4 = wr') (fun _ i _ => 3 - (intOf i).toNat)
      case atStart => exact ⟨0, t + 100, by omega, rfl, by go_num, Lib.hid ⟨by have := HT.out.1; omega, fun h => by omega, fun h => by omega, fun h => by omega, fun h => by omega⟩, rfl⟩
      case round =>
        obtain ⟨j, u, hj, rfl, rfl, HU, rfl⟩ := hrel
        by_cases hj3 : j < 3
        · have HJ := Lib.hid hj3
          obtain ⟨sx, hix, hsx, hnx⟩ : ∃ sx : ByteArray, (Instr.index 114 (.agg #[.string s3, .string s4, .string s5]) (.int .i64 (j : Int))).run Tryz.prog w4 = .ok (.string sx) w4 ∧ sx.size ≤ 140737488351232 ∧ (sx.size ≤ 4096 → (1 ≤ j + 1 → s3.size ≤ 4096) ∧ (2 ≤ j + 1 → s4.size ≤ 4096) ∧ (3 ≤ j + 1 → s5.size ≤ 4096)) := by
            have h := HU.out
            match j, hj3 with
            | 0, _ => exact ⟨s3, by kernel_rfl, HKV.out.1, fun h0 => ⟨fun _ => h0, fun h => by omega, fun h => by omega⟩⟩
            | 1, _ => exact ⟨s4, by kernel_rfl, HKV.out.2.1, fun h0 => ⟨fun _ => h.2.2.1 (by omega), fun _ => h0, fun h => by omega⟩⟩
            | 2, _ => exact ⟨s5, by kernel_rfl, HKV.out.2.2, fun h0 => ⟨fun _ => h.2.2.1 (by omega), fun _ => h.2.2.2.1 (by omega), fun _ => h0⟩⟩
          have j1 : (j : Int) < 3 := by omega
          have j0 : (0 : Int) ≤ (j : Int) := by omega
          have wj : IntKind.i64.wrap ((j : Int) + 1) = ((j + 1 : Nat) : Int) := by rw [IntKind.wrap_i64]; omega
          have wu : IntKind.i64.wrap ((u : Int) + (sx.size : Int)) = ((u + sx.size : Nat) : Int) := by rw [IntKind.wrap_i64]; have := HU.out.1; omega
          by_cases hb : 4096 < u + sx.size
          · have e2 : decide ((4096 : Int) < ((u + sx.size : Nat) : Int)) = true := decide_eq_true (by omega)
            clear hj hj3 hsx hnx hb
            generalize u + sx.size = v at *
            go_wp2
            go_ret
            exact GreatB14.yes HW4.out
          · have e2 : decide ((4096 : Int) < ((u + sx.size : Nat) : Int)) = false := decide_eq_false (by omega)
            have HV : Hid (u + sx.size ≤ 4096) := Lib.hid (by omega)
            have HX2 := Lib.hid (hnx (by omega))
            clear hj hj3 hsx hnx hb
            generalize u + sx.size = v at *
            go_wp2
            go_roundw
            case rel => exact ⟨j + 1, v, HJ.out, by go_num, rfl, Lib.hid ⟨by have := HV.out; omega, fun _ => HV.out, HX2.out⟩, by first | rfl | trivial⟩
            case measure => have := HJ.out; simp [intOf]; omega
        · have j1 : ¬ (j : Int) < 3 := by omega
          have HJ : Hid (j = 3) := Lib.hid (by omega)
          have HT2 : Hid (u ≤ 4096 ∧ ∀ j (hj : j < xs.length), j < k + 1 → (xs[j]'hj).key.size ≤ 4096 ∧ (xs[j]'hj).val.size ≤ 4096 ∧ (xs[j]'hj).old.size ≤ 4096) := by
            obtain ⟨_, h1, h2, h3, h4⟩ := HU.out
            have h3' := HJ.out
            exact Lib.hid ⟨h1 (by omega), HNX.out (h2 (by omega)) (h3 (by omega)) (h4 (by omega))⟩
          clear hj hj3 HU
          go_wp2
          go_roundw
          case rel => exact ⟨k + 1, u, HLT.out, by go_num, rfl, HT2, HW4⟩
          case measure => have := HLT.out; simp [intOf]; omega
    · have i1 : ¬ (k : Int) < (xs.length : Int) := by omega
      have e2 : decide ((4096 : Int) < (t : Int)) = false := decide_eq_false (by have := HT.out.1; omega)
      have HFW : Hid (Few14 b.x) := Lib.hid (HX.out HN.out (fun q hq => by
        obtain ⟨j, hj, rfl⟩ := List.mem_iff_getElem.1 hq
        exact HT.out.2 j hj (by omega)))
      clear hk
      go_wp2
      go_ret
      exact ⟨false, rfl, fun _ => HFW.out, HW.out⟩

/-- What is played when it isn't great. -/
structure CSmall (ms : List MemX) (b : BlkX) (vs : List VtM) : Prop where
  mem : ms.length ≤ 20
  blk : Few14 b
  len : vs.length ≤ 12
  few : ∀ m ∈ vs, VFew m.x
def GreatC (ms : List MemX) (b : BlkX) (vs : List VtM) (w : World) (e : Ending) (w' : World) : Prop := ∃ g : Bool, e = .returned (.bool g) ∧ (g = false → CSmall ms b vs) ∧ Below w.heap.size w w'
set_option maxRecDepth 100000 in
theorem GreatC.yes {ms : List MemX} {b : BlkX} {vs : List VtM} {w w' : World} (h : Below w.heap.size w w') : GreatC ms b vs w (.returned (.bool true)) w' := ⟨true, rfl, fun h => (by cases h), h⟩

set_option maxRecDepth 100000 in
set_option maxHeartbeats 8000000 in
theorem cgreat_any (ms : List MemX) (ep : Int) (AM : Option Addr) (cM : Nat) (b : BlkM) (hn : b.x.reqs.length ≤ 140737488351232) (hq : ∀ q ∈ b.x.reqs, q.key.size ≤ 140737488351232 ∧ q.val.size ≤ 140737488351232 ∧ q.old.size ≤ 140737488351232) (r : Int) (vs : List VtM) (A : Option Addr) (c : Nat) (w : World) (hB : QSee w w.heap.size b.A b.x.reqs) (hV : VtK.See w w.heap.size A vs) :
    Calls Tryz.prog 6 #[.agg (cfgV ep AM ms.length cM), .agg b.cells.toArray, .agg (crtV r A vs.length c)] w (GreatC ms b.x vs w) := by
  obtain ⟨w1, hw1⟩ : ∃ w1, w1 = ((w.alloc (.cells (cfgV ep AM ms.length cM) 24)).alloc (.cells b.cells.toArray 29)).alloc (.cells (crtV r A vs.length c) 32) := ⟨_, rfl⟩
  have hX : Box w1 w.heap.size 24 (cfgV ep AM ms.length cM) := by rw [hw1]; exact ((Box.made w _ _).alloc _).alloc _
  have hY : Box w1 (w.heap.size + 1) 29 b.cells.toArray := by rw [hw1]; exact (Box.made_at (by simp) _ _).alloc _
  have hZ : Box w1 (w.heap.size + 1 + 1) 32 (crtV r A vs.length c) := by rw [hw1]; exact Box.made_at (by simp) _ _
  have HF : Hid (Below w.heap.size w w1) := by rw [hw1]; exact (((Below.refl _ _).alloc (Nat.le_refl _) _).alloc (by simp) _).alloc (by simp; omega) _
  have c1 : w1.cell? ⟨w.heap.size, 1, none⟩ = some (.slice AM ms.length cM) := hX.cell 1
  have lb := hY.ld_blk
  have HZ := Lib.hid hZ
  have HG := Lib.hid (great_any14 b hn hq w1 (hB.far HF.out))
  have HV1 := Lib.hid (EK.See.far hV HF.out)
  have HEND : Hid (ms.length ≤ 20 → Few14 b.x → vs.length ≤ 12 → (∀ m ∈ vs, VFew m.x) → CSmall ms b.x vs) := Lib.hid (fun h1 h2 h3 h4 => ⟨h1, h2, h3, h4⟩)
  clear hX hY hZ hn hq hB hV
  generalize b.cells.toArray = BC at *
  go_enter Tryz.func6, Tryz.ntmps6
  go_upto_region 1 with fail
  change Code.wp _ _ _ _ (((w.alloc (.cells (cfgV ep AM ms.length cM) 24)).alloc (.cells BC 29)).alloc (.cells (crtV r A vs.length c) 32))
  rw [← hw1]
  clear hw1
  by_cases h20 : 20 < ms.length
  · have e1 : decide ((20 : Int) < (ms.length : Int)) = true := decide_eq_true (by omega)
    go_wp2
    go_ret
    exact GreatC.yes HF.out
  have e1 : decide ((20 : Int) < (ms.length : Int)) = false := decide_eq_false (by omega)
  have H20 : Hid (ms.length ≤ 20) := Lib.hid (by omega)
  clear h20
  go_wp2_with fail
  refine (HG.out).mono ?_
  rintro e w2 ⟨g, rfl, hg, hb⟩
  have HB2 := Lib.hid hb
  cases g with
  | true =>
    have c2 : w2.cell? ⟨w.heap.size + 1 + 1, 1, none⟩ = some (.slice A vs.length c) := (HZ.out.below HB2.out HZ.out.lt).cell 1
    clear hg hb
    go_wp2
    go_ret
    exact GreatC.yes (HF.out.trans (HB2.out.mono HF.out.size))
  | false =>
  have HFW := Lib.hid (hg rfl)
  have c2 : w2.cell? ⟨w.heap.size + 1 + 1, 1, none⟩ = some (.slice A vs.length c) := (HZ.out.below HB2.out HZ.out.lt).cell 1
  clear hg hb HG lb c1 e1
  by_cases h12 : 12 < vs.length
  · have e2 : decide ((12 : Int) < (vs.length : Int)) = true := decide_eq_true (by omega)
    go_wp2
    go_ret
    exact GreatC.yes (HF.out.trans (HB2.out.mono HF.out.size))
  have e2 : decide ((12 : Int) < (vs.length : Int)) = false := decide_eq_false (by omega)
  have H12 : Hid (vs.length ≤ 12) := Lib.hid (by omega)
  clear h12
  go_wp2
  clear c2 e2
  go_loopw [26] (fun i wr => ∃ k : Nat, k ≤ vs.length ∧ i = .int .i64 (k : Int) ∧ Hid (Below w1.heap.size w1 wr) ∧ Hid (∀ j (h : j < vs.length), j < k → VFew (vs[j]'h).x)) (fun i _ => vs.length - (intOf i).toNat)
  case atStart => exact ⟨0, Nat.zero_le _, rfl, HB2, Lib.hid (fun j h h2 => by omega)⟩
  case round =>
    obtain ⟨k, hk, rfl, HW, HI⟩ := hrel
    by_cases hlt : k < vs.length
    rotate_left
    · have i1 : ¬ (k : Int) < (vs.length : Int) := by omega
      have HEE : Hid (CSmall ms b.x vs) := Lib.hid (HEND.out H20.out HFW.out H12.out (fun m hm => by
        obtain ⟨j, hj, rfl⟩ := List.getElem_of_mem hm
        exact HI.out j hj (by omega)))
      go_wp2
      go_ret
      exact ⟨false, rfl, fun _ => HEE.out, HF.out.trans (HW.out.mono HF.out.size)⟩
    have i1 : (k : Int) < (vs.length : Int) := by omega
    have i0 : (0 : Int) ≤ (k : Int) := by omega
    obtain ⟨g, o, hA, hlv⟩ := row_vote (EK.See.far HV1.out HW.out) hlt
    subst hA
    have lv := hlv wr (Below.refl _ _)
    have HYE : Hid (VFew (vs[k]'hlt).x → ∀ j (h : j < vs.length), j < k + 1 → VFew (vs[j]'h).x) := Lib.hid (fun h j hj hjk => by
      by_cases e : j = k
      · subst e
        exact h
      · exact HI.out j hj (by omega))
    have HLT := Lib.hid hlt
    clear hlv
    generalize vs[k]'hlt = m at *
    obtain ⟨w8, hst8, hb8, hbl8⟩ := laid_vt wr m
    have HW8 := Lib.hid (HW.out.trans (hbl8.mono HW.out.size))
    have hav := al_vt14
    have wk : IntKind.i64.wrap ((k : Int) + 1) = ((k + 1 : Nat) : Int) := by rw [IntKind.wrap_i64]; have := H12.out; omega
    have d1 : w8.cell? ⟨wr.heap.size, 38, none⟩ = some (.slice m.A m.x.opn.length m.a) := hb8.vt_38 m.x.len
    have d2 : w8.cell? ⟨wr.heap.size, 39, none⟩ = some (.slice m.B m.x.sht.length m.b) := hb8.vt_39 m.x.len
    have d3 : w8.cell? ⟨wr.heap.size, 40, none⟩ = some (.slice m.C m.x.pth.length m.c) := hb8.vt_40 m.x.len
    have HFV : Hid (m.x.opn.length ≤ 200 → m.x.sht.length ≤ 200 → m.x.pth.length ≤ 200 → VFew m.x) := Lib.hid (fun h1 h2 h3 => ⟨h1, h2, h3⟩)
    clear hb8 hbl8
    generalize m.x.opn.length = z1 at *
    generalize m.x.sht.length = z2 at *
    generalize m.x.pth.length = z3 at *
    by_cases g1 : 200 < z1
    · have e1 : decide ((200 : Int) < (z1 : Int)) = true := decide_eq_true (by omega)
      go_wp2
      go_ret
      exact GreatC.yes (HF.out.trans (HW8.out.mono HF.out.size))
    have e1 : decide ((200 : Int) < (z1 : Int)) = false := decide_eq_false (by omega)
    by_cases g2 : 200 < z2
    · have e2 : decide ((200 : Int) < (z2 : Int)) = true := decide_eq_true (by omega)
      go_wp2
      go_ret
      exact GreatC.yes (HF.out.trans (HW8.out.mono HF.out.size))
    have e2 : decide ((200 : Int) < (z2 : Int)) = false := decide_eq_false (by omega)
    by_cases g3 : 200 < z3
    · have e3 : decide ((200 : Int) < (z3 : Int)) = true := decide_eq_true (by omega)
      go_wp2
      go_ret
      exact GreatC.yes (HF.out.trans (HW8.out.mono HF.out.size))
    have e3 : decide ((200 : Int) < (z3 : Int)) = false := decide_eq_false (by omega)
    have HY2 := Lib.hid (HYE.out (HFV.out (by omega) (by omega) (by omega)))
    clear HYE HFV
    go_wp2
    go_roundw
    case rel => exact ⟨k + 1, HLT.out, by go_num, HW8, HY2⟩
    case measure => have := HLT.out; simp [intOf]; omega
end Go.Proofs.YtejnfgcnifcpaaaGreatDoor

namespace Go.Proofs.YtejnfgcnifcpaaaGreatDoor
open Go.RowKit Go.Maps Go.Sort

attribute [local go_sem ↓] bsT_def apAll_def
set_option maxRecDepth 100000 in
theorem clone_d14 (ds : List (List UInt8)) (A : Option Addr) (c : Nat) (hn : ds.length ≤ 200) (w : World) (hD : Digs w w.heap.size A ds) :
    Calls Tryz.prog 104 #[.slice A ds.length c] w fun e w' => ∃ A' c', e = .returned (.slice A' ds.length c') ∧ Digs w' w'.heap.size A' ds ∧ DFresh w.heap.size A' ds ∧ ds.length ≤ c' ∧ Below w.heap.size w w' := by
  obtain ⟨xs, rfl, hS⟩ := dgs_sub hD
  have hall : ∀ d ∈ xs.map (·.1), d.length = 32 := hD.1
  rw [List.length_map] at hn ⊢
  cases A with
  | none =>
    have hxs : xs = [] := hS.nil
    subst hxs
    have hq : ∀ w, (binOp .eql 63 (.slice none 0 c) (.slice none 0 0)).run Tryz.prog w = .ok (.bool true) w := fun w => Lib.run_eql_slice_nil w _ 26 none 0 c 0 0 Tryz.underlying63
    have HD := Lib.hid (hD.far (Below.refl _ _))
    clear hD hS hall
    go_enter Tryz.func104, Tryz.ntmps104
    go_wp2
    go_ret
    exact ⟨none, 0, rfl, HD.out, .inl rfl, Nat.le_refl _, Below.refl _ _⟩
  | some ad =>
    obtain ⟨w1, hw1⟩ : ∃ w1, w1 = w.alloc (.cells #[] 26) := ⟨_, rfl⟩
    have hF1 : Below w.heap.size w w1 := by
      rw [hw1]
      exact (Below.refl _ _).alloc (Nat.le_refl _) _
    have hb0 : (bsT 63 0 #[]).run Tryz.prog w = .ok (.slice (some ⟨w.heap.size, 0, none⟩) 0 0) w1 := by
      rw [hw1]
      exact DgK.build0 w
    have ho1 : DgK.Own w1 w.heap.size (.slice (some ⟨w.heap.size, 0, none⟩) 0 0) [] := by
      rw [hw1]
      exact DgK.own0 w (Nat.le_refl _)
    obtain ⟨v2, w2, hap0, ho2, hg2⟩ := DgK.append ho1 (A := some ad) (m := xs.length) (c := c) (es := xs) rfl (EK.See.far hS hF1) (by simp; omega) (by show (([] : List {d : List UInt8 // d.length = 32}).length + xs.length) * 32 ≤ _; simp; omega) hF1.size
    obtain ⟨A2, c2, rfl⟩ := ho2.slice
    have hap : (apAll #[63, 63] 63 #[.slice (some ⟨w.heap.size, 0, none⟩) 0 0, .slice (some ad) xs.length c]).run Tryz.prog w1 = .ok (.slice A2 xs.length c2) w2 := hap0
    have hsee : DgK.See w2 w2.heap.size A2 xs := EK.Own.see ho2
    have HO : Hid (Digs w2 w2.heap.size A2 (xs.map (·.1))) := Lib.hid ⟨hall, by
      have h6 : Sees w2 w2.heap.size A2 (DgK.flat xs) := hsee
      rw [dgk_flat] at h6
      exact h6⟩
    have HFR : Hid (DFresh w.heap.size A2 (xs.map (·.1))) := Lib.hid (by
      rcases Nat.eq_zero_or_pos xs.length with h0 | h0
      · exact .inl (by rw [List.eq_nil_of_length_eq_zero h0]; rfl)
      · obtain ⟨_, _, _, hp⟩ := ho2.bounds
        obtain ⟨g, e, hB, _⟩ := hp (by simpa using h0)
        exact .inr ⟨g, e, hB⟩)
    have HCP : Hid (xs.length ≤ c2) := Lib.hid ho2.bounds.2.1
    have HF : Hid (Below w.heap.size w w2) := Lib.hid (hF1.trans (below_own ho1 hg2 hF1.size))
    have hq : ∀ w, (binOp .eql 63 (.slice (some ad) xs.length c) (.slice none 0 0)).run Tryz.prog w = .ok (.bool false) w := fun w => Lib.run_eql_slice_nil w _ 26 (some ad) _ c 0 0 Tryz.underlying63
    clear hS hw1 hF1 ho1 ho2 hg2 hn hap0 hD hsee hall
    go_enter Tryz.func104, Tryz.ntmps104
    go_wp2
    go_ret
    exact ⟨A2, c2, rfl, HO.out, HFR.out, HCP.out, HF.out⟩

attribute [local go_sem ↓] ldVt_def stVt_def
set_option maxRecDepth 100000 in
set_option maxHeartbeats 2000000 in
theorem cclone_any (m : VtM) (hf : VFew m.x) (w : World) (hS : VSee w m) :
    Calls Tryz.prog 59 #[.agg m.cells.toArray] w fun e w' => ∃ m' : VtM, m'.x = m.x ∧ e = .returned (.agg m'.cells.toArray) ∧ SgSee w' m'.sg ∧ FreshM w.heap.size m' ∧ Below w.heap.size w w' := by
  obtain ⟨w1, hw1⟩ : ∃ w1, w1 = (w.alloc (.cells m.cells.toArray 69)).alloc (.cells zvtV 69) := ⟨_, rfl⟩
  have HX : Hid (Box w1 w.heap.size 69 m.cells.toArray) := by rw [hw1]; exact (Box.made w _ _).alloc _
  have HY : Hid (Box w1 (w.heap.size + 1) 69 zvtV) := by rw [hw1]; exact Box.made_at (by simp) _ _
  have HF : Hid (Below w.heap.size w w1) := by rw [hw1]; exact ((Below.refl _ _).alloc (Nat.le_refl _) _).alloc (by simp) _
  have HZ : Hid (w1.heap.size = w.heap.size + 2) := by rw [hw1]; exact Lib.hid (by simp)
  have HFW := Lib.hid hf
  obtain ⟨⟨k, e, h, r, d, f, n, O, H, Q, hd⟩, A, a, B, b, C, c⟩ := m
  have HD := Lib.hid hd
  have HX1 : Hid (Box w1 w.heap.size 69 (vtL k e h r d f n (.slice A O.length a) (.slice B H.length b) (.slice C Q.length c)).toArray) := HX
  have HSO : Hid (Digs w w.heap.size A O) := Lib.hid hS.opn
  have HSH : Hid (Digs w w.heap.size B H) := Lib.hid hS.sht
  have HSQ : Hid (Digs w w.heap.size C Q) := Lib.hid hS.pth
  have HC1 := Lib.hid (clone_d14 O A a hf.opn w1 (HSO.out.far HF.out))
  have c38 : w1.cell? ⟨w.heap.size, 38, none⟩ = some (.slice A O.length a) := HX1.out.vt_38 hd
  have hz := zero_vt
  clear HX hS hf
  have ent : VtM.cells ⟨⟨k, e, h, r, d, f, n, O, H, Q, hd⟩, A, a, B, b, C, c⟩ = vtL k e h r d f n (.slice A O.length a) (.slice B H.length b) (.slice C Q.length c) := rfl
  rw [ent] at hw1 ⊢
  generalize hcs : vtL k e h r d f n (.slice A O.length a) (.slice B H.length b) (.slice C Q.length c) = cs at hw1 ⊢
  go_enter Tryz.func59, Tryz.ntmps59
  go_upto_region 1 with fail
  change Code.wp _ _ _ _ ((w.alloc (.cells cs.toArray 69)).alloc (.cells zvtV 69))
  rw [← hw1]
  clear hw1 hcs hz ent
  go_upto_region 2 with (go_at_call 104; (with_reducible refine (HC1.out).mono ?_); rintro e w2 ⟨A2, a2, rfl, hd2, hf2, _, hb2⟩; have HD2 := Lib.hid hd2; have HE2 := Lib.hid hf2; have HB2 := Lib.hid hb2; clear hd2 hf2 hb2; have f3 := (HX1.out.below HB2.out HX1.out.lt).free 38; have c3' := (HX1.out.below HB2.out HX1.out.lt).vt_38 HD.out)
  obtain ⟨w3, hw3⟩ : ∃ w3, w3 = w2.setCell ⟨w.heap.size, 38, none⟩ (.slice A2 O.length a2) := ⟨_, rfl⟩
  have HX3 : Hid (Box w3 w.heap.size 69 (vtL k e h r d f n (.slice A2 O.length a2) (.slice B H.length b) (.slice C Q.length c)).toArray) := Lib.hid (by rw [hw3]; exact (HX1.out.below HB2.out HX1.out.lt).vt_put38 HD.out _)
  have HG3 : Hid (w2.grownBy w3 (some w.heap.size)) := Lib.hid (by rw [hw3]; exact only_put (only_refl _ _) 38 _)
  have HO3 : Hid (Digs w3 w3.heap.size A2 O) := Lib.hid (HD2.out.fresh_aside HE2.out HG3.out (by have := HZ.out; omega))
  have HY3 := Lib.hid ((HY.out.below HB2.out HY.out.lt).grown HG3.out (by simp))
  have HF3 := Lib.hid ((HF.out.trans (HB2.out.mono HF.out.size)).trans (below_only HG3.out (Nat.le_refl _) (Nat.le_trans HF.out.size HB2.out.size)))
  have HZ3 : Hid (w.heap.size + 2 ≤ w3.heap.size) := Lib.hid (by have := HZ.out; have := HB2.out.size; have := HG3.out.size; omega)
  have HC3 := Lib.hid (clone_d14 H B b HFW.out.sht w3 (HSH.out.far HF3.out))
  have c39 : w3.cell? ⟨w.heap.size, 39, none⟩ = some (.slice B H.length b) := HX3.out.vt_39 HD.out
  rw [← hw3]
  clear hw3 c38 f3 c3' HC1 HX1 HD2 HB2 HG3 HY HF
  go_upto_region 3 with (go_at_call 104; (with_reducible refine (HC3.out).mono ?_); rintro e w4 ⟨A4, a4, rfl, hd2, hf2, _, hb2⟩; have HD4 := Lib.hid hd2; have HE4 := Lib.hid hf2; have HB4 := Lib.hid hb2; clear hd2 hf2 hb2; have f3 := (HX3.out.below HB4.out HX3.out.lt).free 39; have c3' := (HX3.out.below HB4.out HX3.out.lt).vt_39 HD.out)
  obtain ⟨w5, hw5⟩ : ∃ w5, w5 = w4.setCell ⟨w.heap.size, 39, none⟩ (.slice A4 H.length a4) := ⟨_, rfl⟩
  have HX5 : Hid (Box w5 w.heap.size 69 (vtL k e h r d f n (.slice A2 O.length a2) (.slice A4 H.length a4) (.slice C Q.length c)).toArray) := Lib.hid (by rw [hw5]; exact (HX3.out.below HB4.out HX3.out.lt).vt_put39 HD.out _)
  have HG5 : Hid (w4.grownBy w5 (some w.heap.size)) := Lib.hid (by rw [hw5]; exact only_put (only_refl _ _) 39 _)
  have HO5 : Hid (Digs w5 w5.heap.size A2 O) := Lib.hid ((HO3.out.far HB4.out).fresh_aside HE2.out HG5.out (by have := HZ.out; omega))
  have HH5 : Hid (Digs w5 w5.heap.size A4 H) := Lib.hid (HD4.out.fresh_aside HE4.out HG5.out (by have := HZ3.out; omega))
  have HY5 := Lib.hid ((HY3.out.below HB4.out HY3.out.lt).grown HG5.out (by simp))
  have HF5 := Lib.hid ((HF3.out.trans (HB4.out.mono HF3.out.size)).trans (below_only HG5.out (Nat.le_refl _) (Nat.le_trans HF3.out.size HB4.out.size)))
  have HZ5 : Hid (w.heap.size + 2 ≤ w5.heap.size) := Lib.hid (by have := HZ3.out; have := HB4.out.size; have := HG5.out.size; omega)
  have HC5 := Lib.hid (clone_d14 Q C c HFW.out.pth w5 (HSQ.out.far HF5.out))
  have c40 : w5.cell? ⟨w.heap.size, 40, none⟩ = some (.slice C Q.length c) := HX5.out.vt_40 HD.out
  rw [← hw5]
  clear hw5 c39 f3 c3' HC3 HX3 HD4 HB4 HG5 HY3 HF3 HO3
  go_upto_region 4 with (go_at_call 104; (with_reducible refine (HC5.out).mono ?_); rintro e w6 ⟨A6, a6, rfl, hd2, hf2, hc6, hb2⟩; have HCP := Lib.hid hc6; clear hc6; have HD6 := Lib.hid hd2; have HE6 := Lib.hid hf2; have HB6 := Lib.hid hb2; clear hd2 hf2 hb2; have f3 := (HX5.out.below HB6.out HX5.out.lt).free 40; have c3' := (HX5.out.below HB6.out HX5.out.lt).vt_40 HD.out)
  obtain ⟨w7, hw7⟩ : ∃ w7, w7 = w6.setCell ⟨w.heap.size, 40, none⟩ (.slice A6 Q.length a6) := ⟨_, rfl⟩
  have HX7 : Hid (Box w7 w.heap.size 69 (vtL k e h r d f n (.slice A2 O.length a2) (.slice A4 H.length a4) (.slice A6 Q.length a6)).toArray) := Lib.hid (by rw [hw7]; exact (HX5.out.below HB6.out HX5.out.lt).vt_put40 HD.out _)
  have HG7 : Hid (w6.grownBy w7 (some w.heap.size)) := Lib.hid (by rw [hw7]; exact only_put (only_refl _ _) 40 _)
  have HO7 : Hid (Digs w7 w7.heap.size A2 O) := Lib.hid ((HO5.out.far HB6.out).fresh_aside HE2.out HG7.out (by have := HZ.out; omega))
  have HH7 : Hid (Digs w7 w7.heap.size A4 H) := Lib.hid ((HH5.out.far HB6.out).fresh_aside HE4.out HG7.out (by have := HZ3.out; omega))
  have HQ7 : Hid (Digs w7 w7.heap.size A6 Q) := Lib.hid (HD6.out.fresh_aside HE6.out HG7.out (by have := HZ5.out; omega))
  have HY7 := Lib.hid ((HY5.out.below HB6.out HY5.out.lt).grown HG7.out (by simp))
  have HF7 := Lib.hid ((HF5.out.trans (HB6.out.mono HF5.out.size)).trans (below_only HG7.out (Nat.le_refl _) (Nat.le_trans HF5.out.size HB6.out.size)))
  rw [← hw7]
  clear hw7 c40 f3 c3' HC5 HX5 HD6 HB6 HG7 HY5 HF5 HO5 HH5
  obtain ⟨m', hm'⟩ : ∃ m' : VtM, m' = ⟨⟨k, e, h, r, d, f, n, O, H, Q, hd⟩, A2, a2, A4, a4, A6, a6⟩ := ⟨_, rfl⟩
  have HX8 : Hid (Box w7 w.heap.size 69 m'.cells.toArray) := by rw [hm']; exact HX7
  have hx : m'.x = ⟨k, e, h, r, d, f, n, O, H, Q, hd⟩ := by rw [hm']
  have l7 := HX8.out.ld_vt
  obtain ⟨w8, hst, hb8, hg8⟩ := HY7.out.st_vt zvtV_size m'
  have HB8 := Lib.hid hb8
  have HF8 := Lib.hid (HF7.out.trans (below_only hg8 (by omega) HF7.out.size))
  have HS8 : Hid (SgSee w8 m'.sg) := Lib.hid (by
    rw [hm']
    exact ⟨HO7.out.fresh_aside HE2.out hg8 (by have := HZ.out; omega), HH7.out.fresh_aside HE4.out hg8 (by have := HZ3.out; omega), HQ7.out.fresh_aside HE6.out hg8 (by have := HZ5.out; omega), HCP.out⟩)
  have HFM : Hid (FreshM w.heap.size m') := Lib.hid (by
    rw [hm']
    exact ⟨HE2.out.low (by have := HZ.out; omega), HE4.out.low (by have := HZ3.out; omega), HE6.out.low (by have := HZ5.out; omega)⟩)
  clear hb8 hg8 hm' HX7 HX8 HY7 HO7 HH7 HQ7 HE2 HE4 HE6
  go_wp2
  exact ret_vt rfl rfl rfl HB8.out ⟨m', hx, rfl, HS8.out, HFM.out, HF8.out⟩




attribute [local go_sem ↓] ldCf_def ldCt_def stCt_def bdCt14_def alVt14_def
set_option maxRecDepth 100000 in
set_option maxHeartbeats 4000000 in
theorem make_few14 (ms : List MemX) (ep : Int) (AM : Option Addr) (cM : Nat) (hn : ms.length ≤ 1099511627776) (vs : List VtM) (A : Option Addr) (c : Nat) (hq : vs.length < quorumN ms.length) (w : World) :
    Calls Tryz.prog 25 #[.agg (cfgV ep AM ms.length cM), .slice A vs.length c] w fun e w' => e = .returned (.tuple #[.agg (crtV 0 none 0 0), .bool false]) ∧ Below w.heap.size w w' := by
  obtain ⟨w1, hw1⟩ : ∃ w1, w1 = (w.alloc (.cells (cfgV ep AM ms.length cM) 24)).alloc (.cells (crtV 0 none 0 0) 32) := ⟨_, rfl⟩
  have hX : Box w1 w.heap.size 24 (cfgV ep AM ms.length cM) := by rw [hw1]; exact (Box.made w _ _).alloc _
  have HO : Hid (Box w1 (w.heap.size + 1) 32 (crtV 0 none 0 0)) := by rw [hw1]; exact Box.made_at (by simp) _ _
  have HF : Hid (Below w.heap.size w w1) := by rw [hw1]; exact ((Below.refl _ _).alloc (Nat.le_refl _) _).alloc (by simp) _
  have l1 := hX.l_cf
  have HQ := Lib.hid (quorum_any ep AM ms.length cM hn w1)
  generalize quorumN ms.length = q at *
  have n1 : decide (vs.length < q) = true := decide_eq_true hq
  have n2 : decide ((vs.length : Int) < (q : Int)) = true := decide_eq_true (by omega)
  have n3 : (vs.length : Int) < (q : Int) := by omega
  have hbd := bd_ct0
  clear hX hn hq
  generalize cfgV ep AM ms.length cM = CF at *
  go_enter Tryz.func25, Tryz.ntmps25
  go_upto_region 1 with fail
  change Code.wp _ _ _ _ ((w.alloc (.cells CF 24)).alloc (.cells (crtV 0 none 0 0) 32))
  rw [← hw1]
  clear hw1
  go_upto_region 3 with (go_at_call 29; (with_reducible refine (HQ.out).mono ?_); rintro e w2 ⟨rfl, hb⟩; have HB2 := Lib.hid hb; obtain ⟨w3, hst, hb3, hg3⟩ := (HO.out.below hb HO.out.lt).s_ct rfl 0 none 0 0; have HX3 := Lib.hid hb3; have HG3 := Lib.hid hg3; clear hb hb3 hg3)
  have HF3 := Lib.hid ((HF.out.trans (HB2.out.mono HF.out.size)).trans (below_only HG3.out (by omega) (Nat.le_trans HF.out.size HB2.out.size)))
  go_wp2
  exact ret_ct2 rfl rfl rfl rfl HX3.out ⟨rfl, HF3.out⟩

/-- What Make answers of enough votes. -/
def MakeIs (r : Int) (xs : List VtX) (w : World) (e : Ending) (w' : World) : Prop :=
  ∃ A c us, e = .returned (.tuple #[.agg (crtV r A xs.length c), .bool true]) ∧ us.map VtM.x = xs ∧ VtK.See w' w'.heap.size A us ∧ (∀ m ∈ us, SgSee w' m.sg) ∧ Below w.heap.size w w'

set_option maxRecDepth 100000 in
set_option maxHeartbeats 4000000 in
theorem make_any14 (ms : List MemX) (ep : Int) (AM : Option Addr) (cM : Nat) (hn : ms.length ≤ 1099511627776) (vs : List VtM) (A : Option Addr) (c : Nat) (hq : quorumN ms.length ≤ vs.length) (hvc : vs.length ≤ c) (hl : vs.length ≤ 100000) (hfw : ∀ m ∈ vs, VFew m.x) (w : World) (hV : VtK.See w w.heap.size A vs) (hS : ∀ m ∈ vs, SgSee w m.sg) (r : Int) (hr : (vs[0]?).map (fun m => m.x.round) = some r) :
    Calls Tryz.prog 25 #[.agg (cfgV ep AM ms.length cM), .slice A vs.length c] w (MakeIs r ((vs.map VtM.x).take (quorumN ms.length)) w) := by
  obtain ⟨w1, hw1⟩ : ∃ w1, w1 = (w.alloc (.cells (cfgV ep AM ms.length cM) 24)).alloc (.cells (crtV 0 none 0 0) 32) := ⟨_, rfl⟩
  have hX : Box w1 w.heap.size 24 (cfgV ep AM ms.length cM) := by rw [hw1]; exact (Box.made w _ _).alloc _
  have HO : Hid (Box w1 (w.heap.size + 1) 32 (crtV 0 none 0 0)) := by rw [hw1]; exact Box.made_at (by simp) _ _
  have HF : Hid (Below w.heap.size w w1) := by rw [hw1]; exact ((Below.refl _ _).alloc (Nat.le_refl _) _).alloc (by simp) _
  have l1 := hX.l_cf
  have HQ := Lib.hid (quorum_any ep AM ms.length cM hn w1)
  have hq1 : 1 ≤ quorumN ms.length := by unfold quorumN; omega
  have HV := Lib.hid hV
  have HS := Lib.hid hS
  have HFW := Lib.hid hfw
  have HLN := Lib.hid hl
  have HR := Lib.hid hr
  have HQL := Lib.hid (And.intro hq1 (And.intro hq hvc))
  have HML : Hid ((vs.map VtM.x).length = vs.length) := Lib.hid (List.length_map _)
  generalize quorumN ms.length = q at *
  have n1 : decide (vs.length < q) = false := decide_eq_false (by omega)
  have n2 : decide ((vs.length : Int) < (q : Int)) = false := decide_eq_false (by omega)
  have n3 : ¬ (vs.length : Int) < (q : Int) := by omega
  clear hX hn hq hq1 hV hS hfw hl hr hvc
  generalize cfgV ep AM ms.length cM = CF at *
  go_enter Tryz.func25, Tryz.ntmps25
  go_upto_region 1 with fail
  change Code.wp _ _ _ _ ((w.alloc (.cells CF 24)).alloc (.cells (crtV 0 none 0 0) 32))
  rw [← hw1]
  clear hw1
  go_upto_region 4 with (go_at_call 29; (with_reducible refine (HQ.out).mono ?_); rintro e w2 ⟨rfl, hb⟩; have HB2 := Lib.hid hb; clear hb)
  clear n1 n2 n3 l1 HQ
  have HF2 := Lib.hid (HF.out.trans (HB2.out.mono HF.out.size))
  have hvl : 0 < vs.length := by have := HQL.out; omega
  obtain ⟨g, o, hA, _, hrg⟩ := EK.See.range (EK.See.far HV.out HF2.out) hvl
  subst hA
  have c0 : w2.cell? ⟨g, o + 0 * 41 + 3, none⟩ = some (.int .i64 r) := by
    have h1 := range_round (hrg 0 hvl)
    have h2 := HR.out
    rw [List.getElem?_eq_getElem hvl] at h2
    injection h2 with h2
    rw [← h2]
    exact h1
  have i0 : (0 : Int) < (vs.length : Int) := by omega
  have bd1 := bd_ct1 r
  obtain ⟨w4, hst, hb4, hbl4⟩ := laid_ct w2 r none 0 0
  have HB4 := Lib.hid hbl4
  have HX4 := Lib.hid hb4
  go_upto_region 5 with fail
  clear hst bd1 c0 i0 hb4 hbl4 hrg
  have HF4 := Lib.hid (HF2.out.trans (HB4.out.mono HF2.out.size))
  have b1 : (q : Int) ≤ (c : Int) := by have := HQL.out; omega
  have b2 : ¬ c = 0 := by have := HQL.out; omega
  have HMK : Hid (MkW w (w.heap.size + 1) w2.heap.size r none 0 0 [] w4) := Lib.hid (by
    have h1 := HO.out.below (HB2.out.trans (HB4.out.mono HB2.out.size)) HO.out.lt
    have h2 := HF.out.size
    have h3 := HB2.out.size
    have h4 := HO.out.lt
    exact ⟨h1, HX4.out, EK.own_nil _ _ _, fun m hm => (by cases hm), fun m hm => (by cases hm), fun m hm => (by cases hm), HF4.out, by omega, HF2.out.size, by omega⟩)
  go_wp2
  clear b1 b2
  generalize hgb : w2.heap.size = gb at *
  have HGB : Hid (w.heap.size + 1 < gb) := Lib.hid (by
    have h3 := HB2.out.size
    have h4 := HO.out.lt
    omega)
  clear hgb HX4 HB4 HB2
  go_loopw [26] (fun i wr => ∃ (k n3 c3 : Nat) (A3 : Option Addr) (us : List VtM), k ≤ q ∧ i = .int .i64 (k : Int) ∧ Hid (us.map VtM.x = (vs.map VtM.x).take k) ∧ Hid (MkW w (w.heap.size + 1) gb r A3 n3 c3 us wr)) (fun i _ => q - (intOf i).toNat)
  case atStart => exact ⟨0, 0, 0, none, [], Nat.zero_le _, rfl, Lib.hid rfl, HMK⟩
  case round =>
    obtain ⟨k, n3, c3, A3, us, hk, rfl, HU, HW⟩ := hrel
    by_cases hlt : k < q
    rotate_left
    · have i1 : ¬ (k : Int) < (q : Int) := by omega
      have HUE : Hid (us.map VtM.x = (vs.map VtM.x).take q) := Lib.hid (by rw [HU.out, show k = q by omega])
      have lc := HW.out.box.l_ct
      obtain ⟨wz, hst, hbz, hgz⟩ := HW.out.out.s_ct rfl r A3 n3 c3
      have HBZ := Lib.hid hbz
      have HN3 : Hid (n3 = ((vs.map VtM.x).take q).length) := Lib.hid (by
        rw [← HUE.out, List.length_map]
        exact (EK.Own.bounds HW.out.own).1)
      have HSZ : Hid (VtK.See wz wz.heap.size A3 us) := Lib.hid (EK.Own.see (own_box HW.out.own HW.out.out (by decide) hgz))
      have HSS : Hid (∀ m ∈ us, SgSee wz m.sg) := Lib.hid (fun m hm => sgsee14 ((HW.out.see m hm).aside14 HW.out.out (crt_nobyte _ _ _ _) hgz) (HW.out.cap m hm))
      have HFZ := Lib.hid (HW.out.far.trans (below_only hgz HW.out.ho HW.out.far.size))
      clear hbz hgz
      go_wp2
      refine ret_ct2 rfl rfl rfl rfl HBZ.out ?_
      rw [HN3.out]
      exact ⟨A3, c3, us, rfl, HUE.out, HSZ.out, HSS.out, HFZ.out⟩
    have i1 : (k : Int) < (q : Int) := by omega
    have i0 : (0 : Int) ≤ (k : Int) := by omega
    have hkv : k < vs.length := by have := HQL.out; omega
    obtain ⟨g', o', hA, hlv⟩ := row_vote (EK.See.far HV.out HW.out.far) hkv
    injection hA with hA
    injection hA with e1 e2
    subst e1
    subst e2
    have lv := hlv wr (Below.refl _ _)
    have HLT := Lib.hid hlt
    have HMM : Hid ((vs[k]'hkv) ∈ vs) := Lib.hid (List.getElem_mem hkv)
    have HTK : Hid ((vs.map VtM.x).take (k + 1) = (vs.map VtM.x).take k ++ [(vs[k]'hkv).x]) := Lib.hid (by
      rw [List.take_succ_eq_append_getElem (by rw [List.length_map]; exact hkv), List.getElem_map])
    clear hlv
    generalize vs[k]'hkv = m at *
    obtain ⟨w8, hst8, hb8, hbl8⟩ := laid_vt wr m
    have HX8 := Lib.hid hb8
    have HW8 := Lib.hid (HW.out.call hbl8)
    have HOW : Hid (∀ g, (Value.slice A3 n3 c3).ownBlock = some g → g < wr.heap.size) := Lib.hid (fun g hg => own_lt14 HW.out.own g hg)
    have HGR : Hid (gb < wr.heap.size) := Lib.hid HW.out.box.lt
    have hav := al_vt14
    have wk : IntKind.i64.wrap ((k : Int) + 1) = ((k + 1 : Nat) : Int) := by rw [IntKind.wrap_i64]; have := HLN.out; have := HQL.out; omega
    have HUL : Hid (us.length < 1000000) := Lib.hid (by
      have h := congrArg List.length HU.out
      rw [List.length_map, List.length_take] at h
      have := HLN.out
      have := HQL.out
      omega)
    clear hb8 hbl8 HW hlt
    go_upto_region 8 with fail
    clear hst8 hav lv
    generalize wr.heap.size = tv at *
    obtain ⟨wd, hwd⟩ : ∃ wd, wd = w8.drew := ⟨_, rfl⟩
    have hbd : Below w8.heap.size w8 wd := by rw [hwd]; exact (Below.refl _ _).drew
    have HWd := Lib.hid (HW8.out.call hbd)
    have HXd := Lib.hid (HX8.out.below hbd HX8.out.lt)
    have HTV : Hid (tv < wd.heap.size) := Lib.hid HXd.out.lt
    have HLV : Hid (∀ w', Box w' tv 69 m.cells.toArray → (ldVt (.pointer (some ⟨tv, 0, none⟩))).run Tryz.prog w' = .ok (.agg m.cells.toArray) w') := Lib.hid (fun w' h => h.ld_vt)
    have HCL := Lib.hid (cclone_any m (HFW.out m HMM.out) wd (vsee14 ((HS.out m HMM.out).call HWd.out.far)))
    have hc8 := HWd.out.cell
    clear HW8 HX8 hbd
    refine wp_region_held_drew (S := fun w' => Box w' tv 69 m.cells.toArray) (by kernel_rfl) (by rw [← hwd]; exact HXd.out) (fun hS => ?_)
    rw [← hwd] at hS ⊢
    clear hwd HXd
    (refine wpAnyH_take (i := 0) (v := .pointer (some ⟨gb, 1, none⟩)) rfl (by kernel_rfl) (by kernel_rfl) (by kernel_rfl) (fun _ _ _ h => h) (Or.inl ⟨by kernel_rfl, fun w hSw => by go_simp⟩) hS ?_)
    (try simp only [Act.put])
    (refine wpAnyH_take (i := 2) (v := .agg m.cells.toArray) rfl (by kernel_rfl) (by kernel_rfl) (by kernel_rfl) (fun _ _ _ h => h) (Or.inl ⟨by kernel_rfl, fun w hSw => by have hc := HLV.out w hSw; go_simp⟩) hS ?_)
    (try simp only [Act.put])
    refine wpAnyH_ready (rs := [1, 3]) (by decide +kernel) (by simp) (AllReadyH.cons rfl (fun K hK => ?_) (AllReadyH.cons rfl (fun K hK => ?_) AllReadyH.nil))
    · go_simp
      refine hK.out _ _ (hS) (fun hS => ?_)
      clear hK K
      (try simp only [Act.put])
      refine wpAnyH_ready (rs := [3]) (by decide +kernel) (by simp) (AllReadyH.cons rfl (fun K hK => ?_) AllReadyH.nil)
      go_simp
      (go_at_call 59; (with_reducible refine (HCL.out).mono ?_); rintro e w9 ⟨m9, hx9, rfl, hs9, hf9, hb9⟩)
      refine hK.out _ _ (hS.below hb9 hS.lt) (fun hS => ?_)
      clear hK K
      (try simp only [Act.put])
      have HX9 := Lib.hid hx9
      have HW9 := Lib.hid (HWd.out.call hb9)
      have hal : Below w9.heap.size w9 (w9.alloc (.cells m9.cells.toArray 69)) := (Below.refl _ _).alloc (Nat.le_refl _) _
      have HAL := Lib.hid hal
      obtain ⟨hbs, hca, A7, n7, c7, w7, hap, hc7, hf7, hw7, hg7⟩ := HW9.out.push hs9 (hf9.off (fun g hg => by have h1 := HOW.out g hg; have h2 := HTV.out; omega)) HUL.out
      have hc9 := HW9.out.cell
      have HW7 := Lib.hid hw7
      have HG7 := Lib.hid hg7
      clear hx9 hs9 hf9 hb9 hw7 hg7 hal
      refine wpAnyH_ready (rs := [4]) (by decide +kernel) (by simp) (AllReadyH.cons rfl (fun K hK => ?_) AllReadyH.nil)
      go_simp
      refine hK.out _ _ (hS.below HAL.out hS.lt) (fun hS => ?_)
      clear hK K
      (try simp only [Act.put])
      refine wpAnyH_ready (rs := [5]) (by decide +kernel) (by simp) (AllReadyH.cons rfl (fun K hK => ?_) AllReadyH.nil)
      go_simp
      refine hK.out _ _ (hS.grown HG7.out (fun e => absurd (HOW.out tv e.symm) (Nat.lt_irrefl tv))) (fun hS => ?_)
      clear hK K
      (try simp only [Act.put])
      (refine wpAnyH_take (i := 6) (v := .pointer (some ⟨gb, 1, none⟩)) rfl (by kernel_rfl) (by kernel_rfl) (by kernel_rfl) (fun _ _ _ h => h) (Or.inl ⟨by kernel_rfl, fun w hSw => by go_simp⟩) hS ?_)
      (try simp only [Act.put])
      refine wpAnyH_ready (rs := [7]) (by decide +kernel) (by simp) (AllReadyH.cons rfl (fun K hK => ?_) AllReadyH.nil)
      go_simp
      refine hK.out _ _ (hS.grown (only_put (only_refl _ _) 1 _) (fun e => by injection e with e; have h := HGR.out; omega)) (fun hS => ?_)
      clear hK K
      (try simp only [Act.put])
      refine wpAnyH_done (by kernel_rfl) ?_ _
      clear hap hc7 hf7 hca hbs hc8 hc9 hS
      have HU9 : Hid ((us ++ [m9]).map VtM.x = (vs.map VtM.x).take (k + 1)) := Lib.hid (by rw [HTK.out, ← HU.out, List.map_append, List.map_singleton, HX9.out])
      clear HWd HW9 HCL HLV
      generalize w7.setCell ⟨gb, 1, none⟩ (.slice A7 n7 c7) = wz at *
      go_wp2
      go_roundw
      case rel => exact ⟨k + 1, n7, c7, A7, us ++ [m9], HLT.out, by go_num, HU9, HW7⟩
      case measure => have := HLT.out; simp [intOf]; omega
    · go_simp
      (go_at_call 59; (with_reducible refine (HCL.out).mono ?_); rintro e w9 ⟨m9, hx9, rfl, hs9, hf9, hb9⟩)
      refine hK.out _ _ (hS.below hb9 hS.lt) (fun hS => ?_)
      clear hK K
      (try simp only [Act.put])
      have HX9 := Lib.hid hx9
      have HW9 := Lib.hid (HWd.out.call hb9)
      have hal : Below w9.heap.size w9 (w9.alloc (.cells m9.cells.toArray 69)) := (Below.refl _ _).alloc (Nat.le_refl _) _
      have HAL := Lib.hid hal
      obtain ⟨hbs, hca, A7, n7, c7, w7, hap, hc7, hf7, hw7, hg7⟩ := HW9.out.push hs9 (hf9.off (fun g hg => by have h1 := HOW.out g hg; have h2 := HTV.out; omega)) HUL.out
      have hc9 := HW9.out.cell
      have HW7 := Lib.hid hw7
      have HG7 := Lib.hid hg7
      clear hx9 hs9 hf9 hb9 hw7 hg7 hal
      refine wpAnyH_ready (rs := [1, 4]) (by decide +kernel) (by simp) (AllReadyH.cons rfl (fun K hK => ?_) (AllReadyH.cons rfl (fun K hK => ?_) AllReadyH.nil))
      · go_simp
        refine hK.out _ _ (hS) (fun hS => ?_)
        clear hK K
        (try simp only [Act.put])
        refine wpAnyH_ready (rs := [4]) (by decide +kernel) (by simp) (AllReadyH.cons rfl (fun K hK => ?_) AllReadyH.nil)
        go_simp
        refine hK.out _ _ (hS.below HAL.out hS.lt) (fun hS => ?_)
        clear hK K
        (try simp only [Act.put])
        refine wpAnyH_ready (rs := [5]) (by decide +kernel) (by simp) (AllReadyH.cons rfl (fun K hK => ?_) AllReadyH.nil)
        go_simp
        refine hK.out _ _ (hS.grown HG7.out (fun e => absurd (HOW.out tv e.symm) (Nat.lt_irrefl tv))) (fun hS => ?_)
        clear hK K
        (try simp only [Act.put])
        (refine wpAnyH_take (i := 6) (v := .pointer (some ⟨gb, 1, none⟩)) rfl (by kernel_rfl) (by kernel_rfl) (by kernel_rfl) (fun _ _ _ h => h) (Or.inl ⟨by kernel_rfl, fun w hSw => by go_simp⟩) hS ?_)
        (try simp only [Act.put])
        refine wpAnyH_ready (rs := [7]) (by decide +kernel) (by simp) (AllReadyH.cons rfl (fun K hK => ?_) AllReadyH.nil)
        go_simp
        refine hK.out _ _ (hS.grown (only_put (only_refl _ _) 1 _) (fun e => by injection e with e; have h := HGR.out; omega)) (fun hS => ?_)
        clear hK K
        (try simp only [Act.put])
        refine wpAnyH_done (by kernel_rfl) ?_ _
        clear hap hc7 hf7 hca hbs hc8 hc9 hS
        have HU9 : Hid ((us ++ [m9]).map VtM.x = (vs.map VtM.x).take (k + 1)) := Lib.hid (by rw [HTK.out, ← HU.out, List.map_append, List.map_singleton, HX9.out])
        clear HWd HW9 HCL HLV
        generalize w7.setCell ⟨gb, 1, none⟩ (.slice A7 n7 c7) = wz at *
        go_wp2
        go_roundw
        case rel => exact ⟨k + 1, n7, c7, A7, us ++ [m9], HLT.out, by go_num, HU9, HW7⟩
        case measure => have := HLT.out; simp [intOf]; omega
      · go_simp
        refine hK.out _ _ (hS.below HAL.out hS.lt) (fun hS => ?_)
        clear hK K
        (try simp only [Act.put])
        refine wpAnyH_ready (rs := [1]) (by decide +kernel) (by simp) (AllReadyH.cons rfl (fun K hK => ?_) AllReadyH.nil)
        go_simp
        refine hK.out _ _ (hS) (fun hS => ?_)
        clear hK K
        (try simp only [Act.put])
        refine wpAnyH_ready (rs := [5]) (by decide +kernel) (by simp) (AllReadyH.cons rfl (fun K hK => ?_) AllReadyH.nil)
        go_simp
        refine hK.out _ _ (hS.grown HG7.out (fun e => absurd (HOW.out tv e.symm) (Nat.lt_irrefl tv))) (fun hS => ?_)
        clear hK K
        (try simp only [Act.put])
        (refine wpAnyH_take (i := 6) (v := .pointer (some ⟨gb, 1, none⟩)) rfl (by kernel_rfl) (by kernel_rfl) (by kernel_rfl) (fun _ _ _ h => h) (Or.inl ⟨by kernel_rfl, fun w hSw => by go_simp⟩) hS ?_)
        (try simp only [Act.put])
        refine wpAnyH_ready (rs := [7]) (by decide +kernel) (by simp) (AllReadyH.cons rfl (fun K hK => ?_) AllReadyH.nil)
        go_simp
        refine hK.out _ _ (hS.grown (only_put (only_refl _ _) 1 _) (fun e => by injection e with e; have h := HGR.out; omega)) (fun hS => ?_)
        clear hK K
        (try simp only [Act.put])
        refine wpAnyH_done (by kernel_rfl) ?_ _
        clear hap hc7 hf7 hca hbs hc8 hc9 hS
        have HU9 : Hid ((us ++ [m9]).map VtM.x = (vs.map VtM.x).take (k + 1)) := Lib.hid (by rw [HTK.out, ← HU.out, List.map_append, List.map_singleton, HX9.out])
        clear HWd HW9 HCL HLV
        generalize w7.setCell ⟨gb, 1, none⟩ (.slice A7 n7 c7) = wz at *
        go_wp2
        go_roundw
        case rel => exact ⟨k + 1, n7, c7, A7, us ++ [m9], HLT.out, by go_num, HU9, HW7⟩
        case measure => have := HLT.out; simp [intOf]; omega
end Go.Proofs.YtejnfgcnifcpaaaGreatDoor

namespace Go.Proofs.YtejnfgcnifcpaaaGreatDoor
open Go.RowKit Go.Maps Go.Sort

/-! ### Literals -/
noncomputable def bdVt14 (parts : Array (Nat × Value)) : Sem Value := Instr.build 69 parts
set_option maxRecDepth 100000 in
theorem bdVt14_def (parts : Array (Nat × Value)) : Instr.build 69 parts = bdVt14 parts := rfl
noncomputable def bdDg14 (parts : Array (Nat × Value)) : Sem Value := Instr.build 26 parts
set_option maxRecDepth 100000 in
theorem bdDg14_def (parts : Array (Nat × Value)) : Instr.build 26 parts = bdDg14 parts := rfl
noncomputable def bdCf14 (parts : Array (Nat × Value)) : Sem Value := Instr.build 24 parts
set_option maxRecDepth 100000 in
theorem bdCf14_def (parts : Array (Nat × Value)) : Instr.build 24 parts = bdCf14 parts := rfl
noncomputable def stSg14 (p v : Value) : Sem Unit := Instr.storeAt 67 p v
set_option maxRecDepth 100000 in
theorem stSg14_def (p v : Value) : Instr.storeAt 67 p v = stSg14 p v := rfl
set_option maxRecDepth 100000 in
theorem bd_dg14 (w : World) : (bdDg14 #[(0, .int .u8 1)]).run Tryz.prog w = .ok (.agg (oneSeed.map bv).toArray) w := run_build w _ _ _ (by kernel_rfl)
set_option maxRecDepth 100000 in
theorem bd_cf14 (A : Option Addr) (n c : Nat) (w : World) : (bdCf14 #[(1, .slice A n c)]).run Tryz.prog w = .ok (.agg (cfgV 0 A n c)) w := run_build w _ _ _ (by kernel_rfl)
set_option maxRecDepth 100000 in
theorem built_vt14 {d : List UInt8} (hd : d.length = 32) : Tryz.prog.built 69 [(0, .int .i64 2), (2, .int .i64 1), (4, .agg (d.map bv).toArray), (5, .int .i64 1)] = some (vtL 2 0 1 0 d 1 0 (.slice none 0 0) (.slice none 0 0) (.slice none 0 0)).toArray := by
  have e : Tryz.prog.built 69 [(0, .int .i64 2), (2, .int .i64 1), (4, .agg (d.map bv).toArray), (5, .int .i64 1)] = Instr.fill (#[(0, 1), (1, 1), (2, 1), (3, 1), (4, 32), (36, 1), (37, 4)][·]?) ([] ++ ([Value.int .i64 0] ++ ([Value.int .i64 0, .int .i64 0, .int .i64 0] ++ (List.replicate 32 (Value.int .u8 0) ++ [Value.int .i64 0, .int .i64 0, .slice none 0 0, .slice none 0 0, .slice none 0 0])))).toArray [(0, .int .i64 2), (2, .int .i64 1), (4, .agg (d.map bv).toArray), (5, .int .i64 1)] := by kernel_rfl
  rw [e, fill_step (off := 0) (size := 1) (vs := [.int .i64 2]) rfl rfl rfl rfl rfl]
  have e2 : ([] ++ ([Value.int .i64 2] ++ ([Value.int .i64 0, .int .i64 0, .int .i64 0] ++ (List.replicate 32 (Value.int .u8 0) ++ [Value.int .i64 0, .int .i64 0, .slice none 0 0, .slice none 0 0, .slice none 0 0]))) : List Value) = [.int .i64 2, .int .i64 0] ++ ([.int .i64 0] ++ ([.int .i64 0] ++ (List.replicate 32 (Value.int .u8 0) ++ [Value.int .i64 0, .int .i64 0, .slice none 0 0, .slice none 0 0, .slice none 0 0]))) := by simp
  rw [e2, fill_step (off := 2) (size := 1) (vs := [.int .i64 1]) rfl rfl rfl rfl rfl]
  have e3 : ([.int .i64 2, .int .i64 0] ++ ([Value.int .i64 1] ++ ([.int .i64 0] ++ (List.replicate 32 (Value.int .u8 0) ++ [Value.int .i64 0, .int .i64 0, .slice none 0 0, .slice none 0 0, .slice none 0 0]))) : List Value) = [.int .i64 2, .int .i64 0, .int .i64 1, .int .i64 0] ++ (List.replicate 32 (Value.int .u8 0) ++ [Value.int .i64 0, .int .i64 0, .slice none 0 0, .slice none 0 0, .slice none 0 0]) := by simp
  rw [e3, fill_step (off := 4) (size := 32) (vs := d.map bv) rfl rfl (by simp) rfl (by simp [hd])]
  have e4 : ([.int .i64 2, .int .i64 0, .int .i64 1, .int .i64 0] ++ (d.map bv ++ [Value.int .i64 0, .int .i64 0, .slice none 0 0, .slice none 0 0, .slice none 0 0]) : List Value) = ([.int .i64 2, .int .i64 0, .int .i64 1, .int .i64 0] ++ d.map bv) ++ ([.int .i64 0] ++ [.int .i64 0, .slice none 0 0, .slice none 0 0, .slice none 0 0]) := by simp
  rw [e4, fill_step (off := 36) (size := 1) (vs := [.int .i64 1]) rfl (by simp [hd]) rfl rfl rfl]
  unfold vtL Instr.fill
  simp
set_option maxRecDepth 100000 in
theorem bd_vt14 {d : List UInt8} (hd : d.length = 32) (w : World) : (bdVt14 #[(0, .int .i64 2), (2, .int .i64 1), (4, .agg (d.map bv).toArray), (5, .int .i64 1)]).run Tryz.prog w = .ok (.agg (vtL 2 0 1 0 d 1 0 (.slice none 0 0) (.slice none 0 0) (.slice none 0 0)).toArray) w := run_build w _ _ _ (built_vt14 hd)

/-! ### The vote that is signed -/
def alvX (d : List UInt8) (hd : d.length = 32) : VtX := ⟨2, 0, 1, 0, d, 1, 0, [], [], [], hd⟩
def alvM (d : List UInt8) (hd : d.length = 32) : VtM := ⟨alvX d hd, none, 0, none, 0, none, 0⟩
def alvS (d : List UInt8) (hd : d.length = 32) (X Y P : List (List UInt8)) (g1 g2 : Nat) (C : Option Addr) (c : Nat) : VtM := ⟨⟨2, 0, 1, 0, d, 1, 0, X, Y, P, hd⟩, some ⟨g1, 0, none⟩, 32, some ⟨g2, 0, none⟩, 32, C, c⟩
set_option maxRecDepth 100000 in
theorem alvM_cells (d : List UInt8) (hd : d.length = 32) : (alvM d hd).cells = vtL 2 0 1 0 d 1 0 (.slice none 0 0) (.slice none 0 0) (.slice none 0 0) := rfl
set_option maxRecDepth 100000 in
theorem voteD_eq14 {x y : VtX} (h1 : x.kind = y.kind) (h2 : x.epoch = y.epoch) (h3 : x.height = y.height) (h4 : x.round = y.round) (h5 : x.frm = y.frm) (h6 : x.dig = y.dig) : voteD x = voteD y := by
  unfold voteD headB
  rw [h1, h2, h3, h4, h5, h6]
def vtP14 (x : VtX) : List Value := .int .i64 x.kind :: .int .i64 x.epoch :: .int .i64 x.height :: .int .i64 x.round :: (x.dig.map bv ++ [.int .i64 x.frm])
set_option maxRecDepth 100000 in
/-- A vote's signature is written. -/
theorem Box.st_vsg14 {w : World} {g : Nat} {t : TypeId} {m : VtM} (hb : Box w g t m.cells.toArray) (s : SgM) : ∃ w', (stSg14 (.pointer (some ⟨g, 37, none⟩)) (.agg s.cells)).run Tryz.prog w = .ok () w' ∧ Box w' g t (VtM.cells ⟨⟨m.x.kind, m.x.epoch, m.x.height, m.x.round, m.x.dig, m.x.frm, s.n, s.X, s.Y, s.P, m.x.len⟩, s.A, s.a, s.B, s.b, s.C, s.c⟩).toArray ∧ w.grownBy w' (some g) := by
  have hb2 : Box w g t (vtP14 m.x ++ (m.sg.cells.toList ++ [])).toArray := by
    have e : vtP14 m.x ++ (m.sg.cells.toList ++ []) = m.cells := by
      unfold VtM.cells vtL VtM.sg SgM.cells vtP14
      simp
    rw [e]
    exact hb
  have hp : (vtP14 m.x).length = 37 := by unfold vtP14; simp [m.x.len]
  have h3 := Box.put_mid hb2 hp (vs := s.cells.toList) rfl
  refine ⟨w.setCells g 37 s.cells.toList, ?_, ?_, only_cells (g := g) _ 37 w⟩
  · exact run_storeAt_mid (P := Tryz.prog) _ g 37 67 s.cells (fun j hj => by
      have hj4 : j < 4 := hj
      rw [hb.cell, hb.free, Array.getElem?_eq_getElem (by rw [List.size_toArray, m.cells_len]; omega)]
      exact ⟨rfl, rfl⟩) (sig_size _ _ _ _ _ _ _ _ _ _) (by have := all_oneCell_toArray (sig_one s.n s.A s.X.length s.a s.B s.Y.length s.b s.C s.P.length s.c); exact this)
  · have e : vtP14 m.x ++ (s.cells.toList ++ []) = (VtM.cells ⟨⟨m.x.kind, m.x.epoch, m.x.height, m.x.round, m.x.dig, m.x.frm, s.n, s.X, s.Y, s.P, m.x.len⟩, s.A, s.a, s.B, s.b, s.C, s.c⟩) := by
      unfold VtM.cells vtL SgM.cells vtP14
      simp
    rw [e] at h3
    exact h3


set_option maxRecDepth 100000 in
theorem alv_few {d : List UInt8} {hd : d.length = 32} {X Y P : List (List UInt8)} {g1 g2 : Nat} {C : Option Addr} {c : Nat} (hx : X.length = 32) (hy : Y.length = 32) (hp : P.length ≤ 200) : VFew (alvS d hd X Y P g1 g2 C c).x :=
  ⟨by show X.length ≤ 200; rw [hx]; decide, by show Y.length ≤ 200; rw [hy]; decide, hp⟩
set_option maxRecDepth 100000 in
theorem alv_see {d : List UInt8} {hd : d.length = 32} {X Y P : List (List UInt8)} {g1 g2 : Nat} {C : Option Addr} {c : Nat} {w : World} (h1 : Digs w w.heap.size (some ⟨g1, 0, none⟩) X) (h2 : Digs w w.heap.size (some ⟨g2, 0, none⟩) Y) (h3 : Digs w w.heap.size C P) (h4 : P.length ≤ c) : SgSee w (alvS d hd X Y P g1 g2 C c).sg := ⟨h1, h2, h3, h4⟩
set_option maxRecDepth 100000 in
theorem alv_right {R : List UInt8} (hR : R.length = 32) {x : VtX} {d vd : List UInt8} {X Y P : List (List UInt8)} (h1 : x.kind = 2 ∧ x.epoch = 0 ∧ x.height = 1 ∧ x.round = 0 ∧ x.dig = d ∧ x.frm = 1 ∧ x.leaf = 0) (h2 : x.opn = X ∧ x.sht = Y ∧ x.pth = P) (h3 : voteD x = vd)
    (hg : goodK R vd ((0 : Nat) : Int) ((0 : Nat) : Int) X Y P = true) (b : BlkX) (hb : blkGood b = true) (hb2 : b.epoch = 0 ∧ b.height = 1) (hd : blkD b = d) : certB 0 [⟨1, R, 0, hR⟩] b 0 [x] = true := by
  obtain ⟨e1, e2, e3, e4, e5, e6, e7⟩ := h1
  obtain ⟨f1, f2, f3⟩ := h2
  have hgd : vGood x = true := vGood_iff.2 (by rw [e1, e2, e3, e4, e6]; decide)
  have hh : hasB [⟨1, R, 0, hR⟩] 1 = true := by unfold hasB posN; simp
  have hf : findM [⟨1, R, 0, hR⟩] 1 = ⟨1, R, 0, hR⟩ := by unfold findM posN; simp
  have hr : rightX14 [⟨1, R, 0, hR⟩] 0 x = true := by
    unfold rightX14
    rw [hgd, e2, e6, hh, hf, h3, e7, f1, f2, f3]
    simpa using hg
  have hs : says14 x 1 0 d = true := by
    unfold says14
    rw [e1, e3, e4, e5]
    simp
  have hk : ok14 [⟨1, R, 0, hR⟩] 0 1 0 d x = true := by
    unfold ok14
    rw [hs, hr]
    rfl
  have hgo : goodB 0 [⟨1, R, 0, hR⟩] = true := by
    simp [goodB, riseB, fitsB, inB]
  have hq : decide (quorumN [(⟨1, R, 0, hR⟩ : MemX)].length ≤ [x].length) = true := by
    show decide (quorumN 1 ≤ 1) = true
    decide
  unfold certB
  rw [hgo, hb, hb2.1, hb2.2, hd, hq]
  show (true && (true && (decide ((0 : Int) = 0) && (true && (true && [x].all (ok14 [⟨1, R, 0, hR⟩] 0 1 0 d)))))) = true
  rw [List.all_cons, hk]
  rfl

attribute [local go_sem ↓] ldVt_def stVt_def alVt14_def bdVt14_def bdDg14_def bdCf14_def bdMem_def stSg14_def bsT_def ldCf_def stCf_def ldBlk_def stBlk_def bdBlk_def ldCt_def stCt_def
set_option maxRecDepth 100000 in
set_option maxHeartbeats 8000000 in
theorem alive_any14 (w : World) (hR : Roots w) : Calls Tryz.prog 5 #[] w fun e w' => e = .returned (.bool true) ∧ Below w.heap.size w w' := by
  have HR := Lib.hid hR
  have HNW : Hid (Calls Tryz.prog 20 #[.agg (oneSeed.map bv).toArray, .int .i64 0] w (NewIs w oneSeed 0)) := new_any oneSeed rfl 0 (by decide) w hR
  have hb1 := bd_dg14
  generalize hos : (oneSeed.map bv).toArray = OS at *
  clear hR
  go_enter Tryz.func5, Tryz.ntmps5
  go_upto_region 4 with (go_at_call 20; (with_reducible refine (HNW.out).mono ?_); rintro e w1 ⟨a, g, rfl, ht, hb, _, _⟩; have HT1 := Lib.hid ht; have HB1 := Lib.hid hb; clear ht hb)
  clear hb1 hos
  have HKY := Lib.hid (tkey_any a oneSeed (keyT oneSeed 0) rfl (keyT_len oneSeed 0) ((0 : Nat) : Int) (.slice (some ⟨g, 0, none⟩) (2 ^ 0) (2 ^ 0)) w1 HT1.out.tree)
  have HRL : Hid ((keyT oneSeed 0).length = 32) := Lib.hid (keyT_len oneSeed 0)
  have HGK0 : Hid (∀ d, goodK (keyT oneSeed 0) d ((0 : Nat) : Int) ((0 : Nat) : Int) (openT oneSeed ((0 : Nat) : Int) d) (shutT oneSeed ((0 : Nat) : Int) d) (pathT (leavesT oneSeed 0) 0) = true) := Lib.hid (fun d => goodK_own oneSeed d 0 0 (by decide) (by decide))
  generalize keyT oneSeed 0 = R at *
  have hbm := bd_mem 1 HRL.out 0
  go_upto_region 5 with (go_at_call 21; (with_reducible refine (HKY.out).mono ?_); rintro e w2 ⟨rfl, hb⟩; have HB2 := Lib.hid hb; have hbs : (bsT 22 1 #[(0, .agg (memL 1 R 0).toArray)]).run Tryz.prog w2 = .ok (.slice (some ⟨w2.heap.size, 0, none⟩) 1 1) (w2.alloc (.cells (memL 1 R 0).toArray 61)) := MK.build1 ⟨1, R, 0, HRL.out⟩ (.agg (memL 1 R 0).toArray) rfl (by decide) w2; have hbc := bd_cf14 (some ⟨w2.heap.size, 0, none⟩) 1 1; have hal2 : Below w2.heap.size w2 (w2.alloc (.cells (memL 1 R 0).toArray 61)) := (Below.refl _ _).alloc (Nat.le_refl _) _; obtain ⟨w3, hst3, hx3, hbl3, _⟩ := laid_cf (w2.alloc (.cells (memL 1 R 0).toArray 61)) #[.int .i64 0, .slice none 0 0] rfl 0 (some ⟨w2.heap.size, 0, none⟩) 1 1; rw [show (w2.alloc (.cells (memL 1 R 0).toArray 61)).heap.size = w2.heap.size + 1 from (by simp)] at hst3 hx3; have HX3 := Lib.hid hx3; have HBL3 := Lib.hid (hal2.trans (hbl3.mono hal2.size)); have HMM3 : Hid (Box w3 w2.heap.size 61 (memL 1 R 0).toArray) := Lib.hid ((Box.made w2 _ _).below hbl3 (Box.made w2 _ _).lt); clear hb hal2 hx3 hbl3)
  clear hst3 hbs hbc hbm HKY
  have HF3 := Lib.hid (HB1.out.trans ((HB2.out.trans (HBL3.out.mono HB2.out.size)).mono HB1.out.size))
  have HT3 := Lib.hid (HT1.out.call (HB2.out.trans (HBL3.out.mono HB2.out.size)))
  generalize hcq : w2.heap.size + 1 = cq at *
  clear hcq HBL3 HB2 HB1 HT1 HNW
  generalize w2.heap.size = mq at *
  have hbk := bd_ali
  have hzv := zero_blk
  obtain ⟨w4, hst4, hx4, hbl4⟩ := laid_blk w3 aliM
  have HX4 := Lib.hid hx4
  have HBL4 := Lib.hid hbl4
  clear hx4 hbl4
  generalize hac : aliM.cells.toArray = AC at hst4 hbk
  go_upto_region 6 with fail
  clear hst4 hbk hzv
  have HF4 := Lib.hid (HF3.out.trans (HBL4.out.mono HF3.out.size))
  have HT4 := Lib.hid (HT3.out.call HBL4.out)
  have HM4 := Lib.hid (HMM3.out.below HBL4.out HMM3.out.lt)
  have HC4 := Lib.hid (HX3.out.below HBL4.out HX3.out.lt)
  clear HF3 HT3 HMM3 HX3 HBL4
  generalize w3.heap.size = bq at *
  have lb : (ldBlk (.pointer (some ⟨bq, 0, none⟩))).run Tryz.prog w4 = .ok (.agg AC) w4 := by rw [← hac]; exact HX4.out.ld_blk
  have HDG0 := bkdgt_any aliM ⟨by simp [aliM, aliX], fun q hq => by cases hq⟩ w4 (.inl rfl) (HR.out.of_below HF4.out)
  rw [hac] at HDG0
  have HDG : Hid (Calls Tryz.prog 22 #[.agg AC] w4 fun e w' => e = .returned (.agg ((blkD aliX).map bv).toArray) ∧ Below w4.heap.size w4 w') := HDG0
  clear HDG0
  have HDL : Hid ((blkD aliX).length = 32) := Lib.hid (blkD_len aliX)
  have HDE : Hid (blkD aliX = blkD aliX) := Lib.hid rfl
  generalize hdd : blkD aliX = d at HDG HDL
  have HDD := Lib.hid hdd
  have hbv := bd_vt14 HDL.out
  have hav := al_vt14
  have hcl := alvM_cells d HDL.out
  rw [← hcl] at hbv
  clear hdd hcl HDE
  go_upto_region 7 with (go_at_call 22; (with_reducible refine (HDG.out).mono ?_); rintro e w5 ⟨rfl, hb⟩; obtain ⟨w6, hst6, hx6, hbl6⟩ := laid_vt w5 (alvM d HDL.out); have HX6 := Lib.hid hx6; have HB5 := Lib.hid hb; have HBL6 := Lib.hid hbl6; clear hb hx6 hbl6)
  clear hst6 hbv hav HDG lb
  have HBB := Lib.hid (HB5.out.trans (HBL6.out.mono HB5.out.size))
  have HF6 := Lib.hid (HF4.out.trans (HBB.out.mono HF4.out.size))
  have HT6 := Lib.hid (HT4.out.call HBB.out)
  have HM6 := Lib.hid (HM4.out.below HBB.out HM4.out.lt)
  have HC6 := Lib.hid (HC4.out.below HBB.out HC4.out.lt)
  have HK6 := Lib.hid (HX4.out.below HBB.out HX4.out.lt)
  have HQ : Hid (w.heap.size ≤ w5.heap.size) := Lib.hid (Nat.le_trans HF4.out.size HB5.out.size)
  clear HF4 HT4 HM4 HC4 HX4 HB5 HBL6 HBB
  generalize w5.heap.size = vq at *
  generalize hmm : alvM d HDL.out = m0 at *
  have HMM := Lib.hid hmm
  clear hmm
  have lv := HX6.out.ld_vt
  have HSN := Lib.hid (signs_any m0 w6 (HR.out.of_below HF6.out))
  have HSG : Hid (∀ w', Below w6.heap.size w6 w' → Calls Tryz.prog 23 #[.pointer (some ⟨a, 0, none⟩), .int .i64 0, .agg ((voteD m0.x).map bv).toArray] w' (TSignIs w' ((0 : Nat) : Int) (openT oneSeed ((0 : Nat) : Int) (voteD m0.x)) (shutT oneSeed ((0 : Nat) : Int) (voteD m0.x)) (pathT (leavesT oneSeed 0) 0))) := Lib.hid (fun w' hb => tsign_any a g oneSeed rfl 0 0 (by decide) (by decide) (voteD m0.x) rfl w' (HT6.out.call hb) (HR.out.of_below (HF6.out.trans (hb.mono HF6.out.size))))
  have HGK := Lib.hid (HGK0.out (voteD m0.x))
  have HLN := Lib.hid (sign_lens oneSeed ((0 : Nat) : Int) (voteD m0.x))
  have HXA := Lib.hid (open_all oneSeed 0 (voteD m0.x))
  have HYA := Lib.hid (shut_all oneSeed 0 (voteD m0.x))
  have HPL : Hid ((pathT (leavesT oneSeed 0) 0).length ≤ 200) := Lib.hid (by
    have h := pathT_short (leavesT oneSeed 0) 0 (by rw [leaves_len]; decide)
    rw [leaves_len] at h
    omega)
  clear HGK0 HT6
  generalize openT oneSeed ((0 : Nat) : Int) (voteD m0.x) = X at *
  generalize shutT oneSeed ((0 : Nat) : Int) (voteD m0.x) = Y at *
  generalize pathT (leavesT oneSeed 0) 0 = P at *
  generalize hvd : voteD m0.x = vd at *
  have HVD := Lib.hid hvd
  clear hvd
  generalize ((vd).map bv).toArray = VD at *
  have HMC : Hid (m0.cells.toArray = m0.cells.toArray) := Lib.hid rfl
  go_upto_region 8 with (first
    | (go_at_call 24; (with_reducible refine (HSN.out).mono ?_); rintro e w7 ⟨rfl, hb⟩; have HB7 := Lib.hid hb; clear hb)
    | (go_at_call 23; (with_reducible refine (HSG.out _ HB7.out).mono ?_); rintro e w8 ⟨g1, g2, C, c, rfl, b1, b2, hp, l1, l2⟩; obtain ⟨w9, hst0, hx9, hg9⟩ := Box.st_vsg14 (m := m0) (HX6.out.below (HB7.out.trans (hp.far.mono HB7.out.size)) HX6.out.lt) ⟨0, X, Y, P, some ⟨g1, 0, none⟩, 32, some ⟨g2, 0, none⟩, 32, C, c⟩; have hst : (stSg14 (.pointer (some ⟨vq, 37, none⟩)) (.agg (sigV 0 (some ⟨g1, 0, none⟩) 32 32 (some ⟨g2, 0, none⟩) 32 32 C P.length c))).run Tryz.prog w8 = .ok () w9 := (by unfold SgM.cells at hst0; simp only [HLN.out.1, HLN.out.2] at hst0; exact hst0); have HX9 := Lib.hid hx9; have HG9 := Lib.hid hg9; have HP8 := Lib.hid hp; have HC8 := Lib.hid (And.intro b1 b2); have HL8 := Lib.hid (And.intro l1 l2); clear hst0 hx9 hg9 b1 b2 hp l1 l2))
  clear hst lv HSN HSG
  have HF8 : Hid (Below w6.heap.size w6 w8) := Lib.hid (HB7.out.trans (HP8.out.far.mono HB7.out.size))
  have HVQ : Hid (vq < w6.heap.size) := Lib.hid HX6.out.lt
  obtain ⟨m, hm⟩ : ∃ m : VtM, m = alvS d HDL.out X Y P g1 g2 C c := ⟨_, rfl⟩
  have HV9 : Hid (Box w9 vq 69 m.cells.toArray) := Lib.hid (by
    rw [hm]
    have h := HX9.out
    rw [← HMM.out] at h
    exact h)
  have HS9 : Hid (SgSee w9 m.sg) := Lib.hid (by
    have hq3 := Nat.lt_of_lt_of_le HVQ.out HB7.out.size
    have k1 := HC8.out.1.grown HG9.out (by intro e; injection e with e; have := HL8.out.1; omega)
    have k2 := HC8.out.2.grown HG9.out (by intro e; injection e with e; have := HL8.out.2; omega)
    have k3 := World.ownsRow.kept HP8.out.own HG9.out (by
      cases hob : (Value.slice C P.length c).ownBlock with
      | none => exact .inl rfl
      | some gb => exact .inr (fun e => by injection e with e; have := own_ge14 HP8.out.own gb hob; omega))
    rw [hm]
    exact alv_see ⟨HXA.out, Sees.of_box k1 k1.lt⟩ ⟨HYA.out, Sees.of_box k2 k2.lt⟩ (OwnD.digs k3 HP8.out.all) (OwnD.form k3).1)
  have HF9 : Hid (Below w.heap.size w w9) := Lib.hid ((HF6.out.trans (HF8.out.mono HF6.out.size)).trans (below_only HG9.out HQ.out (Nat.le_trans HF6.out.size HF8.out.size)))
  have HC9 : Hid (Box w9 cq 24 (cfgV 0 (some ⟨mq, 0, none⟩) 1 1)) := Lib.hid ((HC6.out.below HF8.out HC6.out.lt).grown HG9.out (fun e => Box.apart HC6.out HX6.out (by decide) (by injection e)))
  have HK9 : Hid (Box w9 bq 29 aliM.cells.toArray) := Lib.hid ((HK6.out.below HF8.out HK6.out.lt).grown HG9.out (fun e => Box.apart HK6.out HX6.out (by decide) (by injection e)))
  have HM9 : Hid (Box w9 mq 61 (memL 1 R 0).toArray) := Lib.hid ((HM6.out.below HF8.out HM6.out.lt).grown HG9.out (fun e => Box.apart HM6.out HX6.out (by decide) (by injection e)))
  have HMX : Hid (VFew m.x ∧ m.x.round = 0) := Lib.hid (by
    rw [hm]
    exact ⟨alv_few HLN.out.1 HLN.out.2 HPL.out, rfl⟩)
  have HRT : Hid (certB 0 [⟨1, R, 0, HRL.out⟩] aliX 0 [m.x] = true) := Lib.hid (alv_right HRL.out (x := m.x) (d := d) (vd := vd) (by rw [hm]; exact ⟨rfl, rfl, rfl, rfl, rfl, rfl, rfl⟩) (by rw [hm]; exact ⟨rfl, rfl, rfl⟩) (by rw [hm, ← HVD.out, ← HMM.out]; exact voteD_eq14 rfl rfl rfl rfl rfl rfl) HGK.out aliX aliX_good ⟨rfl, rfl⟩ HDD.out)
  clear hm HX6 HC6 HK6 HM6 HX9 HG9 HP8 HC8 HL8 HB7 HF8 HF6 HVQ HQ HXA HYA HPL HLN HGK HVD HMM HMC
  have lc := HC9.out.l_cf
  have lv := HV9.out.ld_vt
  have hbs : (bsT 30 1 #[(0, .agg m.cells.toArray)]).run Tryz.prog w9 = .ok (.slice (some ⟨w9.heap.size, 0, none⟩) 1 1) (w9.alloc (.cells m.cells.toArray 69)) := VtK.build1 m (.agg m.cells.toArray) rfl (by decide) w9
  have HAL : Hid (Below w9.heap.size w9 (w9.alloc (.cells m.cells.toArray 69))) := Lib.hid ((Below.refl _ _).alloc (Nat.le_refl _) _)
  have HSV : Hid (VtK.See (w9.alloc (.cells m.cells.toArray 69)) (w9.alloc (.cells m.cells.toArray 69)).heap.size (some ⟨w9.heap.size, 0, none⟩) [m]) := Lib.hid (VtK.see_one w9 m)
  have hmk := make_any14 [⟨1, R, 0, HRL.out⟩] 0 (some ⟨mq, 0, none⟩) 1 (show (1 : Nat) ≤ 1099511627776 by decide) [m] (some ⟨w9.heap.size, 0, none⟩) 1 (show quorumN 1 ≤ 1 by decide) (Nat.le_refl _) (show (1 : Nat) ≤ 100000 by decide) (fun u hu => by rw [List.mem_singleton.1 hu]; exact HMX.out.1) _ HSV.out (fun u hu => by rw [List.mem_singleton.1 hu]; exact HS9.out.call HAL.out) 0 (by show some m.x.round = some 0; rw [HMX.out.2])
  rw [show List.take (quorumN [(⟨1, R, 0, HRL.out⟩ : MemX)].length) (List.map VtM.x [m]) = [m.x] from (by show List.take (quorumN 1) [m.x] = [m.x]; rw [show quorumN 1 = 1 from rfl]; rfl)] at hmk
  have HMK : Hid (Calls Tryz.prog 25 #[.agg (cfgV 0 (some ⟨mq, 0, none⟩) 1 1), .slice (some ⟨w9.heap.size, 0, none⟩) 1 1] (w9.alloc (.cells m.cells.toArray 69)) (MakeIs 0 [m.x] (w9.alloc (.cells m.cells.toArray 69)))) := Lib.hid hmk
  clear hmk
  generalize hw10 : w9.alloc (.cells m.cells.toArray 69) = w10 at *
  go_upto_region 9 with (go_at_call 25; (with_reducible refine (HMK.out).mono ?_); rintro e w11 ⟨A', c', us, rfl, hx11, hv11, hs11, hb11⟩; obtain ⟨w12, hst12, hbx12, hbl12⟩ := laid_ct w11 0 A' 1 c'; have HX12 := Lib.hid hbx12; have HUX := Lib.hid hx11; have HV12 := Lib.hid (EK.See.far hv11 hbl12); have HS12 : Hid (∀ u ∈ us, SgSee w12 u.sg) := Lib.hid (fun u hu => (hs11 u hu).call hbl12); have HB12 := Lib.hid (HAL.out.trans ((hb11.trans (hbl12.mono hb11.size)).mono HAL.out.size)); clear hx11 hv11 hs11 hb11 hbx12 hbl12)
  clear hst12 hbs lc lv hw10 HSV HMK
  have HUL : Hid (us.length = 1) := Lib.hid (by
    have h := congrArg List.length HUX.out
    rw [List.length_map] at h
    exact h)
  have lc := (HC9.out.below HB12.out HC9.out.lt).l_cf
  have lk := (HK9.out.below HB12.out HK9.out.lt).ld_blk
  have lt := HX12.out.l_ct
  have hmb := HM9.out.below HB12.out HM9.out.lt
  have hck := ccheck_any [⟨1, R, 0, HRL.out⟩] 0 (some ⟨mq, 0, none⟩) 1 (show (1 : Nat) ≤ 1099511627776 by decide) aliM ⟨by simp [aliM, aliX], fun q hq => by cases hq⟩ 0 us A' c' (by rw [HUL.out]; decide) w12 (by
    have h : Sees w12 w12.heap.size (some ⟨mq, 0, none⟩) (memL 1 R 0) := Sees.of_box hmb hmb.lt
    have e : flatM [⟨1, R, 0, HRL.out⟩] = memL 1 R 0 := List.append_nil _
    show Sees _ _ _ (flatM [⟨1, R, 0, HRL.out⟩])
    rw [e]
    exact h) (.inl rfl) HV12.out HS12.out (HR.out.of_below (HF9.out.trans (HB12.out.mono HF9.out.size)))
  rw [HUX.out, HUL.out] at hck
  rw [show certB 0 [⟨1, R, 0, HRL.out⟩] aliM.x 0 [m.x] = true from HRT.out] at hck
  rw [hac] at hck lk
  have HCK : Hid (Calls Tryz.prog 7 #[.agg (cfgV 0 (some ⟨mq, 0, none⟩) 1 1), .agg AC, .agg (crtV 0 A' 1 c')] w12 fun e w' => e = .returned (.bool true) ∧ Below w12.heap.size w12 w') := Lib.hid hck
  have HFZ := Lib.hid (HF9.out.trans (HB12.out.mono HF9.out.size))
  clear hck hmb HUX HUL HV12 HS12 HRT HC9 HK9 HM9 HX12 HMX HB12 HAL
  go_wp2_with (go_at_call 7; (with_reducible refine (HCK.out).mono ?_); rintro e w13 ⟨rfl, hb⟩; have HB13 := Lib.hid (HFZ.out.trans (hb.mono HFZ.out.size)); clear hb)
  go_ret
  exact ⟨rfl, HB13.out⟩
end Go.Proofs.YtejnfgcnifcpaaaGreatDoor

namespace Go.Proofs.YtejnfgcnifcpaaaGreatDoor
open Go.RowKit Go.Maps Go.Sort

/-! ### On plain lists -/
set_option maxRecDepth 100000 in
theorem few_small14 {x : BlkX} (h : Few x) : Small12 x := ⟨by have := h.len; omega, fun q hq => by have := h.txt q hq; omega⟩
set_option maxRecDepth 100000 in
theorem certB_true {ep : Int} {ms : List MemX} {b : BlkX} {r : Int} {xs : List VtX} (h : certB ep ms b r xs = true) : goodB ep ms = true ∧ quorumN ms.length ≤ xs.length ∧ risB14 xs = true ∧ ∀ x ∈ xs, ok14 ms ep b.height r (blkD b) x = true := by
  unfold certB at h
  simp only [Bool.and_eq_true, decide_eq_true_eq] at h
  obtain ⟨h1, _, _, h4, h5, h6⟩ := h
  exact ⟨h1, h4, h5, List.all_eq_true.1 h6⟩
set_option maxRecDepth 100000 in
theorem certB_short {ep : Int} {ms : List MemX} {b : BlkX} {r : Int} {xs : List VtX} (h : xs.length < quorumN ms.length) : certB ep ms b r xs = false := by
  cases e : certB ep ms b r xs with
  | false => rfl
  | true =>
    have := (certB_true e).2.1
    omega
set_option maxRecDepth 100000 in
theorem certB_fall {ep : Int} {ms : List MemX} {b : BlkX} {r : Int} {xs : List VtX} (h : risB14 xs = false) : certB ep ms b r xs = false := by
  cases e : certB ep ms b r xs with
  | false => rfl
  | true =>
    have h2 := (certB_true e).2.2.1
    rw [h] at h2
    cases h2
set_option maxRecDepth 100000 in
theorem sees_front {w : World} {B : Nat} {A : Option Addr} {a b : List Value} (h : Sees w B A (a ++ b)) : Sees w B A a := by
  rcases h with h0 | ⟨g, o, e, hl, hc⟩
  · exact .inl (List.append_eq_nil_iff.1 h0).1
  · exact .inr ⟨g, o, e, hl, fun j u hu => hc j u (by rw [List.getElem?_append_left (List.getElem?_eq_some_iff.1 hu).1]; exact hu)⟩
set_option maxRecDepth 100000 in
theorem see_take14 {w : World} {B : Nat} {A : Option Addr} {vs : List VtM} (h : VtK.See w B A vs) (n : Nat) : VtK.See w B A (vs.take n) := by
  have h2 : Sees w B A (VtK.flat vs) := h
  rw [VtK.flat_cut vs n] at h2
  exact sees_front h2
end Go.Proofs.YtejnfgcnifcpaaaGreatDoor
