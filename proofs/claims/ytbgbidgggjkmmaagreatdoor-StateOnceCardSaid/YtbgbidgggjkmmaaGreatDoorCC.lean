/-
  Changes: who comes by one (config.comer), why a configuration can't have it (config.refusal).
  config.behind and config.Apply.
  What the laws of config begin with: four members, one of which goes.
  Memberships as plain lists: what can be, what a change makes of it. No program.
-/
import Derived.Test.YtbgbidgggjkmmaaGreatDoorCB
import Derived.Test.YtbgbidgggjkmmaaGreatDoorCfChg
import Derived.Deep.RegionHeld3
namespace Go.Proofs.YtbgbidgggjkmmaaGreatDoor
open Go.RowKit Go.Sort

def cid (k i n : Int) : Int := if k = 3 then n else i
def comerX (k i n : Int) (r : List UInt8) (h : Int) (hr : r.length = 32) : MemX := ⟨cid k i n, r, h, hr⟩

attribute [local go_sem ↓] ldMem_def stMem_def eqMem_def bdMem_def bsMem_def clMem_def apAll_def ldChg_def ldKy_def

set_option maxRecDepth 100000 in
set_option maxHeartbeats 1000000 in
theorem comer_any (k i n : Int) (r : List UInt8) (h : Int) (hr : r.length = 32) (w : World) : Calls Tryz.prog 71 #[chgV k i n r h] w fun e w' => e = .returned (comerX k i n r h hr).enc ∧ Below w.heap.size w w' := by
  obtain ⟨w1, hw1⟩ : ∃ w1, w1 = (w.alloc (.cells (chgL k i n r h).toArray 52)).alloc (.cells zmemV 74) := ⟨_, rfl⟩
  have HX : Hid (Box w1 w.heap.size 52 (chgL k i n r h).toArray) := by
    rw [hw1]
    exact (Box.made w _ _).alloc _
  have HM : Hid (Box w1 (w.heap.size + 1) 74 zmemV) := by
    rw [hw1]
    exact Box.made_at (by simp) _ _
  have HF : Hid (Below w.heap.size w w1) := by
    rw [hw1]
    exact ((Below.refl _ _).alloc (Nat.le_refl _) _).alloc (by simp) _
  have c0 : w1.cell? ⟨w.heap.size, 0, none⟩ = some (.int .i64 k) := HX.out.cell 0
  have c1 : w1.cell? ⟨w.heap.size, 1, none⟩ = some (.int .i64 i) := HX.out.cell 1
  have c2 : w1.cell? ⟨w.heap.size, 2, none⟩ = some (.int .i64 n) := HX.out.cell 2
  have lk := ld_ky hr (chg_key HX.out)
  obtain ⟨w3, hst, hb3, hg3⟩ := HM.out.st_mem zmem_size (comerX k i n r h hr)
  have HB3 := Lib.hid hb3
  have HG3 : Hid (Below w.heap.size w w3) := Lib.hid (HF.out.trans (below_only hg3 (by omega) HF.out.size))
  have hbd := bd_mem (cid k i n) hr h w1
  unfold MemX.enc MemX.cells comerX at hst
  simp only at hst
  have HL := Lib.hid hr
  unfold cid at hbd hst
  clear hb3 hg3
  have hund : (comerX k i n r h hr).enc = .agg (memL (cid k i n) r h).toArray := rfl
  have HU := Lib.hid hund
  clear hund
  by_cases hk : k = 3
  · rw [if_pos hk] at hbd hst
    have e1 : (k == 3) = true := by simpa using hk
    clear hk
    go_enter Tryz.func71, Tryz.ntmps71
    go_upto_region 1 with fail
    change Code.wp _ _ _ _ ((w.alloc (.cells (chgL k i n r h).toArray 52)).alloc (.cells zmemV 74))
    rw [← hw1]
    clear hw1
    go_wp2
    exact ret_mem rfl rfl rfl HB3.out ⟨rfl, HG3.out⟩
  · rw [if_neg hk] at hbd hst
    have e1 : (k == 3) = false := by simpa using hk
    clear hk
    go_enter Tryz.func71, Tryz.ntmps71
    go_upto_region 1 with fail
    change Code.wp _ _ _ _ ((w.alloc (.cells (chgL k i n r h).toArray 52)).alloc (.cells zmemV 74))
    rw [← hw1]
    clear hw1
    go_wp2
    exact ret_mem rfl rfl rfl HB3.out ⟨rfl, HG3.out⟩

/-- Why a configuration can't have a change; 0: it can. -/
def errC (ep : Int) (ms : List MemX) (k i n h : Int) : Int :=
  if !(goodB ep ms) || (decide (ep = 1073741824) || !(inB k 1 4)) then 1
  else if !(decide (k = 2)) && !(fitsB (cid k i n) h) then 1
  else if !(decide (k = 1)) && !(hasB ms i) then 7
  else if (decide (k = 1) || decide (k = 3)) && hasB ms (cid k i n) then 9
  else if decide (k = 1) && decide (ms.length = 10) then 11
  else if decide (k = 2) && decide (ms.length = 1) then 10
  else 0

set_option maxRecDepth 100000 in
set_option maxHeartbeats 8000000 in
theorem refusal_any (ep : Int) (ms : List MemX) (A : Option Addr) (c : Nat) (hn : ms.length ≤ maxLen) (k i n : Int) (r : List UInt8) (h : Int) (hr : r.length = 32) (w : World) (hS : Mems w w.heap.size A ms) :
    Calls Tryz.prog 63 #[.agg (cfgV ep A ms.length c), chgV k i n r h] w fun e w' => e = .returned (.int .i64 (errC ep ms k i n h)) ∧ Below w.heap.size w w' := by
  obtain ⟨w1, hw1⟩ : ∃ w1, w1 = (w.alloc (.cells (cfgV ep A ms.length c) 26)).alloc (.cells (chgL k i n r h).toArray 52) := ⟨_, rfl⟩
  have HX : Hid (Box w1 w.heap.size 26 (cfgV ep A ms.length c)) := by
    rw [hw1]
    exact (Box.made w _ _).alloc _
  have HY : Hid (Box w1 (w.heap.size + 1) 52 (chgL k i n r h).toArray) := by
    rw [hw1]
    exact Box.made_at (by simp) _ _
  have HF : Hid (Below w.heap.size w w1) := by
    rw [hw1]
    exact ((Below.refl _ _).alloc (Nat.le_refl _) _).alloc (by simp) _
  have HS := Lib.hid (hS.far HF.out)
  have HCX : Hid (∀ w', Below w1.heap.size w1 w' → w'.cell? ⟨w.heap.size, 0, none⟩ = some (.int .i64 ep) ∧ w'.cell? ⟨w.heap.size, 1, none⟩ = some (.slice A ms.length c) ∧ w'.cell? ⟨w.heap.size + 1, 0, none⟩ = some (.int .i64 k) ∧ w'.cell? ⟨w.heap.size + 1, 1, none⟩ = some (.int .i64 i) ∧ (ldChg (.pointer (some ⟨w.heap.size + 1, 0, none⟩))).run Tryz.prog w' = .ok (chgV k i n r h) w') := Lib.hid (fun w' hb => by
    have hx := HX.out.below hb HX.out.lt
    have hy := HY.out.below hb HY.out.lt
    exact ⟨hx.cell 0, hx.cell 1, hy.cell 0, hy.cell 1, ld_chg hr hy⟩)
  have HGD : Hid (∀ w', Below w1.heap.size w1 w' → Calls Tryz.prog 68 #[.agg (cfgV ep A ms.length c)] w' fun e w'' => e = .returned (.bool (goodB ep ms)) ∧ Below w'.heap.size w' w'') := Lib.hid (fun w' hb => good_any8 ms ep A c hn w' (HS.out.far hb))
  have HHI : Hid (∀ w', Below w1.heap.size w1 w' → Calls Tryz.prog 72 #[.agg (cfgV ep A ms.length c), .int .i64 i] w' fun e w'' => e = .returned (.bool (hasB ms i)) ∧ Below w'.heap.size w' w'') := Lib.hid (fun w' hb => has_any ms ep A c hn i w' (HS.out.far hb))
  have HHC : Hid (∀ w', Below w1.heap.size w1 w' → Calls Tryz.prog 72 #[.agg (cfgV ep A ms.length c), .int .i64 (cid k i n)] w' fun e w'' => e = .returned (.bool (hasB ms (cid k i n))) ∧ Below w'.heap.size w' w'') := Lib.hid (fun w' hb => has_any ms ep A c hn (cid k i n) w' (HS.out.far hb))
  have HCM : Hid (∀ w', Calls Tryz.prog 71 #[chgV k i n r h] w' fun e w'' => e = .returned (.agg (memL (cid k i n) r h).toArray) ∧ Below w'.heap.size w' w'') := Lib.hid (fun w' => comer_any k i n r h hr w')
  have HFI : Hid (∀ w', Calls Tryz.prog 70 #[.agg (memL (cid k i n) r h).toArray] w' fun e w'' => e = .returned (.bool (fitsB (cid k i n) h)) ∧ Below w'.heap.size w' w'') := Lib.hid (fun w' => fits_any (comerX k i n r h hr) w')
  have HWI := Lib.hid (cwithin_any k 1 4)
  have HE : Hid (errC ep ms k i n h = if !(goodB ep ms) || (decide (ep = 1073741824) || !(inB k 1 4)) then 1
    else if !(decide (k = 2)) && !(fitsB (cid k i n) h) then 1
    else if !(decide (k = 1)) && !(hasB ms i) then 7
    else if (decide (k = 1) || decide (k = 3)) && hasB ms (cid k i n) then 9
    else if decide (k = 1) && decide (ms.length = 10) then 11
    else if decide (k = 2) && decide (ms.length = 1) then 10
    else 0) := rfl
  have HIN : Hid (inB k 1 4 = true → k = 1 ∨ k = 2 ∨ k = 3 ∨ k = 4) := Lib.hid (fun hh => by
    unfold inB at hh
    rw [Bool.and_eq_true, decide_eq_true_iff, decide_eq_true_iff] at hh
    omega)
  have HN : Hid (ms.length ≤ 9223372036854775807) := Lib.hid (Nat.le_trans hn (by simp [maxLen]))
  clear hS hn
  generalize goodB ep ms = gd at *
  generalize inB k 1 4 = ik at *
  generalize hasB ms i = hi at *
  generalize hasB ms (cid k i n) = hc at *
  generalize fitsB (cid k i n) h = ft at *
  generalize errC ep ms k i n h = er at *
  generalize hcd : cid k i n = cd at *
  have HM : Hid ((memL cd r h).toArray.toList = .int .i64 cd :: keyL r h) := rfl
  have hfd : ∀ w : World, (Instr.field 74 (.agg (memL cd r h).toArray) 0).run Tryz.prog w = .ok (.int .i64 cd) w := fun _ => by kernel_rfl
  generalize (memL cd r h).toArray = mv at *
  clear HX HY HS hr hcd HM
  obtain ⟨c0, c1, d0, d1, lc⟩ := HCX.out w1 (Below.refl _ _)
  go_enter Tryz.func63, Tryz.ntmps63
  go_upto_region 1 with fail
  change Code.wp _ _ _ _ ((w.alloc (.cells (cfgV ep A ms.length c) 26)).alloc (.cells (chgL k i n r h).toArray 52))
  rw [← hw1]
  clear hw1
  go_quiet (fail)
  clear lc
  cases gd
  · have HR : Hid (er = 1) := Lib.hid (by rw [HE.out]; rfl)
    go_wp2_with (go_at_call 68; (with_reducible refine (HGD.out _ (below_drewN (Below.refl _ _) _)).mono ?_); rintro e w3 ⟨rfl, hb3⟩; have HB3 : Hid (Below w1.heap.size w1 w3) := Lib.hid ((below_drewN (Below.refl w1.heap.size w1) _).trans (hb3.mono (Nat.le_refl _))); obtain ⟨c0', c1', d0', d1', lc'⟩ := HCX.out w3 HB3.out; clear hb3)
    go_ret
    exact ⟨by rw [HR.out]; rfl, HF.out.trans ((HB3.out).mono HF.out.size)⟩
  by_cases hep : ep = 1073741824
  · have HR : Hid (er = 1) := Lib.hid (by rw [HE.out, decide_eq_true hep]; rfl)
    have e0 : (ep == 1073741824) = true := by simpa using hep
    clear hep
    go_wp2_with (go_at_call 68; (with_reducible refine (HGD.out _ (below_drewN (Below.refl _ _) _)).mono ?_); rintro e w3 ⟨rfl, hb3⟩; have HB3 : Hid (Below w1.heap.size w1 w3) := Lib.hid ((below_drewN (Below.refl w1.heap.size w1) _).trans (hb3.mono (Nat.le_refl _))); obtain ⟨c0', c1', d0', d1', lc'⟩ := HCX.out w3 HB3.out; clear hb3)
    go_ret
    exact ⟨by rw [HR.out]; rfl, HF.out.trans ((HB3.out).mono HF.out.size)⟩
  have e0 : (ep == 1073741824) = false := by simpa using hep
  cases ik
  · have HR : Hid (er = 1) := Lib.hid (by rw [HE.out, decide_eq_false hep]; rfl)
    clear hep
    go_wp2_with (first | (go_at_call 68; (with_reducible refine (HGD.out _ (below_drewN (Below.refl _ _) _)).mono ?_); rintro e w3 ⟨rfl, hb3⟩; have HB3 : Hid (Below w1.heap.size w1 w3) := Lib.hid ((below_drewN (Below.refl w1.heap.size w1) _).trans (hb3.mono (Nat.le_refl _))); obtain ⟨c0', c1', d0', d1', lc'⟩ := HCX.out w3 HB3.out; clear hb3) | (go_at_call 69; (with_reducible refine (HWI.out _).mono ?_); rintro e w4 ⟨rfl, rfl⟩))
    go_ret
    exact ⟨by rw [HR.out]; rfl, HF.out.trans ((HB3.out).mono HF.out.size)⟩
  have HEP := Lib.hid hep
  clear hep
  go_upto_region 4 with (first | (go_at_call 68; (with_reducible refine (HGD.out _ (below_drewN (Below.refl _ _) _)).mono ?_); rintro e w3 ⟨rfl, hb3⟩; have HB3 : Hid (Below w1.heap.size w1 w3) := Lib.hid ((below_drewN (Below.refl w1.heap.size w1) _).trans (hb3.mono (Nat.le_refl _))); obtain ⟨c0', c1', d0', d1', lc'⟩ := HCX.out w3 HB3.out; clear hb3) | (go_at_call 69; (with_reducible refine (HWI.out _).mono ?_); rintro e w4 ⟨rfl, rfl⟩))
  clear e0 HGD HWI c0 c1 d0 d1
  rcases HIN.out (by first | exact rfl | exact trivial) with rfl | rfl | rfl | rfl
  · cases ft
    · have HR : Hid (er = 1) := Lib.hid (by rw [HE.out, decide_eq_false HEP.out]; rfl)
      go_wp2_with (first | (go_at_call 71; (with_reducible refine (HCM.out _).mono ?_); rintro e w5 ⟨rfl, hb5⟩; have HB5 : Hid (Below w1.heap.size w1 w5) := Lib.hid (HB3.out.trans (hb5.mono HB3.out.size)); clear hb5) | (go_at_call 70; (with_reducible refine (HFI.out _).mono ?_); rintro e w6 ⟨rfl, hb6⟩; have HB6 : Hid (Below w1.heap.size w1 w6) := Lib.hid (HB5.out.trans (hb6.mono HB5.out.size)); obtain ⟨c0'', c1'', d0'', d1'', lc''⟩ := HCX.out w6 HB6.out; clear hb6))
      go_ret
      exact ⟨by rw [HR.out]; rfl, HF.out.trans ((HB6.out).mono HF.out.size)⟩
    go_upto_region 8 with (first | (go_at_call 71; (with_reducible refine (HCM.out _).mono ?_); rintro e w5 ⟨rfl, hb5⟩; have HB5 : Hid (Below w1.heap.size w1 w5) := Lib.hid (HB3.out.trans (hb5.mono HB3.out.size)); clear hb5) | (go_at_call 70; (with_reducible refine (HFI.out _).mono ?_); rintro e w6 ⟨rfl, hb6⟩; have HB6 : Hid (Below w1.heap.size w1 w6) := Lib.hid (HB5.out.trans (hb6.mono HB5.out.size)); obtain ⟨c0'', c1'', d0'', d1'', lc''⟩ := HCX.out w6 HB6.out; clear hb6))
    have HBw6 := HB6
    clear c0' c1' d0' d1' lc' c0'' c1'' d0'' d1'' lc''
    have cQ0 := fun (d : Nat) (os : Array Obj) => (HCX.out (grow (redrawn w6 d) os) (HBw6.out.trans ((below_regrown w6 d os).mono HBw6.out.size))).1
    have cQ1 := fun (d : Nat) (os : Array Obj) => (HCX.out (grow (redrawn w6 d) os) (HBw6.out.trans ((below_regrown w6 d os).mono HBw6.out.size))).2.1
    have lQ := fun (d : Nat) (os : Array Obj) => (HCX.out (grow (redrawn w6 d) os) (HBw6.out.trans ((below_regrown w6 d os).mono HBw6.out.size))).2.2.2.2
    have QC := Lib.hid (fun (d : Nat) (os : Array Obj) => Calls.regrown_of (HCM.out (grow (redrawn w6 d) os)))
    have QH := Lib.hid (fun (d : Nat) (os : Array Obj) => Calls.regrown_of (HHC.out (grow (redrawn w6 d) os) (HBw6.out.trans ((below_regrown w6 d os).mono HBw6.out.size))))
    refine wp_region_quiet_below (by kernel_rfl) (by kernel_rfl) ?_
    repeat (quiet_step (first | (go_at_call 71; with_reducible exact QC.out _ _) | (go_at_call 72; with_reducible exact QH.out _ _)))
    refine wpQuiet_nil ?_
    intro _ hw'
    obtain ⟨⟨dq, osq⟩, hw''⟩ := hw'
    subst hw''
    have HBQ : Hid (Below w1.heap.size w1 (grow (redrawn w6 dq) osq)) := Lib.hid (HBw6.out.trans ((below_regrown w6 dq osq).mono HBw6.out.size))
    have cR := cQ1 dq osq
    clear cQ0 cQ1 lQ QC QH
    cases hc
    case true =>
      have HR : Hid (er = 9) := Lib.hid (by rw [HE.out, decide_eq_false HEP.out]; rfl)
      go_wp2
      go_ret
      exact ⟨by rw [HR.out]; rfl, HF.out.trans ((HBQ.out).mono HF.out.size)⟩
    by_cases hl : ms.length = 10
    · have HR : Hid (er = 11) := Lib.hid (by rw [HE.out, decide_eq_false HEP.out, decide_eq_true hl]; rfl)
      have e1 : ((ms.length : Int) == 10) = true := by rw [beq_iff_eq]; omega
      clear hl
      go_wp2
      go_ret
      exact ⟨by rw [HR.out]; rfl, HF.out.trans ((HBQ.out).mono HF.out.size)⟩
    · have HR : Hid (er = 0) := Lib.hid (by rw [HE.out, decide_eq_false HEP.out, decide_eq_false hl]; rfl)
      have e1 : ((ms.length : Int) == 10) = false := by rw [beq_eq_false_iff_ne]; omega
      clear hl
      go_wp2
      go_ret
      exact ⟨by rw [HR.out]; rfl, HF.out.trans ((HBQ.out).mono HF.out.size)⟩
  · cases hi
    · have HR : Hid (er = 7) := Lib.hid (by rw [HE.out, decide_eq_false HEP.out]; rfl)
      go_wp2_with (go_at_call 72; (with_reducible refine (HHI.out _ HB3.out).mono ?_); rintro e w7 ⟨rfl, hb7⟩; have HB7 : Hid (Below w1.heap.size w1 w7) := Lib.hid (HB3.out.trans (hb7.mono HB3.out.size)); obtain ⟨c0q, c1q, d0q, d1q, lcq⟩ := HCX.out w7 HB7.out; clear hb7)
      go_ret
      exact ⟨by rw [HR.out]; rfl, HF.out.trans ((HB7.out).mono HF.out.size)⟩
    go_upto_region 8 with (go_at_call 72; (with_reducible refine (HHI.out _ HB3.out).mono ?_); rintro e w7 ⟨rfl, hb7⟩; have HB7 : Hid (Below w1.heap.size w1 w7) := Lib.hid (HB3.out.trans (hb7.mono HB3.out.size)); obtain ⟨c0q, c1q, d0q, d1q, lcq⟩ := HCX.out w7 HB7.out; clear hb7)
    clear c0' c1' d0' d1' lc'
    go_quiet (fail)
    by_cases hl : ms.length = 1
    · have HR : Hid (er = 10) := Lib.hid (by rw [HE.out, decide_eq_false HEP.out, decide_eq_true hl]; rfl)
      have e1 : ((ms.length : Int) == 1) = true := by rw [beq_iff_eq]; omega
      clear hl
      go_wp2
      go_ret
      exact ⟨by rw [HR.out]; rfl, HF.out.trans ((below_drewN HB7.out _).mono HF.out.size)⟩
    · have HR : Hid (er = 0) := Lib.hid (by rw [HE.out, decide_eq_false HEP.out, decide_eq_false hl]; rfl)
      have e1 : ((ms.length : Int) == 1) = false := by rw [beq_eq_false_iff_ne]; omega
      clear hl
      go_wp2
      go_ret
      exact ⟨by rw [HR.out]; rfl, HF.out.trans ((below_drewN HB7.out _).mono HF.out.size)⟩
  · cases ft
    · have HR : Hid (er = 1) := Lib.hid (by rw [HE.out, decide_eq_false HEP.out]; rfl)
      go_wp2_with (first | (go_at_call 71; (with_reducible refine (HCM.out _).mono ?_); rintro e w5 ⟨rfl, hb5⟩; have HB5 : Hid (Below w1.heap.size w1 w5) := Lib.hid (HB3.out.trans (hb5.mono HB3.out.size)); clear hb5) | (go_at_call 70; (with_reducible refine (HFI.out _).mono ?_); rintro e w6 ⟨rfl, hb6⟩; have HB6 : Hid (Below w1.heap.size w1 w6) := Lib.hid (HB5.out.trans (hb6.mono HB5.out.size)); obtain ⟨c0'', c1'', d0'', d1'', lc''⟩ := HCX.out w6 HB6.out; clear hb6))
      go_ret
      exact ⟨by rw [HR.out]; rfl, HF.out.trans ((HB6.out).mono HF.out.size)⟩
    go_upto_region 6 with (first | (go_at_call 71; (with_reducible refine (HCM.out _).mono ?_); rintro e w5 ⟨rfl, hb5⟩; have HB5 : Hid (Below w1.heap.size w1 w5) := Lib.hid (HB3.out.trans (hb5.mono HB3.out.size)); clear hb5) | (go_at_call 70; (with_reducible refine (HFI.out _).mono ?_); rintro e w6 ⟨rfl, hb6⟩; have HB6 : Hid (Below w1.heap.size w1 w6) := Lib.hid (HB5.out.trans (hb6.mono HB5.out.size)); obtain ⟨c0'', c1'', d0'', d1'', lc''⟩ := HCX.out w6 HB6.out; clear hb6))
    clear c0' c1' d0' d1' lc'
    cases hi
    · have HR : Hid (er = 7) := Lib.hid (by rw [HE.out, decide_eq_false HEP.out]; rfl)
      go_wp2_with (go_at_call 72; (with_reducible refine (HHI.out _ HB6.out).mono ?_); rintro e w7 ⟨rfl, hb7⟩; have HB7 : Hid (Below w1.heap.size w1 w7) := Lib.hid (HB6.out.trans (hb7.mono HB6.out.size)); obtain ⟨c0q, c1q, d0q, d1q, lcq⟩ := HCX.out w7 HB7.out; clear hb7)
      go_ret
      exact ⟨by rw [HR.out]; rfl, HF.out.trans ((HB7.out).mono HF.out.size)⟩
    go_upto_region 8 with (go_at_call 72; (with_reducible refine (HHI.out _ HB6.out).mono ?_); rintro e w7 ⟨rfl, hb7⟩; have HB7 : Hid (Below w1.heap.size w1 w7) := Lib.hid (HB6.out.trans (hb7.mono HB6.out.size)); obtain ⟨c0q, c1q, d0q, d1q, lcq⟩ := HCX.out w7 HB7.out; clear hb7)
    have HBw7 := HB7
    clear c0'' c1'' d0'' d1'' lc'' c0q c1q d0q d1q lcq
    have cQ0 := fun (d : Nat) (os : Array Obj) => (HCX.out (grow (redrawn w7 d) os) (HBw7.out.trans ((below_regrown w7 d os).mono HBw7.out.size))).1
    have cQ1 := fun (d : Nat) (os : Array Obj) => (HCX.out (grow (redrawn w7 d) os) (HBw7.out.trans ((below_regrown w7 d os).mono HBw7.out.size))).2.1
    have lQ := fun (d : Nat) (os : Array Obj) => (HCX.out (grow (redrawn w7 d) os) (HBw7.out.trans ((below_regrown w7 d os).mono HBw7.out.size))).2.2.2.2
    have QC := Lib.hid (fun (d : Nat) (os : Array Obj) => Calls.regrown_of (HCM.out (grow (redrawn w7 d) os)))
    have QH := Lib.hid (fun (d : Nat) (os : Array Obj) => Calls.regrown_of (HHC.out (grow (redrawn w7 d) os) (HBw7.out.trans ((below_regrown w7 d os).mono HBw7.out.size))))
    refine wp_region_quiet_below (by kernel_rfl) (by kernel_rfl) ?_
    repeat (quiet_step (first | (go_at_call 71; with_reducible exact QC.out _ _) | (go_at_call 72; with_reducible exact QH.out _ _)))
    refine wpQuiet_nil ?_
    intro _ hw'
    obtain ⟨⟨dq, osq⟩, hw''⟩ := hw'
    subst hw''
    have HBQ : Hid (Below w1.heap.size w1 (grow (redrawn w7 dq) osq)) := Lib.hid (HBw7.out.trans ((below_regrown w7 dq osq).mono HBw7.out.size))
    have cR := cQ1 dq osq
    clear cQ0 cQ1 lQ QC QH
    cases hc
    · have HR : Hid (er = 0) := Lib.hid (by rw [HE.out, decide_eq_false HEP.out]; rfl)
      go_wp2
      go_ret
      exact ⟨by rw [HR.out]; rfl, HF.out.trans ((HBQ.out).mono HF.out.size)⟩
    · have HR : Hid (er = 9) := Lib.hid (by rw [HE.out, decide_eq_false HEP.out]; rfl)
      go_wp2
      go_ret
      exact ⟨by rw [HR.out]; rfl, HF.out.trans ((HBQ.out).mono HF.out.size)⟩
  · cases ft
    · have HR : Hid (er = 1) := Lib.hid (by rw [HE.out, decide_eq_false HEP.out]; rfl)
      go_wp2_with (first | (go_at_call 71; (with_reducible refine (HCM.out _).mono ?_); rintro e w5 ⟨rfl, hb5⟩; have HB5 : Hid (Below w1.heap.size w1 w5) := Lib.hid (HB3.out.trans (hb5.mono HB3.out.size)); clear hb5) | (go_at_call 70; (with_reducible refine (HFI.out _).mono ?_); rintro e w6 ⟨rfl, hb6⟩; have HB6 : Hid (Below w1.heap.size w1 w6) := Lib.hid (HB5.out.trans (hb6.mono HB5.out.size)); obtain ⟨c0'', c1'', d0'', d1'', lc''⟩ := HCX.out w6 HB6.out; clear hb6))
      go_ret
      exact ⟨by rw [HR.out]; rfl, HF.out.trans ((HB6.out).mono HF.out.size)⟩
    go_upto_region 6 with (first | (go_at_call 71; (with_reducible refine (HCM.out _).mono ?_); rintro e w5 ⟨rfl, hb5⟩; have HB5 : Hid (Below w1.heap.size w1 w5) := Lib.hid (HB3.out.trans (hb5.mono HB3.out.size)); clear hb5) | (go_at_call 70; (with_reducible refine (HFI.out _).mono ?_); rintro e w6 ⟨rfl, hb6⟩; have HB6 : Hid (Below w1.heap.size w1 w6) := Lib.hid (HB5.out.trans (hb6.mono HB5.out.size)); obtain ⟨c0'', c1'', d0'', d1'', lc''⟩ := HCX.out w6 HB6.out; clear hb6))
    clear c0' c1' d0' d1' lc'
    cases hi
    · have HR : Hid (er = 7) := Lib.hid (by rw [HE.out, decide_eq_false HEP.out]; rfl)
      go_wp2_with (go_at_call 72; (with_reducible refine (HHI.out _ HB6.out).mono ?_); rintro e w7 ⟨rfl, hb7⟩; have HB7 : Hid (Below w1.heap.size w1 w7) := Lib.hid (HB6.out.trans (hb7.mono HB6.out.size)); obtain ⟨c0q, c1q, d0q, d1q, lcq⟩ := HCX.out w7 HB7.out; clear hb7)
      go_ret
      exact ⟨by rw [HR.out]; rfl, HF.out.trans ((HB7.out).mono HF.out.size)⟩
    go_upto_region 8 with (go_at_call 72; (with_reducible refine (HHI.out _ HB6.out).mono ?_); rintro e w7 ⟨rfl, hb7⟩; have HB7 : Hid (Below w1.heap.size w1 w7) := Lib.hid (HB6.out.trans (hb7.mono HB6.out.size)); obtain ⟨c0q, c1q, d0q, d1q, lcq⟩ := HCX.out w7 HB7.out; clear hb7)
    clear c0'' c1'' d0'' d1'' lc''
    go_quiet (fail)
    have HR : Hid (er = 0) := Lib.hid (by rw [HE.out, decide_eq_false HEP.out]; rfl)
    go_wp2
    go_ret
    exact ⟨by rw [HR.out]; rfl, HF.out.trans ((below_drewN HB7.out _).mono HF.out.size)⟩
end Go.Proofs.YtbgbidgggjkmmaaGreatDoor

namespace Go.Proofs.YtbgbidgggjkmmaaGreatDoor
open Go.RowKit Go.Sort

/-- The members behind a change, in no order yet. -/
def nextM (ms : List MemX) (k i n : Int) (r : List UInt8) (h : Int) (hr : r.length = 32) : List MemX := dropId i ms ++ (if k = 2 then [] else [comerX k i n r h hr])
set_option maxRecDepth 100000 in
theorem OwnM.base {w : World} {B B' : Nat} {v : Value} {ms : List MemX} (h : OwnM w B v ms) (hB : B' ≤ B) : OwnM w B' v ms := by
  refine ⟨h.1, ?_⟩
  rcases h.2 with h1 | ⟨g, cap, cur, h1, h2, h3⟩
  · exact .inl h1
  · exact .inr ⟨g, cap, cur, h1, Nat.le_trans hB h2, h3⟩
set_option maxRecDepth 100000 in
theorem OwnM.keep {w w' : World} {B : Nat} {v : Value} {ms : List MemX} (h : OwnM w B v ms) (hb : Below w.heap.size w w') : OwnM w' B v ms :=
  World.ownsRow.kept h (only_below hb none) (by cases v.ownBlock <;> simp)
/-- Behind a change: sorted, of these. -/
structure Behind (ms : List MemX) (k i n : Int) (r : List UInt8) (h : Int) (hr : r.length = 32) (ys : List MemX) : Prop where
  perm : ys.Perm (nextM ms k i n r h hr)
  sorted : SortedM ys

attribute [local go_sem ↓] ldMem_def stMem_def eqMem_def bdMem_def bsMem_def clMem_def apAll_def ldChg_def ldKy_def

def BehindIs (ms : List MemX) (k i n : Int) (r : List UInt8) (h : Int) (hr : r.length = 32) (w : World) (e : Ending) (w' : World) : Prop :=
  ∃ A' c' ys, e = .returned (.slice A' ys.length c') ∧ Behind ms k i n r h hr ys ∧ OwnM w' w.heap.size (.slice A' ys.length c') ys ∧ Below w.heap.size w w'

set_option maxRecDepth 100000 in
set_option maxHeartbeats 4000000 in
theorem behind_any (ep : Int) (ms : List MemX) (A : Option Addr) (c : Nat) (hn : ms.length ≤ 10) (k i n : Int) (r : List UInt8) (h : Int) (hr : r.length = 32) (w : World) (hS : Mems w w.heap.size A ms) :
    Calls Tryz.prog 64 #[.agg (cfgV ep A ms.length c), chgV k i n r h] w (BehindIs ms k i n r h hr w) := by
  obtain ⟨w1, hw1⟩ : ∃ w1, w1 = (w.alloc (.cells (cfgV ep A ms.length c) 26)).alloc (.cells (chgL k i n r h).toArray 52) := ⟨_, rfl⟩
  have HX : Hid (Box w1 w.heap.size 26 (cfgV ep A ms.length c)) := by
    rw [hw1]
    exact (Box.made w _ _).alloc _
  have HY : Hid (Box w1 (w.heap.size + 1) 52 (chgL k i n r h).toArray) := by
    rw [hw1]
    exact Box.made_at (by simp) _ _
  have HF : Hid (Below w.heap.size w w1) := by
    rw [hw1]
    exact ((Below.refl _ _).alloc (Nat.le_refl _) _).alloc (by simp) _
  have HCX : Hid (∀ w', Below w1.heap.size w1 w' → w'.cell? ⟨w.heap.size, 1, none⟩ = some (.slice A ms.length c) ∧ w'.cell? ⟨w.heap.size + 1, 0, none⟩ = some (.int .i64 k) ∧ w'.cell? ⟨w.heap.size + 1, 1, none⟩ = some (.int .i64 i) ∧ (ldChg (.pointer (some ⟨w.heap.size + 1, 0, none⟩))).run Tryz.prog w' = .ok (chgV k i n r h) w') := Lib.hid (fun w' hb => by
    have hx := HX.out.below hb HX.out.lt
    have hy := HY.out.below hb HY.out.lt
    exact ⟨hx.cell 1, hy.cell 0, hy.cell 1, ld_chg hr hy⟩)
  have HBL : Hid (w.heap.size + 1 < w1.heap.size) := Lib.hid HY.out.lt
  have HCL := Lib.hid (clone_any ms A c (by omega) w1 (hS.far HF.out))
  have HCM : Hid (∀ w', Calls Tryz.prog 71 #[chgV k i n r h] w' fun e w'' => e = .returned (comerX k i n r h hr).enc ∧ Below w'.heap.size w' w'') := Lib.hid (fun w' => comer_any k i n r h hr w')
  have HN := Lib.hid hn
  have HR := Lib.hid hr
  obtain ⟨c1, d0, d1, lc⟩ := HCX.out w1 (Below.refl _ _)
  clear hS hn HX HY
  go_enter Tryz.func64, Tryz.ntmps64
  go_upto_region 1 with fail
  change Code.wp _ _ _ _ ((w.alloc (.cells (cfgV ep A ms.length c) 26)).alloc (.cells (chgL k i n r h).toArray 52))
  rw [← hw1]
  clear hw1
  go_upto_region 2 with (go_at_call 34; (with_reducible refine (HCL.out).mono ?_); rintro e w2 ⟨A2, c2, rfl, ho2, hb2⟩; have HO2 := Lib.hid ho2; have HB2 := Lib.hid hb2; clear ho2 hb2)
  clear c1 d0 d1 lc HCL
  have HDL := Lib.hid (delete_any ms A2 c2 (Nat.le_trans HN.out (by decide)) i (w.heap.size + 1) w1.heap.size w2 HO2.out HB2.out.size HBL.out (HCX.out w2 HB2.out).2.2.1)
  go_upto_region 3 with (go_at_call 73; (with_reducible refine (HDL.out).mono ?_); rintro e w3 ⟨A3, c3, rfl, ho3, hb3⟩; have HO3 := Lib.hid ho3; have HB3 : Hid (Below w1.heap.size w1 w3) := Lib.hid (HB2.out.trans hb3); clear ho3 hb3)
  clear HDL HO2
  have HDN : Hid ((dropId i ms).length ≤ 10) := Lib.hid (Nat.le_trans (dropId_le i ms) HN.out)
  obtain ⟨c1, d0, d1, lc⟩ := HCX.out w3 HB3.out
  by_cases hk : k = 2
  · have e1 : (k != 2) = false := by simpa using hk
    have HNX : Hid (nextM ms k i n r h hr = dropId i ms) := Lib.hid (by unfold nextM; rw [if_pos hk, List.append_nil])
    have HSR := Lib.hid (sort_mems (dropId i ms) w1.heap.size _ w3 HO3.out (by have := HDN.out; omega))
    clear hk
    go_wp2_with (go_at_call 75; (with_reducible refine (HSR.out).mono ?_); rintro e w4 ⟨rfl, ys, hp, hs, ho4, hg4⟩; have HP := Lib.hid hp; have HPS := Lib.hid hs; have HO4 := Lib.hid ho4; have HB4 : Hid (Below w1.heap.size w1 w4) := Lib.hid (HB3.out.trans (below_own HO3.out hg4 HB3.out.size)); clear hp hs ho4 hg4)
    go_ret
    have hlen := HP.out.length_eq
    refine ⟨A3, c3, ys, by rw [hlen]; rfl, ⟨by rw [HNX.out]; exact HP.out, HPS.out⟩, ?_, HF.out.trans (HB4.out.mono HF.out.size)⟩
    rw [hlen]
    exact HO4.out.base HF.out.size
  · have e1 : (k != 2) = true := by simpa using hk
    have HNX : Hid (nextM ms k i n r h hr = dropId i ms ++ [comerX k i n r h hr]) := Lib.hid (by unfold nextM; rw [if_neg hk])
    clear hk
    unfold MemX.enc at HCM
    generalize comerX k i n r h hr = cm at *
    go_upto_region 5 with (go_at_call 71; (with_reducible refine (HCM.out _).mono ?_); rintro e w4 ⟨rfl, hb4⟩; have HB4 := Lib.hid hb4; have hbs := build_mem1 cm w4; obtain ⟨v5, w5, hap, ho5, hg5⟩ := append_mems rfl ((HO3.out.keep hb4).alloc (.cells cm.cells.toArray 74)) (A := some ⟨w4.heap.size, 0, none⟩) (m := 1) (c := 1) (es := [cm]) rfl (mems_one w4 cm) (by have := HDN.out; omega) (by have h1 := HB3.out.size; have h2 := hb4.size; simp; omega); obtain ⟨A5, c5, rfl⟩ := ho5.slice; have HO5 := Lib.hid ho5; have HB5 : Hid (Below w1.heap.size w1 w5) := Lib.hid ((HB3.out.trans ((hb4.mono HB3.out.size).alloc (by have h1 := HB3.out.size; have h2 := hb4.size; omega) (.cells cm.cells.toArray 74))).trans (below_own ((HO3.out.keep hb4).alloc (.cells cm.cells.toArray 74)) hg5 (by have h1 := HB3.out.size; have h2 := hb4.size; simp; omega))); clear ho5 hg5 hb4)
    have HSR : Hid (Calls Tryz.prog 75 #[.slice A5 ((dropId i ms).length + 1) c5, .func (.func 76) #[] #[]] w5 fun e w' => e = .returned (.tuple #[]) ∧ ∃ ys : List MemX, ys.Perm (dropId i ms ++ [cm]) ∧ SortedM ys ∧ OwnM w' w1.heap.size (.slice A5 ((dropId i ms).length + 1) c5) ys ∧ w5.grownBy w' (Value.slice A5 ((dropId i ms).length + 1) c5).ownBlock) := Lib.hid (by
      have hl : (dropId i ms ++ [cm]).length = (dropId i ms).length + 1 := by simp
      have h5 := HO5.out
      rw [hl] at h5
      exact sort_mems (dropId i ms ++ [cm]) w1.heap.size _ w5 h5 (by rw [hl]; have := HDN.out; omega))
    clear hap hbs HO5 c1 d0 d1 lc
    go_wp2_with (go_at_call 75; (with_reducible refine (HSR.out).mono ?_); rintro e w6 ⟨rfl, ys, hp, hs, ho6, hg6⟩; have HP := Lib.hid hp; have HPS := Lib.hid hs; have HO6 := Lib.hid ho6; have HB6 := Lib.hid hg6; clear hp hs ho6 hg6)
    go_ret
    have hlen : ys.length = (dropId i ms).length + 1 := by rw [HP.out.length_eq]; simp
    have ho5 := HO6.out
    have hg : Below w1.heap.size w5 w6 := ⟨HB6.out.os, HB6.out.tape, HB6.out.output, HB6.out.size, fun b hb => HB6.out.block b (Nat.lt_of_lt_of_le hb HB5.out.size) (fun e => by
      have := (ho5.lt b e.symm).1
      omega)⟩
    refine ⟨A5, c5, ys, by rw [hlen]; rfl, ⟨by rw [HNX.out]; exact HP.out, HPS.out⟩, ?_, HF.out.trans ((HB5.out.trans hg).mono HF.out.size)⟩
    rw [hlen]
    exact HO6.out.base HF.out.size

set_option maxRecDepth 100000 in
theorem cfg_list (ep : Int) (A : Option Addr) (n c : Nat) : (Tryz.prog.info? 26).map (·.size) = some ([.int .i64 ep, .slice A n c] : List Value).length := by
  show _ = some 2
  kernel_rfl
set_option maxRecDepth 100000 in
theorem cfg_one (ep : Int) (A : Option Addr) (n c : Nat) : ∀ v ∈ ([.int .i64 ep, .slice A n c] : List Value), v.oneCell' = true := by
  intro v hv
  simp only [List.mem_cons, List.not_mem_nil, or_false] at hv
  rcases hv with rfl | rfl <;> rfl
noncomputable def ldCfg (v : Value) : Sem Value := Instr.loadAt 26 v
set_option maxRecDepth 100000 in
theorem ldCfg_def (v : Value) : Instr.loadAt 26 v = ldCfg v := rfl
noncomputable def stCfg (p v : Value) : Sem Unit := Instr.storeAt 26 p v
set_option maxRecDepth 100000 in
theorem stCfg_def (p v : Value) : Instr.storeAt 26 p v = stCfg p v := rfl
set_option maxRecDepth 100000 in
theorem Box.ld_cfg {w : World} {g : Nat} {t : TypeId} {ep : Int} {A : Option Addr} {n c : Nat} (h : Box w g t (cfgV ep A n c)) : (ldCfg (.pointer (some ⟨g, 0, none⟩))).run Tryz.prog w = .ok (.agg (cfgV ep A n c)) w :=
  run_loadAt_mid (P := Tryz.prog) w g 0 26 [.int .i64 ep, .slice A n c] _ (Box.range h) Tryz.underlying26 rfl (cfg_list ep A n c)
set_option maxRecDepth 100000 in
theorem Box.st_cfg {w : World} {g : Nat} {t : TypeId} {cs : Array Value} (h : Box w g t cs) (hs : cs.size = 2) (ep : Int) (A : Option Addr) (n c : Nat) :
    ∃ w', (stCfg (.pointer (some ⟨g, 0, none⟩)) (.agg (cfgV ep A n c))).run Tryz.prog w = .ok () w' ∧ Box w' g t (cfgV ep A n c) ∧ w.grownBy w' (some g) := by
  refine ⟨w.setCells g 0 [.int .i64 ep, .slice A n c], ?_, h.cells_all (cfgV ep A n c) (by rw [hs]; rfl), only_cells (g := g) _ 0 _⟩
  exact run_storeAt_mid (P := Tryz.prog) _ g 0 26 (cfgV ep A n c) (fun j hj => by
    have hj' : j < 2 := hj
    rw [h.cell, h.free, Array.getElem?_eq_getElem (by omega)]
    exact ⟨rfl, rfl⟩) (cfg_size ep A n c) (by
    have := all_oneCell_toArray (cfg_one ep A n c)
    simpa using this)
set_option maxRecDepth 100000 in
/-- A block is laid for a configuration, and the configuration is stored there. -/
theorem laid_cfg (w : World) (ep : Int) (A : Option Addr) (n c : Nat) : ∃ w', (stCfg (.pointer (some ⟨w.heap.size, 0, none⟩)) (.agg (cfgV ep A n c))).run Tryz.prog (w.alloc (.cells (cfgV 0 none 0 0) 26)) = .ok () w' ∧ Box w' w.heap.size 26 (cfgV ep A n c) ∧ Below w.heap.size w w' := by
  obtain ⟨w', h1, h2, h3⟩ := (Box.made w 26 (cfgV 0 none 0 0)).st_cfg rfl ep A n c
  exact ⟨w', h1, h2, ((Below.refl _ _).alloc (Nat.le_refl _) _).trans (below_only h3 (Nat.le_refl _) (by simp))⟩

attribute [local go_sem ↓] ldCfg_def stCfg_def
set_option maxRecDepth 100000 in
set_option maxHeartbeats 2000000 in
theorem apply_not (ep : Int) (ms : List MemX) (A : Option Addr) (c : Nat) (hn : ms.length ≤ maxLen) (k i n : Int) (r : List UInt8) (h : Int) (hr : r.length = 32) (he : errC ep ms k i n h ≠ 0) (w : World) (hS : Mems w w.heap.size A ms) :
    Calls Tryz.prog 56 #[.agg (cfgV ep A ms.length c), chgV k i n r h] w fun e w' => e = .returned (.tuple #[.agg (cfgV 0 none 0 0), .int .i64 (errC ep ms k i n h)]) ∧ Below w.heap.size w w' := by
  obtain ⟨w1, hw1⟩ : ∃ w1, w1 = ((w.alloc (.cells (cfgV ep A ms.length c) 26)).alloc (.cells (chgL k i n r h).toArray 52)).alloc (.cells (cfgV 0 none 0 0) 26) := ⟨_, rfl⟩
  have HX : Hid (Box w1 w.heap.size 26 (cfgV ep A ms.length c)) := by
    rw [hw1]
    exact ((Box.made w _ _).alloc _).alloc _
  have HY : Hid (Box w1 (w.heap.size + 1) 52 (chgL k i n r h).toArray) := by
    rw [hw1]
    exact (Box.made_at (by simp) _ _).alloc _
  have HZ : Hid (Box w1 (w.heap.size + 1 + 1) 26 (cfgV 0 none 0 0)) := by
    rw [hw1]
    exact Box.made_at (by simp) _ _
  have HF : Hid (Below w.heap.size w w1) := by
    rw [hw1]
    exact (((Below.refl _ _).alloc (Nat.le_refl _) _).alloc (by simp) _).alloc (by simp; omega) _
  have HRF := Lib.hid (refusal_any ep ms A c hn k i n r h hr w1 (hS.far HF.out))
  have l1 := HX.out.ld_cfg
  have l2 := ld_chg hr HY.out
  generalize errC ep ms k i n h = er at *
  have e1 : (er != 0) = true := by simpa using he
  clear hS hn he HX HY
  go_enter Tryz.func56, Tryz.ntmps56
  go_upto_region 1 with fail
  change Code.wp _ _ _ _ (((w.alloc (.cells (cfgV ep A ms.length c) 26)).alloc (.cells (chgL k i n r h).toArray 52)).alloc (.cells (cfgV 0 none 0 0) 26))
  rw [← hw1]
  clear hw1
  go_wp2_with (go_at_call 63; (with_reducible refine (HRF.out).mono ?_); rintro e w2 ⟨rfl, hb2⟩; have HB2 := Lib.hid hb2; obtain ⟨w3, hst, hb3, hg3⟩ := (HZ.out.below hb2 HZ.out.lt).st_cfg rfl 0 none 0 0; have HB3 := Lib.hid hb3; have HG3 : Hid (Below w.heap.size w w3) := Lib.hid ((HF.out.trans (hb2.mono HF.out.size)).trans (below_only hg3 (by omega) (HF.out.trans (hb2.mono HF.out.size)).size)); clear hb2 hb3 hg3)
  exact ret_cfg2 rfl rfl rfl rfl HB3.out ⟨rfl, HG3.out⟩

set_option maxRecDepth 100000 in
theorem err0 {ep : Int} {ms : List MemX} {k i n h : Int} (he : errC ep ms k i n h = 0) : goodB ep ms = true ∧ ep ≠ 1073741824 ∧ (k = 1 ∨ k = 2 ∨ k = 3 ∨ k = 4) ∧ (k = 2 ∨ fitsB (cid k i n) h = true) ∧ (k = 1 ∨ hasB ms i = true) ∧ (k = 2 ∨ k = 4 ∨ hasB ms (cid k i n) = false) ∧ (k = 1 → ms.length ≠ 10) ∧ (k = 2 → ms.length ≠ 1) := by
  unfold errC at he
  split at he
  · cases he
  rename_i h1
  split at he
  · cases he
  rename_i h2
  split at he
  · cases he
  rename_i h3
  split at he
  · cases he
  rename_i h4
  split at he
  · cases he
  rename_i h5
  split at he
  · cases he
  rename_i h6
  simp only [Bool.or_eq_true, Bool.not_eq_true', decide_eq_true_eq, not_or, Bool.not_eq_false, Bool.and_eq_true, not_and, decide_eq_false_iff_not] at h1 h2 h3 h4 h5 h6
  obtain ⟨g1, g2, g3⟩ := h1
  unfold inB at g3
  simp only [Bool.and_eq_true, decide_eq_true_eq] at g3
  refine ⟨g1, g2, by omega, ?_, ?_, ?_, h5, h6⟩
  · by_cases e : k = 2
    · exact .inl e
    · exact .inr (h2 e)
  · by_cases e : k = 1
    · exact .inl e
    · exact .inr (h3 e)
  · by_cases e : k = 1 ∨ k = 3
    · exact .inr (.inr (by simpa using h4 e))
    · omega
set_option maxRecDepth 100000 in
theorem good_len {ep : Int} {ms : List MemX} (hg : goodB ep ms = true) : 0 ≤ ep ∧ ep ≤ 1073741824 ∧ 1 ≤ ms.length ∧ ms.length ≤ 10 := by
  unfold goodB inB at hg
  simp only [Bool.and_eq_true, decide_eq_true_eq] at hg
  omega

def ApplyIs (ep : Int) (ms : List MemX) (k i n : Int) (r : List UInt8) (h : Int) (hr : r.length = 32) (w : World) (e : Ending) (w' : World) : Prop :=
  ∃ A' c' ys, e = .returned (.tuple #[.agg (cfgV (ep + 1) A' ys.length c'), .int .i64 0]) ∧ Behind ms k i n r h hr ys ∧ OwnM w' w.heap.size (.slice A' ys.length c') ys ∧ Below w.heap.size w w'

set_option maxRecDepth 100000 in
set_option maxHeartbeats 4000000 in
theorem apply_ok (ep : Int) (ms : List MemX) (A : Option Addr) (c : Nat) (k i n : Int) (r : List UInt8) (h : Int) (hr : r.length = 32) (he : errC ep ms k i n h = 0) (w : World) (hS : Mems w w.heap.size A ms) :
    Calls Tryz.prog 56 #[.agg (cfgV ep A ms.length c), chgV k i n r h] w (ApplyIs ep ms k i n r h hr w) := by
  obtain ⟨hg, hep, _⟩ := err0 he
  obtain ⟨h0, h1, h2, h10⟩ := good_len hg
  obtain ⟨w1, hw1⟩ : ∃ w1, w1 = ((w.alloc (.cells (cfgV ep A ms.length c) 26)).alloc (.cells (chgL k i n r h).toArray 52)).alloc (.cells (cfgV 0 none 0 0) 26) := ⟨_, rfl⟩
  have HX : Hid (Box w1 w.heap.size 26 (cfgV ep A ms.length c)) := by
    rw [hw1]
    exact ((Box.made w _ _).alloc _).alloc _
  have HY : Hid (Box w1 (w.heap.size + 1) 52 (chgL k i n r h).toArray) := by
    rw [hw1]
    exact (Box.made_at (by simp) _ _).alloc _
  have HZ : Hid (Box w1 (w.heap.size + 1 + 1) 26 (cfgV 0 none 0 0)) := by
    rw [hw1]
    exact Box.made_at (by simp) _ _
  have HF : Hid (Below w.heap.size w w1) := by
    rw [hw1]
    exact (((Below.refl _ _).alloc (Nat.le_refl _) _).alloc (by simp) _).alloc (by simp; omega) _
  have HS := Lib.hid (hS.far HF.out)
  have HRF := Lib.hid (refusal_any ep ms A c (Nat.le_trans h10 (by simp [maxLen])) k i n r h hr w1 HS.out)
  rw [he] at HRF
  have l1 := HX.out.ld_cfg
  have l2 := ld_chg hr HY.out
  have HR := Lib.hid hr
  have HN := Lib.hid h10
  have hw : IntKind.i64.wrap (ep + 1) = ep + 1 := by rw [IntKind.wrap_i64]; omega
  clear hS h2 h10 hg he
  go_enter Tryz.func56, Tryz.ntmps56
  go_upto_region 1 with fail
  change Code.wp _ _ _ _ (((w.alloc (.cells (cfgV ep A ms.length c) 26)).alloc (.cells (chgL k i n r h).toArray 52)).alloc (.cells (cfgV 0 none 0 0) 26))
  rw [← hw1]
  clear hw1
  go_upto_region 4 with (go_at_call 63; (with_reducible refine (HRF.out).mono ?_); rintro e w2 ⟨rfl, hb2⟩; have HB2 := Lib.hid hb2; clear hb2)
  clear l1 l2 HRF
  have hX2 := (HX.out.below HB2.out HX.out.lt).drew
  have hY2 := (HY.out.below HB2.out HY.out.lt).drew
  have HB2' : Hid (Below w1.heap.size w1 w2.drew) := Lib.hid HB2.out.drew
  have HBH : Hid (∀ w', Box w' w.heap.size 26 (cfgV ep A ms.length c) → Box w' (w.heap.size + 1) 52 (chgL k i n r h).toArray → Below w1.heap.size w1 w' → Calls Tryz.prog 64 #[.agg (cfgV ep A ms.length c), chgV k i n r h] w' (BehindIs ms k i n r h hr w')) := Lib.hid (fun w' _ _ hb => behind_any ep ms A c HN.out k i n r h hr w' (HS.out.far hb))
  refine wp_region_held_drew (S := fun w' => Box w' w.heap.size 26 (cfgV ep A ms.length c) ∧ Box w' (w.heap.size + 1) 52 (chgL k i n r h).toArray) (by kernel_rfl) ⟨hX2, hY2⟩ (fun hS => ?_)
  clear hX2 hY2
  generalize w2.drew = w3 at *
  (refine wpAnyH_take (i := 0) (v := .pointer (some ⟨w.heap.size, 0, none⟩)) rfl (by kernel_rfl) (by kernel_rfl) (by kernel_rfl) (fun _ _ _ h => h) (Or.inl ⟨by kernel_rfl, fun w hSw => by go_simp⟩) hS ?_)
  (try simp only [Act.put])
  (refine wpAnyH_take (i := 1) (v := .int .i64 ep) rfl (by kernel_rfl) (by kernel_rfl) (by kernel_rfl) (fun _ _ _ h => h) (Or.inl ⟨by kernel_rfl, fun w hSw => by have hc := (hSw.1).cell 0; go_simp⟩) hS ?_)
  (try simp only [Act.put])
  (refine wpAnyH_take (i := 2) (v := .int .i64 (ep + 1)) rfl (by kernel_rfl) (by kernel_rfl) (by kernel_rfl) (fun _ _ _ h => h) (Or.inl ⟨by kernel_rfl, fun w hSw => by go_simp⟩) hS ?_)
  (try simp only [Act.put])
  (refine wpAnyH_take (i := 3) (v := .agg (cfgV ep A ms.length c)) rfl (by kernel_rfl) (by kernel_rfl) (by kernel_rfl) (fun _ _ _ h => h) (Or.inl ⟨by kernel_rfl, fun w hSw => by have hc := hSw.1.ld_cfg; go_simp⟩) hS ?_)
  (try simp only [Act.put])
  (refine wpAnyH_take (i := 4) (v := chgV k i n r h) rfl (by kernel_rfl) (by kernel_rfl) (by kernel_rfl) (fun _ _ _ h => h) (Or.inl ⟨by kernel_rfl, fun w hSw => by have hc := ld_chg HR.out hSw.2; go_simp⟩) hS ?_)
  (try simp only [Act.put])
  refine wpAnyH_ready (rs := [5]) (by decide +kernel) (by simp) (AllReadyH.cons rfl (fun K hK => ?_) AllReadyH.nil)
  go_simp
  (go_at_call 64; (with_reducible refine (HBH.out _ hS.1 hS.2 HB2'.out).mono ?_); rintro e w4 ⟨A', c', ys, rfl, hbh, ho4, hb4⟩)
  have hb4' : Below w1.heap.size w1 w4 := HB2'.out.trans (hb4.mono HB2'.out.size)
  obtain ⟨w5, hst, hb5, hg5⟩ := (HZ.out.below hb4' HZ.out.lt).st_cfg rfl (ep + 1) A' ys.length c'
  have HBH2 := Lib.hid hbh
  have HO4 := Lib.hid ho4
  have HB4 := Lib.hid hb4'
  have HB5 := Lib.hid hb5
  have HG5 := Lib.hid hg5
  have HS5 : Hid (Box w5 w.heap.size 26 (cfgV ep A ms.length c) ∧ Box w5 (w.heap.size + 1) 52 (chgL k i n r h).toArray) := Lib.hid ⟨(hS.1.below hb4 hS.1.lt).grown hg5 (by simp; omega), (hS.2.below hb4 hS.2.lt).grown hg5 (by simp)⟩
  refine hK.out _ _ ⟨hS.1.below hb4 hS.1.lt, hS.2.below hb4 hS.2.lt⟩ (fun hS => ?_)
  clear hK K hbh ho4 hb4 hb4' hb5 hg5
  (try simp only [Act.put])
  refine wpAnyH_ready (rs := [6]) (by decide +kernel) (by simp) (AllReadyH.cons rfl (fun K hK => ?_) AllReadyH.nil)
  go_simp
  refine hK.out _ _ (hS) (fun hS => ?_)
  clear hK K
  (try simp only [Act.put])
  refine wpAnyH_ready (rs := [7]) (by decide +kernel) (by simp) (AllReadyH.cons rfl (fun K hK => ?_) AllReadyH.nil)
  go_simp
  refine hK.out _ _ (HS5.out) (fun hS => ?_)
  clear hK K
  (try simp only [Act.put])
  refine wpAnyH_ready (rs := [8]) (by decide +kernel) (by simp) (AllReadyH.cons rfl (fun K hK => ?_) AllReadyH.nil)
  go_simp
  refine hK.out _ _ (hS) (fun hS => ?_)
  clear hK K
  (try simp only [Act.put])
  refine wpAnyH_done (by kernel_rfl) ?_ _
  clear hS hst
  go_wp2
  exact ret_cfg2 rfl rfl rfl rfl HB5.out ⟨A', c', ys, rfl, HBH2.out, (World.ownsRow.kept (HO4.out.base (by have h1 := HF.out.size; have h2 := HB2'.out.size; omega)) HG5.out (.inr fun e => by
    have h1 := HO4.out.lt _ e
    have h2 := HB2'.out.size
    have h3 := HZ.out.lt
    omega)), (HF.out.trans (HB4.out.mono HF.out.size)).trans (below_only HG5.out (by omega) (HF.out.trans (HB4.out.mono HF.out.size)).size)⟩
end Go.Proofs.YtbgbidgggjkmmaaGreatDoor

namespace Go.Proofs.YtbgbidgggjkmmaaGreatDoor
open Go.RowKit Go.Sort

def idM (i : Int) : MemX := ⟨i, z32, 0, rfl⟩
def fourM : List MemX := [idM 1, idM 2, idM 3, idM 4]
noncomputable def bdChg (parts : Array (Nat × Value)) : Sem Value := Instr.build 52 parts
set_option maxRecDepth 100000 in
theorem bdChg_def (parts : Array (Nat × Value)) : Instr.build 52 parts = bdChg parts := rfl

set_option maxRecDepth 100000 in
theorem built_chg2 (k i : Int) : Tryz.prog.built 52 [(0, .int .i64 k), (1, .int .i64 i)] = some (chgL k i 0 z32 0).toArray := by kernel_rfl
set_option maxRecDepth 100000 in
theorem built_chg3 (k i : Int) {r : List UInt8} (hr : r.length = 32) (h : Int) : Tryz.prog.built 52 [(0, .int .i64 k), (1, .int .i64 i), (3, .agg (keyV r h))] = some (chgL k i 0 r h).toArray := by
  have e : Tryz.prog.built 52 [(0, .int .i64 k), (1, .int .i64 i), (3, .agg (keyV r h))] = Instr.fill (#[(0, 1), (1, 1), (2, 1), (3, 33)][·]?) ([Value.int .i64 k, .int .i64 i, .int .i64 0] ++ (keyL (List.replicate 32 0) 0 ++ [])).toArray [(3, .agg (keyV r h))] := by kernel_rfl
  rw [e, fill_step (off := 3) (size := 33) (vs := keyL r h) rfl rfl rfl rfl (keyL_len hr h)]
  unfold chgL Instr.fill
  simp
set_option maxRecDepth 100000 in
theorem built_chg4 (k i n : Int) {r : List UInt8} (hr : r.length = 32) (h : Int) : Tryz.prog.built 52 [(0, .int .i64 k), (1, .int .i64 i), (2, .int .i64 n), (3, .agg (keyV r h))] = some (chgL k i n r h).toArray := by
  have e : Tryz.prog.built 52 [(0, .int .i64 k), (1, .int .i64 i), (2, .int .i64 n), (3, .agg (keyV r h))] = Instr.fill (#[(0, 1), (1, 1), (2, 1), (3, 33)][·]?) ([Value.int .i64 k, .int .i64 i, .int .i64 n] ++ (keyL (List.replicate 32 0) 0 ++ [])).toArray [(3, .agg (keyV r h))] := by kernel_rfl
  rw [e, fill_step (off := 3) (size := 33) (vs := keyL r h) rfl rfl rfl rfl (keyL_len hr h)]
  unfold chgL Instr.fill
  simp
set_option maxRecDepth 100000 in
theorem bd_chg2 (k i : Int) (w : World) : (bdChg #[(0, .int .i64 k), (1, .int .i64 i)]).run Tryz.prog w = .ok (chgV k i 0 z32 0) w := run_build w _ _ _ (built_chg2 k i)
set_option maxRecDepth 100000 in
theorem bd_chg3 (k i : Int) {r : List UInt8} (hr : r.length = 32) (h : Int) (w : World) : (bdChg #[(0, .int .i64 k), (1, .int .i64 i), (3, .agg (keyV r h))]).run Tryz.prog w = .ok (chgV k i 0 r h) w := run_build w _ _ _ (built_chg3 k i hr h)
set_option maxRecDepth 100000 in
theorem bd_chg4 (k i n : Int) {r : List UInt8} (hr : r.length = 32) (h : Int) (w : World) : (bdChg #[(0, .int .i64 k), (1, .int .i64 i), (2, .int .i64 n), (3, .agg (keyV r h))]).run Tryz.prog w = .ok (chgV k i n r h) w := run_build w _ _ _ (built_chg4 k i n hr h)

attribute [local go_sem ↓] ldMem_def stMem_def eqMem_def bdMem_def bsMem_def clMem_def apAll_def ldChg_def ldKy_def ldCfg_def stCfg_def bdChg_def

def FourIs (w : World) (e : Ending) (w' : World) : Prop := ∃ A, e = .returned (.agg (cfgV 0 A 4 4)) ∧ Mems w' w'.heap.size A fourM ∧ Below w.heap.size w w'
set_option maxRecDepth 100000 in
theorem four_good (A : Option Addr) (w : World) (hS : Mems w w.heap.size A fourM) : Calls Tryz.prog 68 #[.agg (cfgV 0 A 4 4)] w fun e w' => e = .returned (.bool true) ∧ Below w.heap.size w w' := good_any8 fourM 0 A 4 (by simp [maxLen, fourM]) w hS
def GoneIs (w : World) (e : Ending) (w' : World) : Prop := ∃ A' c', e = .returned (.tuple #[.agg (cfgV 1 A' 3 c'), .int .i64 0]) ∧ Below w.heap.size w w'
set_option maxRecDepth 100000 in
theorem four_gone (A : Option Addr) (w : World) (hS : Mems w w.heap.size A fourM) : Calls Tryz.prog 56 #[.agg (cfgV 0 A 4 4), chgV 2 2 0 z32 0] w (GoneIs w) :=
  (apply_ok 0 fourM A 4 2 2 0 z32 0 rfl (by decide +kernel) w hS).mono fun e w' ⟨A', c', ys, he, hb, _, hf⟩ => by
    have hl : ys.length = 3 := by rw [hb.perm.length_eq]; rfl
    rw [hl] at he
    exact ⟨A', c', he, hf⟩

end Go.Proofs.YtbgbidgggjkmmaaGreatDoor

namespace Go.Proofs.YtbgbidgggjkmmaaGreatDoor

def Ris (ms : List MemX) : Prop := ms.Pairwise (fun a b => a.id < b.id)
def Dif (ms : List MemX) : Prop := ms.Pairwise (fun a b => a.id ≠ b.id)
set_option maxRecDepth 100000 in
theorem Ris.dif {ms : List MemX} (h : Ris ms) : Dif ms := List.Pairwise.imp (R := fun a b : MemX => a.id < b.id) (fun {a b} h e => by omega) h
set_option maxRecDepth 100000 in
theorem Dif.perm {ms ns : List MemX} (h : Dif ms) (p : ms.Perm ns) : Dif ns := p.pairwise h (fun {x y} (h : x.id ≠ y.id) => fun e => h e.symm)
set_option maxRecDepth 100000 in
theorem SortedM.ris {ms : List MemX} (h : SortedM ms) (d : Dif ms) : Ris ms :=
  List.Pairwise.imp (R := fun a b : MemX => ¬ b.id < a.id ∧ a.id ≠ b.id) (fun {a b} h => by omega) (List.Pairwise.and (show ms.Pairwise (fun a b => ¬ b.id < a.id) from h) (show ms.Pairwise (fun a b => a.id ≠ b.id) from d))
set_option maxRecDepth 100000 in
theorem Ris.uniq {ms ns : List MemX} (h : Ris ms) (k : Ris ns) (p : ms.Perm ns) : ms = ns :=
  List.Perm.eq_of_pairwise (le := fun a b : MemX => a.id < b.id) (fun a b _ _ h1 h2 => by omega) h k p
set_option maxRecDepth 100000 in
theorem rise_iff : ∀ (ms : List MemX) (a : Int), riseB a ms = true ↔ Ris ms ∧ ∀ m ∈ ms, a < m.id ∧ fitsB m.id m.high = true
  | [], a => by simp [riseB, Ris]
  | m :: r, a => by
    have ih := rise_iff r m.id
    unfold riseB
    rw [Bool.and_eq_true, Bool.and_eq_true, decide_eq_true_iff, ih]
    unfold Ris
    rw [List.pairwise_cons]
    constructor
    · rintro ⟨h1, h2, h3, h4⟩
      refine ⟨⟨fun x hx => (h4 x hx).1, h3⟩, fun x hx => ?_⟩
      rcases List.mem_cons.1 hx with rfl | hx
      · exact ⟨h1, h2⟩
      · exact ⟨by have := (h4 x hx).1; omega, (h4 x hx).2⟩
    · rintro ⟨⟨h1, h2⟩, h3⟩
      have hm := h3 m (List.mem_cons_self ..)
      exact ⟨hm.1, hm.2, h2, fun x hx => ⟨h1 x hx, (h3 x (List.mem_cons_of_mem _ hx)).2⟩⟩
set_option maxRecDepth 100000 in
theorem good_iff (ep : Int) (ms : List MemX) : goodB ep ms = true ↔ (0 ≤ ep ∧ ep ≤ 1073741824) ∧ (1 ≤ ms.length ∧ ms.length ≤ 10) ∧ Ris ms ∧ ∀ m ∈ ms, fitsB m.id m.high = true := by
  unfold goodB inB
  rw [Bool.and_eq_true, rise_iff]
  simp only [Bool.and_eq_true, decide_eq_true_iff]
  constructor
  · rintro ⟨⟨h1, h2⟩, h3, h4⟩
    exact ⟨h1, by omega, h3, fun m hm => (h4 m hm).2⟩
  · rintro ⟨h1, h2, h3, h4⟩
    refine ⟨⟨h1, by omega⟩, h3, fun m hm => ⟨?_, h4 m hm⟩⟩
    have h := h4 m hm
    unfold fitsB inB at h
    simp only [Bool.and_eq_true, decide_eq_true_iff] at h
    omega
set_option maxRecDepth 100000 in
theorem has_iff (ms : List MemX) (i : Int) : hasB ms i = true ↔ ∃ m ∈ ms, m.id = i := by
  unfold hasB posN
  rw [decide_eq_true_iff, List.findIdx_lt_length]
  simp
set_option maxRecDepth 100000 in
theorem not_has {ms : List MemX} {i : Int} (h : hasB ms i = false) : ∀ m ∈ ms, m.id ≠ i := fun m hm e => by
  have := (has_iff ms i).2 ⟨m, hm, e⟩
  rw [h] at this
  cases this
set_option maxRecDepth 100000 in
theorem Dif.same {ms : List MemX} (h : Dif ms) {x y : MemX} (hx : x ∈ ms) (hy : y ∈ ms) (e : x.id = y.id) : x = y := by
  induction ms with
  | nil => cases hx
  | cons m r ih =>
    obtain ⟨h1, h2⟩ := List.pairwise_cons.1 h
    rcases List.mem_cons.1 hx with e1 | hx' <;> rcases List.mem_cons.1 hy with e2 | hy'
    · rw [e1, e2]
    · exact absurd (by rw [← e1]; exact e) (h1 y hy')
    · exact absurd (by rw [← e2]; exact e.symm) (h1 x hx')
    · exact ih h2 hx' hy'
set_option maxRecDepth 100000 in
theorem find_mem {ms : List MemX} {i : Int} (h : hasB ms i = true) : findM ms i ∈ ms ∧ (findM ms i).id = i := by
  unfold hasB at h
  rw [decide_eq_true_iff] at h
  unfold findM
  rw [if_pos h, List.getD_eq_getElem?_getD, List.getElem?_eq_getElem h]
  exact ⟨List.getElem_mem h, posN_eq h⟩
set_option maxRecDepth 100000 in
theorem find_in {ms : List MemX} (d : Dif ms) (m : MemX) : (hasB ms m.id && decide (findM ms m.id = m)) = decide (m ∈ ms) := by
  rw [Bool.eq_iff_iff, Bool.and_eq_true, decide_eq_true_iff, decide_eq_true_iff]
  constructor
  · rintro ⟨h1, h2⟩
    rw [← h2]
    exact (find_mem h1).1
  · intro h
    have h1 := (has_iff ms m.id).2 ⟨m, h, rfl⟩
    exact ⟨h1, d.same (find_mem h1).1 h (find_mem h1).2⟩
set_option maxRecDepth 100000 in
theorem mem_drop {i : Int} {ms : List MemX} {m : MemX} : m ∈ dropId i ms ↔ m ∈ ms ∧ m.id ≠ i := by
  unfold dropId
  rw [List.mem_filter]
  simp
set_option maxRecDepth 100000 in
theorem Ris.drop {ms : List MemX} (h : Ris ms) (i : Int) : Ris (dropId i ms) := List.Pairwise.filter _ h
set_option maxRecDepth 100000 in
theorem Dif.drop {ms : List MemX} (h : Dif ms) (i : Int) : Dif (dropId i ms) := List.Pairwise.filter _ h
set_option maxRecDepth 100000 in
theorem drop_none {ms : List MemX} {i : Int} (h : hasB ms i = false) : dropId i ms = ms := by
  unfold dropId
  rw [List.filter_eq_self]
  intro m hm
  have := not_has h m hm
  simpa using this
set_option maxRecDepth 100000 in
theorem drop_len : ∀ {ms : List MemX} {i : Int}, Dif ms → hasB ms i = true → (dropId i ms).length + 1 = ms.length
  | [], i, _, h => by
    rw [has_iff] at h
    obtain ⟨m, hm, _⟩ := h
    cases hm
  | m :: r, i, d, h => by
    obtain ⟨h1, h2⟩ := List.pairwise_cons.1 d
    by_cases e : m.id = i
    · have hr : hasB r i = false := by
        rw [Bool.eq_false_iff]
        intro hh
        obtain ⟨x, hx, ex⟩ := (has_iff r i).1 hh
        exact h1 x hx (by rw [e, ex])
      have hd := drop_none hr
      unfold dropId at hd ⊢
      rw [List.filter_cons, if_neg (by simp [e]), hd]
      rfl
    · have hr : hasB r i = true := by
        rw [has_iff] at h ⊢
        obtain ⟨x, hx, ex⟩ := h
        rcases List.mem_cons.1 hx with rfl | hx
        · exact absurd ex e
        · exact ⟨x, hx, ex⟩
      have ih := drop_len h2 hr
      unfold dropId at ih ⊢
      rw [List.filter_cons, if_pos (by simp [e]), List.length_cons, List.length_cons, ih]

set_option maxRecDepth 100000 in
/-- Behind a change that a configuration can have. -/
theorem next_dif {ep : Int} {ms : List MemX} {k i n : Int} {r : List UInt8} {h : Int} (hr : r.length = 32) (he : errC ep ms k i n h = 0) : Dif (nextM ms k i n r h hr) := by
  obtain ⟨hg, _, hk, _, _, hc, _, _⟩ := err0 he
  have hd := ((good_iff ep ms).1 hg).2.2.1.dif
  unfold nextM
  by_cases e : k = 2
  · rw [if_pos e, List.append_nil]
    exact hd.drop i
  · rw [if_neg e]
    unfold Dif
    rw [List.pairwise_append]
    refine ⟨hd.drop i, by simp, fun x hx y hy => ?_⟩
    obtain rfl := List.mem_singleton.1 hy
    obtain ⟨hx1, hx2⟩ := mem_drop.1 hx
    show x.id ≠ cid k i n
    rcases hc with hc | hc | hc
    · exact absurd hc e
    · unfold cid
      rw [if_neg (by omega)]
      exact hx2
    · exact not_has hc x hx1
set_option maxRecDepth 100000 in
theorem Behind.ris {ep : Int} {ms : List MemX} {k i n : Int} {r : List UInt8} {h : Int} {hr : r.length = 32} (he : errC ep ms k i n h = 0) {ys : List MemX} (hb : Behind ms k i n r h hr ys) : Ris ys :=
  hb.sorted.ris ((next_dif hr he).perm hb.perm.symm)
set_option maxRecDepth 100000 in
theorem next_len {ep : Int} {ms : List MemX} {k i n : Int} {r : List UInt8} {h : Int} (hr : r.length = 32) (he : errC ep ms k i n h = 0) : (k = 1 → (nextM ms k i n r h hr).length = ms.length + 1) ∧ (k = 2 → (nextM ms k i n r h hr).length + 1 = ms.length) ∧ (k = 3 ∨ k = 4 → (nextM ms k i n r h hr).length = ms.length) := by
  obtain ⟨hg, _, hk, _, hh, hc, _, _⟩ := err0 he
  have hd := ((good_iff ep ms).1 hg).2.2.1.dif
  unfold nextM
  refine ⟨fun e => ?_, fun e => ?_, fun e => ?_⟩
  · have : hasB ms i = false := by
      rcases hc with hc | hc | hc
      · omega
      · omega
      · rw [e] at hc
        unfold cid at hc
        rwa [if_neg (by omega)] at hc
    rw [if_neg (by omega), drop_none this]
    simp
  · have h1 : hasB ms i = true := by
      rcases hh with hh | hh
      · omega
      · exact hh
    rw [if_pos e, List.append_nil]
    exact drop_len hd h1
  · have h1 : hasB ms i = true := by
      rcases hh with hh | hh
      · omega
      · exact hh
    rw [if_neg (by omega), List.length_append]
    exact drop_len hd h1
set_option maxRecDepth 100000 in
theorem Behind.good {ep : Int} {ms : List MemX} {k i n : Int} {r : List UInt8} {h : Int} {hr : r.length = 32} (he : errC ep ms k i n h = 0) {ys : List MemX} (hb : Behind ms k i n r h hr ys) : goodB (ep + 1) ys = true := by
  have hris := hb.ris he
  obtain ⟨l1, l2, l3⟩ := next_len hr he
  obtain ⟨hg, hep, hk, hf, hh, hc, h10, h1⟩ := err0 he
  obtain ⟨⟨e1, e2⟩, ⟨n1, n2⟩, hd, hfit⟩ := (good_iff ep ms).1 hg
  have hl := hb.perm.length_eq
  rw [good_iff]
  refine ⟨by omega, ?_, hris, fun m hm => ?_⟩
  · rw [hl]
    rcases hk with hk | hk | hk | hk
    · have := l1 hk; have := h10 hk; omega
    · have := l2 hk; have := h1 hk; omega
    · have := l3 (.inl hk); omega
    · have := l3 (.inr hk); omega
  · rcases List.mem_append.1 (hb.perm.mem_iff.1 hm) with hm | hm
    · exact hfit m (mem_drop.1 hm).1
    · by_cases e : k = 2
      · rw [if_pos e] at hm
        cases hm
      · rw [if_neg e] at hm
        obtain rfl := List.mem_singleton.1 hm
        rcases hf with hf | hf
        · exact absurd hf e
        · exact hf

set_option maxRecDepth 100000 in
theorem Dif.nodup {ms : List MemX} (h : Dif ms) : ms.Nodup := List.Pairwise.imp (R := fun a b : MemX => a.id ≠ b.id) (S := fun a b : MemX => a ≠ b) (fun {a b} h (e : a = b) => h (by rw [e])) h
set_option maxRecDepth 100000 in
theorem Dif.one {ms : List MemX} (h : Dif ms) {i : Int} (hi : ∀ m ∈ ms, m.id = i) : ms.length ≤ 1 := by
  match ms, h, hi with
  | [], _, _ => simp
  | [_], _, _ => simp
  | a :: b :: r, h, hi =>
    have h1 := (List.pairwise_cons.1 h).1 b (List.mem_cons_self ..)
    exact absurd ((hi a (List.mem_cons_self ..)).trans (hi b (List.mem_cons_of_mem _ (List.mem_cons_self ..))).symm) h1
set_option maxRecDepth 100000 in
theorem cnt_le {ms ys : List MemX} (h : Dif ms) : ms.countP (fun m => decide (m ∈ ys)) ≤ ys.countP (fun m => decide (m ∈ ms)) := by
  rw [List.countP_eq_length_filter, List.countP_eq_length_filter]
  refine List.Nodup.length_le_of_subset (Dif.nodup (show Dif (ms.filter _) from List.Pairwise.filter _ h)) fun m hm => ?_
  rw [List.mem_filter] at hm ⊢
  exact ⟨by simpa using hm.2, by simpa using hm.1⟩
def goneN (ms ys : List MemX) : Nat := ms.countP (fun m => !(hasB ys m.id && decide (findM ys m.id = m)))
set_option maxRecDepth 100000 in
theorem gone_eq {ms ys : List MemX} (h : Dif ys) : goneN ms ys + ms.countP (fun m => decide (m ∈ ys)) = ms.length := by
  have e : goneN ms ys = ms.countP (fun m => !decide (m ∈ ys)) := by
    unfold goneN
    congr 1
    funext m
    rw [find_in h]
  rw [e, List.length_eq_countP_add_countP (fun m => decide (m ∈ ys)) (l := ms), Nat.add_comm]
  congr 2
  funext m
  simp
set_option maxRecDepth 100000 in
theorem gone_mem {ms ys : List MemX} (h : Dif ys) : goneN ms ys = (ms.filter (fun m => !decide (m ∈ ys))).length := by
  unfold goneN
  rw [List.countP_eq_length_filter]
  congr 2
  funext m
  rw [find_in h]
set_option maxRecDepth 100000 in
theorem goneN_snoc (ms ys : List MemX) {k : Nat} (hk : k < ms.length) : goneN (ms.take (k + 1)) ys = goneN (ms.take k) ys + if (hasB ys (ms[k]'hk).id && decide (findM ys (ms[k]'hk).id = ms[k]'hk)) = true then 0 else 1 := by
  unfold goneN
  rw [List.take_succ_eq_append_getElem hk, List.countP_append]
  congr 1
  rw [List.countP_cons, List.countP_nil, Nat.zero_add]
  cases (hasB ys (ms[k]'hk).id && decide (findM ys (ms[k]'hk).id = ms[k]'hk)) <;> simp
set_option maxRecDepth 100000 in
theorem goneN_le (ms ys : List MemX) : goneN ms ys ≤ ms.length := List.countP_le_length
set_option maxRecDepth 100000 in
/-- What goes, what comes. -/
theorem Behind.steps {ep : Int} {ms : List MemX} {k i n : Int} {r : List UInt8} {h : Int} {hr : r.length = 32} (he : errC ep ms k i n h = 0) {ys : List MemX} (hb : Behind ms k i n r h hr ys) :
    goneN ms ys ≤ 1 ∧ goneN ys ms ≤ 1 ∧ goneN ms ys + ys.length = ms.length + goneN ys ms := by
  have hy := (hb.ris he).dif
  have hm := ((good_iff ep ms).1 (err0 he).1).2.2.1.dif
  refine ⟨?_, ?_, ?_⟩
  · rw [gone_mem hy]
    refine Dif.one (i := i) (show Dif (ms.filter _) from List.Pairwise.filter _ hm) fun m hx => ?_
    rw [List.mem_filter] at hx
    obtain ⟨h1, h2⟩ := hx
    by_cases e : m.id = i
    · exact e
    · exfalso
      have : m ∈ ys := hb.perm.mem_iff.2 (List.mem_append_left _ (mem_drop.2 ⟨h1, e⟩))
      simp [this] at h2
  · rw [gone_mem hm]
    refine Dif.one (i := cid k i n) (show Dif (ys.filter _) from List.Pairwise.filter _ hy) fun m hx => ?_
    rw [List.mem_filter] at hx
    obtain ⟨h1, h2⟩ := hx
    rcases List.mem_append.1 (hb.perm.mem_iff.1 h1) with h3 | h3
    · have := (mem_drop.1 h3).1
      simp [this] at h2
    · by_cases e : k = 2
      · rw [if_pos e] at h3
        cases h3
      · rw [if_neg e] at h3
        obtain rfl := List.mem_singleton.1 h3
        rfl
  · have e1 := gone_eq (ms := ms) hy
    have e2 := gone_eq (ms := ys) hm
    have e3 := cnt_le (ys := ys) hm
    have e4 := cnt_le (ys := ms) hy
    omega

set_option maxRecDepth 100000 in
theorem perm_drop {ms ns : List MemX} (p : ms.Perm ns) (i : Int) : (dropId i ms).Perm (dropId i ns) := p.filter _
set_option maxRecDepth 100000 in
theorem has_next {ms : List MemX} {k i n : Int} {r : List UInt8} {h : Int} {hr : r.length = 32} (hk : k ≠ 2) {ys : List MemX} (hb : Behind ms k i n r h hr ys) : comerX k i n r h hr ∈ ys := by
  refine hb.perm.mem_iff.2 ?_
  unfold nextM
  rw [if_neg hk]
  simp
set_option maxRecDepth 100000 in
/-- Who comes is found. -/
theorem find_next {ep : Int} {ms : List MemX} {k i n : Int} {r : List UInt8} {h : Int} {hr : r.length = 32} (he : errC ep ms k i n h = 0) (hk : k ≠ 2) {ys : List MemX} (hb : Behind ms k i n r h hr ys) : hasB ys (cid k i n) = true ∧ findM ys (cid k i n) = comerX k i n r h hr := by
  have hm := has_next hk hb
  have h1 := find_in (hb.ris he).dif (comerX k i n r h hr)
  rw [decide_eq_true hm, Bool.and_eq_true, decide_eq_true_iff] at h1
  exact h1
set_option maxRecDepth 100000 in
/-- A change that takes out a member that is there, of more than one. -/
theorem err_gone {ep : Int} {ms : List MemX} (hg : goodB ep ms = true) (hep : ep ≠ 1073741824) {i : Int} (hi : hasB ms i = true) (hl : ms.length ≠ 1) (n h : Int) : errC ep ms 2 i n h = 0 := by
  have h1 : inB 2 1 4 = true := by decide
  unfold errC
  simp [hg, hep, hi, hl, h1]
set_option maxRecDepth 100000 in
theorem err_comes {ep : Int} {ms : List MemX} (hg : goodB ep ms = true) (hep : ep ≠ 1073741824) {i : Int} {h : Int} (hf : fitsB i h = true) (hi : hasB ms i = false) (hl : ms.length ≠ 10) (n : Int) : errC ep ms 1 i n h = 0 := by
  have h1 : inB 1 1 4 = true := by decide
  have h2 : cid 1 i n = i := by unfold cid; rw [if_neg (by omega)]
  unfold errC
  rw [h2]
  simp [hg, hep, hi, hl, h1, hf]
set_option maxRecDepth 100000 in
/-- There and back. -/
theorem back_plain {ep : Int} {ms : List MemX} {i : Int} {r : List UInt8} {h : Int} {hr : r.length = 32} (he : errC ep ms 1 i 0 h = 0) (hep : ep ≤ 536870912) {ys : List MemX} (hb : Behind ms 1 i 0 r h hr ys) :
    hasB ys i = true ∧ findM ys i = ⟨i, r, h, hr⟩ ∧ errC (ep + 1) ys 2 i 0 0 = 0 ∧ ∀ zs, Behind ys 2 i 0 z32 0 rfl zs → zs = ms := by
  have hc : cid 1 i 0 = i := by unfold cid; rw [if_neg (by omega)]
  obtain ⟨f1, f2⟩ := find_next he (by omega) hb
  rw [hc] at f1 f2
  have hl := (next_len hr he).1 rfl
  have hpl := hb.perm.length_eq
  have hg := (good_iff ep ms).1 (err0 he).1
  have hn := hg.2.1.1
  have e2 : errC (ep + 1) ys 2 i 0 0 = 0 := err_gone (hb.good he) (by omega) f1 (by omega) 0 0
  refine ⟨f1, ?_, e2, fun zs hz => ?_⟩
  · rw [f2]
    exact MemX.same hc rfl rfl
  · have hp := hz.perm
    unfold nextM at hp
    rw [if_pos rfl, List.append_nil] at hp
    have hp2 := perm_drop hb.perm i
    have h0 : hasB ms i = false := by
      have := (err0 he).2.2.2.2.2.1
      rw [hc] at this
      rcases this with h | h | h
      · omega
      · omega
      · exact h
    have e3 : dropId i (nextM ms 1 i 0 r h hr) = ms := by
      have h1 := drop_none h0
      unfold nextM
      rw [if_neg (by omega), h1]
      unfold dropId at h1 ⊢
      rw [List.filter_append, h1]
      have : (comerX 1 i 0 r h hr).id = i := hc
      simp [this]
    rw [e3] at hp2
    exact (hz.ris e2).uniq hg.2.2.1 (hp.trans hp2)

def rotM (i : Int) (c : MemX) (m : MemX) : MemX := if m.id = i then c else m
set_option maxRecDepth 100000 in
theorem perm_rot (i : Int) (c : MemX) : ∀ {ms : List MemX}, Dif ms → hasB ms i = true → (ms.map (rotM i c)).Perm (dropId i ms ++ [c])
  | [], _, h => by
    obtain ⟨m, hm, _⟩ := (has_iff _ _).1 h
    cases hm
  | m :: r, d, h => by
    obtain ⟨h1, h2⟩ := List.pairwise_cons.1 d
    by_cases e : m.id = i
    · have hr : hasB r i = false := by
        rw [Bool.eq_false_iff]
        intro hh
        obtain ⟨x, hx, ex⟩ := (has_iff r i).1 hh
        exact h1 x hx (by rw [e, ex])
      have hd := drop_none hr
      have hm : r.map (rotM i c) = r := by
        have : r.map (rotM i c) = r.map (fun x => x) := List.map_congr_left fun x hx => by
          unfold rotM
          rw [if_neg (not_has hr x hx)]
        rw [this, List.map_id']
      have hdm : dropId i (m :: r) = r := by
        unfold dropId at hd ⊢
        rw [List.filter_cons, if_neg (by simp [e]), hd]
      rw [List.map_cons, hm, hdm]
      unfold rotM
      rw [if_pos e]
      exact (List.perm_append_singleton c r).symm
    · have hr : hasB r i = true := by
        rw [has_iff] at h ⊢
        obtain ⟨x, hx, ex⟩ := h
        rcases List.mem_cons.1 hx with e1 | hx
        · exact absurd (by rw [← e1]; exact ex) e
        · exact ⟨x, hx, ex⟩
      have hdm : dropId i (m :: r) = m :: dropId i r := by
        unfold dropId
        rw [List.filter_cons, if_pos (by simp [e])]
      rw [List.map_cons, hdm]
      have : rotM i c m = m := by unfold rotM; rw [if_neg e]
      rw [this]
      exact (perm_rot i c h2 hr).cons m
set_option maxRecDepth 100000 in
theorem ris_rot {i : Int} {c : MemX} (hc : c.id = i) {ms : List MemX} (h : Ris ms) : Ris (ms.map (rotM i c)) := by
  have hid : ∀ m, (rotM i c m).id = m.id := fun m => by
    unfold rotM
    split
    · rename_i e
      rw [hc, e]
    · rfl
  unfold Ris
  rw [List.pairwise_map]
  exact List.Pairwise.imp (R := fun a b : MemX => a.id < b.id) (fun {a b} h => by rw [hid, hid]; exact h) h
set_option maxRecDepth 100000 in
/-- A key exchanged. -/
theorem rot_plain {ep : Int} {ms : List MemX} {i : Int} {r : List UInt8} {h : Int} {hr : r.length = 32} (he : errC ep ms 4 i 0 h = 0) {ys : List MemX} (hb : Behind ms 4 i 0 r h hr ys) : ys = ms.map (rotM i ⟨i, r, h, hr⟩) := by
  have hg := (good_iff ep ms).1 (err0 he).1
  have hc : comerX 4 i 0 r h hr = ⟨i, r, h, hr⟩ := MemX.same (by show cid 4 i 0 = i; unfold cid; rw [if_neg (by omega)]) rfl rfl
  have hi : hasB ms i = true := by
    rcases (err0 he).2.2.2.2.1 with h | h
    · omega
    · exact h
  have hp := hb.perm
  unfold nextM at hp
  rw [if_neg (by omega), hc] at hp
  exact (hb.ris he).uniq (ris_rot (i := i) (c := ⟨i, r, h, hr⟩) rfl hg.2.2.1) (hp.trans (perm_rot i _ hg.2.2.1.dif hi).symm)
set_option maxRecDepth 100000 in
/-- To replace is to take out, and to add. -/
theorem keys_plain {ep : Int} {ms : List MemX} {i n : Int} {r : List UInt8} {h : Int} {hr : r.length = 32} (he3 : errC ep ms 3 i n h = 0) (he2 : errC ep ms 2 i 0 0 = 0) (hep : ep ≤ 536870912) {rs xs : List MemX} (hb3 : Behind ms 3 i n r h hr rs) (hb2 : Behind ms 2 i 0 z32 0 rfl xs) :
    errC (ep + 1) xs 1 n 0 h = 0 ∧ ∀ zs, Behind xs 1 n 0 r h hr zs → zs = rs := by
  have hg := (good_iff ep ms).1 (err0 he3).1
  have hc3 : cid 3 i n = n := by unfold cid; rw [if_pos rfl]
  have hc1 : cid 1 n 0 = n := by unfold cid; rw [if_neg (by omega)]
  have hf : fitsB n h = true := by
    rcases (err0 he3).2.2.2.1 with h | h
    · omega
    · rwa [hc3] at h
  have hnn : hasB ms n = false := by
    rcases (err0 he3).2.2.2.2.2.1 with h | h | h
    · omega
    · omega
    · rwa [hc3] at h
  have hp2 := hb2.perm
  unfold nextM at hp2
  rw [if_pos rfl, List.append_nil] at hp2
  have hxn : hasB xs n = false := by
    rw [Bool.eq_false_iff]
    intro hh
    obtain ⟨x, hx, ex⟩ := (has_iff xs n).1 hh
    exact not_has hnn x (mem_drop.1 (hp2.mem_iff.1 hx)).1 ex
  have hl2 := (next_len z32_len he2).2.1 rfl
  have hpl := hb2.perm.length_eq
  have e1 : errC (ep + 1) xs 1 n 0 h = 0 := err_comes (hb2.good he2) (by omega) hf hxn (by have := hg.2.1.2; omega) 0
  refine ⟨e1, fun zs hz => ?_⟩
  have hpz := hz.perm
  have hp3 := hb3.perm
  have hcm1 : comerX 1 n 0 r h hr = ⟨n, r, h, hr⟩ := MemX.same hc1 rfl rfl
  have hcm3 : comerX 3 i n r h hr = ⟨n, r, h, hr⟩ := MemX.same hc3 rfl rfl
  unfold nextM at hpz hp3
  rw [if_neg (by omega), hcm1, drop_none hxn] at hpz
  rw [if_neg (by omega), hcm3] at hp3
  exact (hz.ris e1).uniq (hb3.ris he3) ((hpz.trans (hp2.append_right _)).trans hp3.symm)
end Go.Proofs.YtbgbidgggjkmmaaGreatDoor
