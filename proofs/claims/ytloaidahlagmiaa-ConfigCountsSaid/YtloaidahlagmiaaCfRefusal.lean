/-
  Changes: who comes by one (config.comer), why a configuration can't have it (config.refusal).
-/
import Derived.Test.YtloaidahlagmiaaCfDelete
namespace Go.Proofs.Ytloaidahlagmiaa
open Go.RowKit Go.Sort

/-- A change's cells. -/
def chgL (k i n : Int) (r : List UInt8) (h : Int) : List Value := .int .i64 k :: .int .i64 i :: .int .i64 n :: keyL r h
abbrev chgV (k i n : Int) (r : List UInt8) (h : Int) : Value := .agg (chgL k i n r h).toArray
set_option maxRecDepth 100000 in
theorem chg_len {r : List UInt8} (hr : r.length = 32) (k i n h : Int) : (chgL k i n r h).length = 36 := by
  unfold chgL
  simp [keyL_len hr]
set_option maxRecDepth 100000 in
theorem chg_list {r : List UInt8} (hr : r.length = 32) (k i n h : Int) : (Try.prog.info? 43).map (·.size) = some (chgL k i n r h).length := by
  rw [chg_len hr]
  kernel_rfl
noncomputable def ldChg (v : Value) : Sem Value := Instr.loadAt 43 v
set_option maxRecDepth 100000 in
theorem ldChg_def (v : Value) : Instr.loadAt 43 v = ldChg v := rfl
noncomputable def ldKy (v : Value) : Sem Value := Instr.loadAt 29 v
set_option maxRecDepth 100000 in
theorem ldKy_def (v : Value) : Instr.loadAt 29 v = ldKy v := rfl
set_option maxRecDepth 100000 in
theorem ld_chg {w : World} {g : Nat} {t : TypeId} {k i n h : Int} {r : List UInt8} (hr : r.length = 32) (hb : Box w g t (chgL k i n r h).toArray) : (ldChg (.pointer (some ⟨g, 0, none⟩))).run Try.prog w = .ok (chgV k i n r h) w :=
  run_loadAt_mid (P := Try.prog) w g 0 43 (chgL k i n r h) _ hb.range Try.underlying43 rfl (chg_list hr k i n h)
set_option maxRecDepth 100000 in
theorem ld_ky {w : World} {g o : Nat} {r : List UInt8} {h : Int} (hr : r.length = 32) (hb : w.rangeAt g o (keyL r h)) : (ldKy (.pointer (some ⟨g, o, none⟩))).run Try.prog w = .ok (.agg (keyV r h)) w :=
  run_loadAt_mid (P := Try.prog) w g o 29 (keyL r h) _ hb Try.underlying29 rfl (key_list hr h)
set_option maxRecDepth 100000 in
theorem chg_key {w : World} {g : Nat} {t : TypeId} {k i n h : Int} {r : List UInt8} (hb : Box w g t (chgL k i n r h).toArray) : w.rangeAt g 3 (keyL r h) := by
  intro j v hj
  have := hb.range (j + 3) v (by unfold chgL; simpa using hj)
  rw [Nat.zero_add, Nat.add_comm j 3] at this
  exact this

def cid (k i n : Int) : Int := if k = 3 then n else i
def comerX (k i n : Int) (r : List UInt8) (h : Int) (hr : r.length = 32) : MemX := ⟨cid k i n, r, h, hr⟩

attribute [local go_sem ↓] ldMem_def stMem_def eqMem_def bdMem_def bsMem_def clMem_def apAll_def ldChg_def ldKy_def

set_option maxRecDepth 100000 in
set_option maxHeartbeats 1000000 in
theorem comer_any (k i n : Int) (r : List UInt8) (h : Int) (hr : r.length = 32) (w : World) : Calls Try.prog 29 #[chgV k i n r h] w fun e w' => e = .returned (comerX k i n r h hr).enc ∧ Below w.heap.size w w' := by
  obtain ⟨w1, hw1⟩ : ∃ w1, w1 = (w.alloc (.cells (chgL k i n r h).toArray 43)).alloc (.cells zmemV 31) := ⟨_, rfl⟩
  have HX : Hid (Box w1 w.heap.size 43 (chgL k i n r h).toArray) := by
    rw [hw1]
    exact (Box.made w _ _).alloc _
  have HM : Hid (Box w1 (w.heap.size + 1) 31 zmemV) := by
    rw [hw1]
    exact Box.made_at (by simp) _ _
  have HF : Hid (Below w.heap.size w w1) := by
    rw [hw1]
    exact ((Below.refl _ _).alloc (Nat.le_refl _) _).alloc (by simp) _
  have c0 : w1.cell? ⟨w.heap.size, 0, none⟩ = some (.int .i64 k) := HX.out.cell 0
  have c1 : w1.cell? ⟨w.heap.size, 1, none⟩ = some (.int .i64 i) := HX.out.cell 1
  have c2 : w1.cell? ⟨w.heap.size, 2, none⟩ = some (.int .i64 n) := HX.out.cell 2
  have lk := ld_ky hr (chg_key HX.out)
  obtain ⟨w3, hst, hb3, hg3⟩ := HM.out.st_mem zmem_size (comerX k i n r h hr)
  have HB3 := Lib.hid hb3
  have HG3 : Hid (Below w.heap.size w w3) := Lib.hid (HF.out.trans (below_only hg3 (by omega) HF.out.size))
  have hbd := bd_mem (cid k i n) hr h w1
  unfold MemX.enc MemX.cells comerX at hst
  simp only at hst
  have HL := Lib.hid hr
  unfold cid at hbd hst
  clear hb3 hg3
  have hund : (comerX k i n r h hr).enc = .agg (memL (cid k i n) r h).toArray := rfl
  have HU := Lib.hid hund
  clear hund
  by_cases hk : k = 3
  · rw [if_pos hk] at hbd hst
    have e1 : (k == 3) = true := by simpa using hk
    clear hk
    go_enter Try.func29, Try.ntmps29
    go_upto_region 1 with fail
    change Code.wp _ _ _ _ ((w.alloc (.cells (chgL k i n r h).toArray 43)).alloc (.cells zmemV 31))
    rw [← hw1]
    clear hw1
    go_wp2
    exact ret_mem rfl rfl rfl HB3.out ⟨rfl, HG3.out⟩
  · rw [if_neg hk] at hbd hst
    have e1 : (k == 3) = false := by simpa using hk
    clear hk
    go_enter Try.func29, Try.ntmps29
    go_upto_region 1 with fail
    change Code.wp _ _ _ _ ((w.alloc (.cells (chgL k i n r h).toArray 43)).alloc (.cells zmemV 31))
    rw [← hw1]
    clear hw1
    go_wp2
    exact ret_mem rfl rfl rfl HB3.out ⟨rfl, HG3.out⟩

/-- Why a configuration can't have a change; 0: it can. -/
def errC (ep : Int) (ms : List MemX) (k i n h : Int) : Int :=
  if !(goodB ep ms) || (decide (ep = 1073741824) || !(inB k 1 4)) then 1
  else if !(decide (k = 2)) && !(fitsB (cid k i n) h) then 1
  else if !(decide (k = 1)) && !(hasB ms i) then 7
  else if (decide (k = 1) || decide (k = 3)) && hasB ms (cid k i n) then 9
  else if decide (k = 1) && decide (ms.length = 10) then 11
  else if decide (k = 2) && decide (ms.length = 1) then 10
  else 0

set_option maxRecDepth 100000 in
set_option maxHeartbeats 8000000 in
theorem refusal_any (ep : Int) (ms : List MemX) (A : Option Addr) (c : Nat) (hn : ms.length ≤ maxLen) (k i n : Int) (r : List UInt8) (h : Int) (hr : r.length = 32) (w : World) (hS : Mems w w.heap.size A ms) :
    Calls Try.prog 27 #[.agg (cfgV ep A ms.length c), chgV k i n r h] w fun e w' => e = .returned (.int .i64 (errC ep ms k i n h)) ∧ Below w.heap.size w w' := by
  obtain ⟨w1, hw1⟩ : ∃ w1, w1 = (w.alloc (.cells (cfgV ep A ms.length c) 24)).alloc (.cells (chgL k i n r h).toArray 43) := ⟨_, rfl⟩
  have HX : Hid (Box w1 w.heap.size 24 (cfgV ep A ms.length c)) := by
    rw [hw1]
    exact (Box.made w _ _).alloc _
  have HY : Hid (Box w1 (w.heap.size + 1) 43 (chgL k i n r h).toArray) := by
    rw [hw1]
    exact Box.made_at (by simp) _ _
  have HF : Hid (Below w.heap.size w w1) := by
    rw [hw1]
    exact ((Below.refl _ _).alloc (Nat.le_refl _) _).alloc (by simp) _
  have HS := Lib.hid (hS.far HF.out)
  have HCX : Hid (∀ w', Below w1.heap.size w1 w' → w'.cell? ⟨w.heap.size, 0, none⟩ = some (.int .i64 ep) ∧ w'.cell? ⟨w.heap.size, 1, none⟩ = some (.slice A ms.length c) ∧ w'.cell? ⟨w.heap.size + 1, 0, none⟩ = some (.int .i64 k) ∧ w'.cell? ⟨w.heap.size + 1, 1, none⟩ = some (.int .i64 i) ∧ (ldChg (.pointer (some ⟨w.heap.size + 1, 0, none⟩))).run Try.prog w' = .ok (chgV k i n r h) w') := Lib.hid (fun w' hb => by
    have hx := HX.out.below hb HX.out.lt
    have hy := HY.out.below hb HY.out.lt
    exact ⟨hx.cell 0, hx.cell 1, hy.cell 0, hy.cell 1, ld_chg hr hy⟩)
  have HGD : Hid (∀ w', Below w1.heap.size w1 w' → Calls Try.prog 12 #[.agg (cfgV ep A ms.length c)] w' fun e w'' => e = .returned (.bool (goodB ep ms)) ∧ Below w'.heap.size w' w'') := Lib.hid (fun w' hb => good_any8 ms ep A c hn w' (HS.out.far hb))
  have HHI : Hid (∀ w', Below w1.heap.size w1 w' → Calls Try.prog 30 #[.agg (cfgV ep A ms.length c), .int .i64 i] w' fun e w'' => e = .returned (.bool (hasB ms i)) ∧ Below w'.heap.size w' w'') := Lib.hid (fun w' hb => has_any ms ep A c hn i w' (HS.out.far hb))
  have HHC : Hid (∀ w', Below w1.heap.size w1 w' → Calls Try.prog 30 #[.agg (cfgV ep A ms.length c), .int .i64 (cid k i n)] w' fun e w'' => e = .returned (.bool (hasB ms (cid k i n))) ∧ Below w'.heap.size w' w'') := Lib.hid (fun w' hb => has_any ms ep A c hn (cid k i n) w' (HS.out.far hb))
  have HCM : Hid (∀ w', Calls Try.prog 29 #[chgV k i n r h] w' fun e w'' => e = .returned (.agg (memL (cid k i n) r h).toArray) ∧ Below w'.heap.size w' w'') := Lib.hid (fun w' => comer_any k i n r h hr w')
  have HFI : Hid (∀ w', Calls Try.prog 25 #[.agg (memL (cid k i n) r h).toArray] w' fun e w'' => e = .returned (.bool (fitsB (cid k i n) h)) ∧ Below w'.heap.size w' w'') := Lib.hid (fun w' => fits_any (comerX k i n r h hr) w')
  have HWI := Lib.hid (cwithin_any k 1 4)
  have HE : Hid (errC ep ms k i n h = if !(goodB ep ms) || (decide (ep = 1073741824) || !(inB k 1 4)) then 1
    else if !(decide (k = 2)) && !(fitsB (cid k i n) h) then 1
    else if !(decide (k = 1)) && !(hasB ms i) then 7
    else if (decide (k = 1) || decide (k = 3)) && hasB ms (cid k i n) then 9
    else if decide (k = 1) && decide (ms.length = 10) then 11
    else if decide (k = 2) && decide (ms.length = 1) then 10
    else 0) := rfl
  have HIN : Hid (inB k 1 4 = true → k = 1 ∨ k = 2 ∨ k = 3 ∨ k = 4) := Lib.hid (fun hh => by
    unfold inB at hh
    rw [Bool.and_eq_true, decide_eq_true_iff, decide_eq_true_iff] at hh
    omega)
  have HN : Hid (ms.length ≤ 9223372036854775807) := Lib.hid (Nat.le_trans hn (by simp [maxLen]))
  clear hS hn
  generalize goodB ep ms = gd at *
  generalize inB k 1 4 = ik at *
  generalize hasB ms i = hi at *
  generalize hasB ms (cid k i n) = hc at *
  generalize fitsB (cid k i n) h = ft at *
  generalize errC ep ms k i n h = er at *
  generalize hcd : cid k i n = cd at *
  have HM : Hid ((memL cd r h).toArray.toList = .int .i64 cd :: keyL r h) := rfl
  have hfd : ∀ w : World, (Instr.field 31 (.agg (memL cd r h).toArray) 0).run Try.prog w = .ok (.int .i64 cd) w := fun _ => by kernel_rfl
  generalize (memL cd r h).toArray = mv at *
  clear HX HY HS hr hcd HM
  obtain ⟨c0, c1, d0, d1, lc⟩ := HCX.out w1 (Below.refl _ _)
  go_enter Try.func27, Try.ntmps27
  go_upto_region 1 with fail
  change Code.wp _ _ _ _ ((w.alloc (.cells (cfgV ep A ms.length c) 24)).alloc (.cells (chgL k i n r h).toArray 43))
  rw [← hw1]
  clear hw1
  go_quiet (fail)
  clear lc
  cases gd
  · have HR : Hid (er = 1) := Lib.hid (by rw [HE.out]; rfl)
    go_wp2_with (go_at_call 12; (with_reducible refine (HGD.out _ (below_drewN (Below.refl _ _) _)).mono ?_); rintro e w3 ⟨rfl, hb3⟩; have HB3 : Hid (Below w1.heap.size w1 w3) := Lib.hid ((below_drewN (Below.refl w1.heap.size w1) _).trans (hb3.mono (Nat.le_refl _))); obtain ⟨c0', c1', d0', d1', lc'⟩ := HCX.out w3 HB3.out; clear hb3)
    go_ret
    exact ⟨by rw [HR.out]; rfl, HF.out.trans ((HB3.out).mono HF.out.size)⟩
  by_cases hep : ep = 1073741824
  · have HR : Hid (er = 1) := Lib.hid (by rw [HE.out, decide_eq_true hep]; rfl)
    have e0 : (ep == 1073741824) = true := by simpa using hep
    clear hep
    go_wp2_with (go_at_call 12; (with_reducible refine (HGD.out _ (below_drewN (Below.refl _ _) _)).mono ?_); rintro e w3 ⟨rfl, hb3⟩; have HB3 : Hid (Below w1.heap.size w1 w3) := Lib.hid ((below_drewN (Below.refl w1.heap.size w1) _).trans (hb3.mono (Nat.le_refl _))); obtain ⟨c0', c1', d0', d1', lc'⟩ := HCX.out w3 HB3.out; clear hb3)
    go_ret
    exact ⟨by rw [HR.out]; rfl, HF.out.trans ((HB3.out).mono HF.out.size)⟩
  have e0 : (ep == 1073741824) = false := by simpa using hep
  cases ik
  · have HR : Hid (er = 1) := Lib.hid (by rw [HE.out, decide_eq_false hep]; rfl)
    clear hep
    go_wp2_with (first | (go_at_call 12; (with_reducible refine (HGD.out _ (below_drewN (Below.refl _ _) _)).mono ?_); rintro e w3 ⟨rfl, hb3⟩; have HB3 : Hid (Below w1.heap.size w1 w3) := Lib.hid ((below_drewN (Below.refl w1.heap.size w1) _).trans (hb3.mono (Nat.le_refl _))); obtain ⟨c0', c1', d0', d1', lc'⟩ := HCX.out w3 HB3.out; clear hb3) | (go_at_call 24; (with_reducible refine (HWI.out _).mono ?_); rintro e w4 ⟨rfl, rfl⟩))
    go_ret
    exact ⟨by rw [HR.out]; rfl, HF.out.trans ((HB3.out).mono HF.out.size)⟩
  have HEP := Lib.hid hep
  clear hep
  go_upto_region 4 with (first | (go_at_call 12; (with_reducible refine (HGD.out _ (below_drewN (Below.refl _ _) _)).mono ?_); rintro e w3 ⟨rfl, hb3⟩; have HB3 : Hid (Below w1.heap.size w1 w3) := Lib.hid ((below_drewN (Below.refl w1.heap.size w1) _).trans (hb3.mono (Nat.le_refl _))); obtain ⟨c0', c1', d0', d1', lc'⟩ := HCX.out w3 HB3.out; clear hb3) | (go_at_call 24; (with_reducible refine (HWI.out _).mono ?_); rintro e w4 ⟨rfl, rfl⟩))
  clear e0 HGD HWI c0 c1 d0 d1
  rcases HIN.out (by first | exact rfl | exact trivial) with rfl | rfl | rfl | rfl
  · cases ft
    · have HR : Hid (er = 1) := Lib.hid (by rw [HE.out, decide_eq_false HEP.out]; rfl)
      go_wp2_with (first | (go_at_call 29; (with_reducible refine (HCM.out _).mono ?_); rintro e w5 ⟨rfl, hb5⟩; have HB5 : Hid (Below w1.heap.size w1 w5) := Lib.hid (HB3.out.trans (hb5.mono HB3.out.size)); clear hb5) | (go_at_call 25; (with_reducible refine (HFI.out _).mono ?_); rintro e w6 ⟨rfl, hb6⟩; have HB6 : Hid (Below w1.heap.size w1 w6) := Lib.hid (HB5.out.trans (hb6.mono HB5.out.size)); obtain ⟨c0'', c1'', d0'', d1'', lc''⟩ := HCX.out w6 HB6.out; clear hb6))
      go_ret
      exact ⟨by rw [HR.out]; rfl, HF.out.trans ((HB6.out).mono HF.out.size)⟩
    go_upto_region 8 with (first | (go_at_call 29; (with_reducible refine (HCM.out _).mono ?_); rintro e w5 ⟨rfl, hb5⟩; have HB5 : Hid (Below w1.heap.size w1 w5) := Lib.hid (HB3.out.trans (hb5.mono HB3.out.size)); clear hb5) | (go_at_call 25; (with_reducible refine (HFI.out _).mono ?_); rintro e w6 ⟨rfl, hb6⟩; have HB6 : Hid (Below w1.heap.size w1 w6) := Lib.hid (HB5.out.trans (hb6.mono HB5.out.size)); obtain ⟨c0'', c1'', d0'', d1'', lc''⟩ := HCX.out w6 HB6.out; clear hb6))
    have HBw6 := HB6
    clear c0' c1' d0' d1' lc' c0'' c1'' d0'' d1'' lc''
    have cQ0 := fun (d : Nat) (os : Array Obj) => (HCX.out (grow (redrawn w6 d) os) (HBw6.out.trans ((below_regrown w6 d os).mono HBw6.out.size))).1
    have cQ1 := fun (d : Nat) (os : Array Obj) => (HCX.out (grow (redrawn w6 d) os) (HBw6.out.trans ((below_regrown w6 d os).mono HBw6.out.size))).2.1
    have lQ := fun (d : Nat) (os : Array Obj) => (HCX.out (grow (redrawn w6 d) os) (HBw6.out.trans ((below_regrown w6 d os).mono HBw6.out.size))).2.2.2.2
    have QC := Lib.hid (fun (d : Nat) (os : Array Obj) => Calls.regrown_of (HCM.out (grow (redrawn w6 d) os)))
    have QH := Lib.hid (fun (d : Nat) (os : Array Obj) => Calls.regrown_of (HHC.out (grow (redrawn w6 d) os) (HBw6.out.trans ((below_regrown w6 d os).mono HBw6.out.size))))
    refine wp_region_quiet_below (by kernel_rfl) (by kernel_rfl) ?_
    repeat (quiet_step (first | (go_at_call 29; with_reducible exact QC.out _ _) | (go_at_call 30; with_reducible exact QH.out _ _)))
    refine wpQuiet_nil ?_
    intro _ hw'
    obtain ⟨⟨dq, osq⟩, hw''⟩ := hw'
    subst hw''
    have HBQ : Hid (Below w1.heap.size w1 (grow (redrawn w6 dq) osq)) := Lib.hid (HBw6.out.trans ((below_regrown w6 dq osq).mono HBw6.out.size))
    have cR := cQ1 dq osq
    clear cQ0 cQ1 lQ QC QH
    cases hc
    case true =>
      have HR : Hid (er = 9) := Lib.hid (by rw [HE.out, decide_eq_false HEP.out]; rfl)
      go_wp2
      go_ret
      exact ⟨by rw [HR.out]; rfl, HF.out.trans ((HBQ.out).mono HF.out.size)⟩
    by_cases hl : ms.length = 10
    · have HR : Hid (er = 11) := Lib.hid (by rw [HE.out, decide_eq_false HEP.out, decide_eq_true hl]; rfl)
      have e1 : ((ms.length : Int) == 10) = true := by rw [beq_iff_eq]; omega
      clear hl
      go_wp2
      go_ret
      exact ⟨by rw [HR.out]; rfl, HF.out.trans ((HBQ.out).mono HF.out.size)⟩
    · have HR : Hid (er = 0) := Lib.hid (by rw [HE.out, decide_eq_false HEP.out, decide_eq_false hl]; rfl)
      have e1 : ((ms.length : Int) == 10) = false := by rw [beq_eq_false_iff_ne]; omega
      clear hl
      go_wp2
      go_ret
      exact ⟨by rw [HR.out]; rfl, HF.out.trans ((HBQ.out).mono HF.out.size)⟩
  · cases hi
    · have HR : Hid (er = 7) := Lib.hid (by rw [HE.out, decide_eq_false HEP.out]; rfl)
      go_wp2_with (go_at_call 30; (with_reducible refine (HHI.out _ HB3.out).mono ?_); rintro e w7 ⟨rfl, hb7⟩; have HB7 : Hid (Below w1.heap.size w1 w7) := Lib.hid (HB3.out.trans (hb7.mono HB3.out.size)); obtain ⟨c0q, c1q, d0q, d1q, lcq⟩ := HCX.out w7 HB7.out; clear hb7)
      go_ret
      exact ⟨by rw [HR.out]; rfl, HF.out.trans ((HB7.out).mono HF.out.size)⟩
    go_upto_region 8 with (go_at_call 30; (with_reducible refine (HHI.out _ HB3.out).mono ?_); rintro e w7 ⟨rfl, hb7⟩; have HB7 : Hid (Below w1.heap.size w1 w7) := Lib.hid (HB3.out.trans (hb7.mono HB3.out.size)); obtain ⟨c0q, c1q, d0q, d1q, lcq⟩ := HCX.out w7 HB7.out; clear hb7)
    clear c0' c1' d0' d1' lc'
    go_quiet (fail)
    by_cases hl : ms.length = 1
    · have HR : Hid (er = 10) := Lib.hid (by rw [HE.out, decide_eq_false HEP.out, decide_eq_true hl]; rfl)
      have e1 : ((ms.length : Int) == 1) = true := by rw [beq_iff_eq]; omega
      clear hl
      go_wp2
      go_ret
      exact ⟨by rw [HR.out]; rfl, HF.out.trans ((below_drewN HB7.out _).mono HF.out.size)⟩
    · have HR : Hid (er = 0) := Lib.hid (by rw [HE.out, decide_eq_false HEP.out, decide_eq_false hl]; rfl)
      have e1 : ((ms.length : Int) == 1) = false := by rw [beq_eq_false_iff_ne]; omega
      clear hl
      go_wp2
      go_ret
      exact ⟨by rw [HR.out]; rfl, HF.out.trans ((below_drewN HB7.out _).mono HF.out.size)⟩
  · cases ft
    · have HR : Hid (er = 1) := Lib.hid (by rw [HE.out, decide_eq_false HEP.out]; rfl)
      go_wp2_with (first | (go_at_call 29; (with_reducible refine (HCM.out _).mono ?_); rintro e w5 ⟨rfl, hb5⟩; have HB5 : Hid (Below w1.heap.size w1 w5) := Lib.hid (HB3.out.trans (hb5.mono HB3.out.size)); clear hb5) | (go_at_call 25; (with_reducible refine (HFI.out _).mono ?_); rintro e w6 ⟨rfl, hb6⟩; have HB6 : Hid (Below w1.heap.size w1 w6) := Lib.hid (HB5.out.trans (hb6.mono HB5.out.size)); obtain ⟨c0'', c1'', d0'', d1'', lc''⟩ := HCX.out w6 HB6.out; clear hb6))
      go_ret
      exact ⟨by rw [HR.out]; rfl, HF.out.trans ((HB6.out).mono HF.out.size)⟩
    go_upto_region 6 with (first | (go_at_call 29; (with_reducible refine (HCM.out _).mono ?_); rintro e w5 ⟨rfl, hb5⟩; have HB5 : Hid (Below w1.heap.size w1 w5) := Lib.hid (HB3.out.trans (hb5.mono HB3.out.size)); clear hb5) | (go_at_call 25; (with_reducible refine (HFI.out _).mono ?_); rintro e w6 ⟨rfl, hb6⟩; have HB6 : Hid (Below w1.heap.size w1 w6) := Lib.hid (HB5.out.trans (hb6.mono HB5.out.size)); obtain ⟨c0'', c1'', d0'', d1'', lc''⟩ := HCX.out w6 HB6.out; clear hb6))
    clear c0' c1' d0' d1' lc'
    cases hi
    · have HR : Hid (er = 7) := Lib.hid (by rw [HE.out, decide_eq_false HEP.out]; rfl)
      go_wp2_with (go_at_call 30; (with_reducible refine (HHI.out _ HB6.out).mono ?_); rintro e w7 ⟨rfl, hb7⟩; have HB7 : Hid (Below w1.heap.size w1 w7) := Lib.hid (HB6.out.trans (hb7.mono HB6.out.size)); obtain ⟨c0q, c1q, d0q, d1q, lcq⟩ := HCX.out w7 HB7.out; clear hb7)
      go_ret
      exact ⟨by rw [HR.out]; rfl, HF.out.trans ((HB7.out).mono HF.out.size)⟩
    go_upto_region 8 with (go_at_call 30; (with_reducible refine (HHI.out _ HB6.out).mono ?_); rintro e w7 ⟨rfl, hb7⟩; have HB7 : Hid (Below w1.heap.size w1 w7) := Lib.hid (HB6.out.trans (hb7.mono HB6.out.size)); obtain ⟨c0q, c1q, d0q, d1q, lcq⟩ := HCX.out w7 HB7.out; clear hb7)
    have HBw7 := HB7
    clear c0'' c1'' d0'' d1'' lc'' c0q c1q d0q d1q lcq
    have cQ0 := fun (d : Nat) (os : Array Obj) => (HCX.out (grow (redrawn w7 d) os) (HBw7.out.trans ((below_regrown w7 d os).mono HBw7.out.size))).1
    have cQ1 := fun (d : Nat) (os : Array Obj) => (HCX.out (grow (redrawn w7 d) os) (HBw7.out.trans ((below_regrown w7 d os).mono HBw7.out.size))).2.1
    have lQ := fun (d : Nat) (os : Array Obj) => (HCX.out (grow (redrawn w7 d) os) (HBw7.out.trans ((below_regrown w7 d os).mono HBw7.out.size))).2.2.2.2
    have QC := Lib.hid (fun (d : Nat) (os : Array Obj) => Calls.regrown_of (HCM.out (grow (redrawn w7 d) os)))
    have QH := Lib.hid (fun (d : Nat) (os : Array Obj) => Calls.regrown_of (HHC.out (grow (redrawn w7 d) os) (HBw7.out.trans ((below_regrown w7 d os).mono HBw7.out.size))))
    refine wp_region_quiet_below (by kernel_rfl) (by kernel_rfl) ?_
    repeat (quiet_step (first | (go_at_call 29; with_reducible exact QC.out _ _) | (go_at_call 30; with_reducible exact QH.out _ _)))
    refine wpQuiet_nil ?_
    intro _ hw'
    obtain ⟨⟨dq, osq⟩, hw''⟩ := hw'
    subst hw''
    have HBQ : Hid (Below w1.heap.size w1 (grow (redrawn w7 dq) osq)) := Lib.hid (HBw7.out.trans ((below_regrown w7 dq osq).mono HBw7.out.size))
    have cR := cQ1 dq osq
    clear cQ0 cQ1 lQ QC QH
    cases hc
    · have HR : Hid (er = 0) := Lib.hid (by rw [HE.out, decide_eq_false HEP.out]; rfl)
      go_wp2
      go_ret
      exact ⟨by rw [HR.out]; rfl, HF.out.trans ((HBQ.out).mono HF.out.size)⟩
    · have HR : Hid (er = 9) := Lib.hid (by rw [HE.out, decide_eq_false HEP.out]; rfl)
      go_wp2
      go_ret
      exact ⟨by rw [HR.out]; rfl, HF.out.trans ((HBQ.out).mono HF.out.size)⟩
  · cases ft
    · have HR : Hid (er = 1) := Lib.hid (by rw [HE.out, decide_eq_false HEP.out]; rfl)
      go_wp2_with (first | (go_at_call 29; (with_reducible refine (HCM.out _).mono ?_); rintro e w5 ⟨rfl, hb5⟩; have HB5 : Hid (Below w1.heap.size w1 w5) := Lib.hid (HB3.out.trans (hb5.mono HB3.out.size)); clear hb5) | (go_at_call 25; (with_reducible refine (HFI.out _).mono ?_); rintro e w6 ⟨rfl, hb6⟩; have HB6 : Hid (Below w1.heap.size w1 w6) := Lib.hid (HB5.out.trans (hb6.mono HB5.out.size)); obtain ⟨c0'', c1'', d0'', d1'', lc''⟩ := HCX.out w6 HB6.out; clear hb6))
      go_ret
      exact ⟨by rw [HR.out]; rfl, HF.out.trans ((HB6.out).mono HF.out.size)⟩
    go_upto_region 6 with (first | (go_at_call 29; (with_reducible refine (HCM.out _).mono ?_); rintro e w5 ⟨rfl, hb5⟩; have HB5 : Hid (Below w1.heap.size w1 w5) := Lib.hid (HB3.out.trans (hb5.mono HB3.out.size)); clear hb5) | (go_at_call 25; (with_reducible refine (HFI.out _).mono ?_); rintro e w6 ⟨rfl, hb6⟩; have HB6 : Hid (Below w1.heap.size w1 w6) := Lib.hid (HB5.out.trans (hb6.mono HB5.out.size)); obtain ⟨c0'', c1'', d0'', d1'', lc''⟩ := HCX.out w6 HB6.out; clear hb6))
    clear c0' c1' d0' d1' lc'
    cases hi
    · have HR : Hid (er = 7) := Lib.hid (by rw [HE.out, decide_eq_false HEP.out]; rfl)
      go_wp2_with (go_at_call 30; (with_reducible refine (HHI.out _ HB6.out).mono ?_); rintro e w7 ⟨rfl, hb7⟩; have HB7 : Hid (Below w1.heap.size w1 w7) := Lib.hid (HB6.out.trans (hb7.mono HB6.out.size)); obtain ⟨c0q, c1q, d0q, d1q, lcq⟩ := HCX.out w7 HB7.out; clear hb7)
      go_ret
      exact ⟨by rw [HR.out]; rfl, HF.out.trans ((HB7.out).mono HF.out.size)⟩
    go_upto_region 8 with (go_at_call 30; (with_reducible refine (HHI.out _ HB6.out).mono ?_); rintro e w7 ⟨rfl, hb7⟩; have HB7 : Hid (Below w1.heap.size w1 w7) := Lib.hid (HB6.out.trans (hb7.mono HB6.out.size)); obtain ⟨c0q, c1q, d0q, d1q, lcq⟩ := HCX.out w7 HB7.out; clear hb7)
    clear c0'' c1'' d0'' d1'' lc''
    go_quiet (fail)
    have HR : Hid (er = 0) := Lib.hid (by rw [HE.out, decide_eq_false HEP.out]; rfl)
    go_wp2
    go_ret
    exact ⟨by rw [HR.out]; rfl, HF.out.trans ((below_drewN HB7.out _).mono HF.out.size)⟩
end Go.Proofs.Ytloaidahlagmiaa
