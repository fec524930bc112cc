/-
  ConfigCounts: the walk.
-/
import Derived.Test.YtloaidahlagmiaaCfAlive
namespace Go.Proofs.Ytloaidahlagmiaa
open Go.RowKit Go.Sort

attribute [local go_sem ↓] ldMem_def stMem_def eqMem_def bdMem_def

set_option maxRecDepth 100000 in
theorem find_has {ms : List MemX} {i : Int} (h : posN ms i < ms.length) : findM ms i = ms[posN ms i]'h ∧ findN ms i = posN ms i ∧ hasB ms i = true ∧ posI ms i = (posN ms i : Int) := by
  unfold findM findN hasB posI
  rw [if_pos h, if_pos h, decide_eq_true h, if_pos h, List.getD_eq_getElem?_getD, List.getElem?_eq_getElem h]
  exact ⟨rfl, rfl, rfl, rfl⟩
set_option maxRecDepth 100000 in
theorem find_not {ms : List MemX} {i : Int} (h : ¬ posN ms i < ms.length) : findM ms i = zmem ∧ findN ms i = 0 ∧ hasB ms i = false ∧ posI ms i = -1 := by
  unfold findM findN hasB posI
  rw [if_neg h, if_neg h, decide_eq_false h, if_neg h]
  exact ⟨rfl, rfl, rfl, rfl⟩

set_option maxRecDepth 100000 in
set_option maxHeartbeats 8000000 in
theorem counts_walk (ep : Int) (ms : List MemX) (A : Option Addr) (c : Nat) (hn : ms.length ≤ maxLen) (id : Int) (w : World) (hS : Mems w w.heap.size A ms) :
    Calls Try.prog 3 #[.agg (cfgV ep A ms.length c), .int .i64 id] w fun e w' => e = .returned (.bool true) ∧ Below w.heap.size w w' := by
  obtain ⟨w1, hw1⟩ : ∃ w1, w1 = w.alloc (.cells (cfgV ep A ms.length c) 24) := ⟨_, rfl⟩
  have HX : Hid (Box w1 w.heap.size 24 (cfgV ep A ms.length c)) := by
    rw [hw1]
    exact Box.made _ _ _
  have HF : Hid (Below w.heap.size w w1) := by
    rw [hw1]
    exact (Below.refl _ _).alloc (Nat.le_refl _) _
  have HS := Lib.hid (hS.far HF.out)
  have HM : Hid (ms.length ≤ maxLen) := Lib.hid hn
  have HN : Hid (ms.length ≤ 9223372036854775807) := Lib.hid (Nat.le_trans hn (by simp [maxLen]))
  clear hS hn
  go_enter Try.func3, Try.ntmps3
  go_upto_region 1 with fail
  change Code.wp _ _ _ _ (w.alloc (.cells (cfgV ep A ms.length c) 24))
  rw [← hw1]
  clear hw1
  go_upto_region 3 with (go_at_call 9; (with_reducible refine (alive_any8 _).mono ?_); rintro e w2 ⟨rfl, hb2⟩; have HB2 := Lib.hid hb2; clear hb2)
  have HX2 := Lib.hid (HX.out.below HB2.out HX.out.lt)
  have HF2 : Hid (Below w.heap.size w w2) := Lib.hid (HF.out.trans (HB2.out.mono HF.out.size))
  have c0 : w2.cell? ⟨w.heap.size, 0, none⟩ = some (.int .i64 ep) := HX2.out.cell 0
  have c1 : w2.cell? ⟨w.heap.size, 1, none⟩ = some (.slice A ms.length c) := HX2.out.cell 1
  by_cases hbig : (1024 : Int) < (ms.length : Int)
  · go_wp2
    go_ret
    exact ⟨rfl, HF2.out⟩
  have HL : Hid (ms.length ≤ 1024) := Lib.hid (by omega)
  have HFI := Lib.hid (find_any ms ep A c HM.out id w2 (HS.out.far HB2.out))
  have HPL : Hid (∀ w', Below w2.heap.size w2 w' → Calls Try.prog 11 #[.agg (cfgV ep A ms.length c), .int .i64 id] w' fun e w'' => e = .returned (.int .i64 (posI ms id)) ∧ Below w'.heap.size w' w'') := Lib.hid (fun w' hb => place_any ms ep A c HM.out id w' ((HS.out.far HB2.out).far hb))
  have HS2 := Lib.hid (HS.out.far HB2.out)
  clear HS HX HF HB2
  unfold MemX.enc at HFI
  generalize hfm : findM ms id = fm at *
  go_upto_region 7 with (go_at_call 10; (with_reducible refine (HFI.out).mono ?_); rintro e w3 ⟨rfl, hb3⟩; obtain ⟨w4, hst, hb4, hg4⟩ := laid_mem w3 fm; unfold MemX.enc zmemV at hst; have HY4 := Lib.hid hb4; have HB4 : Hid (Below w2.heap.size w2 w4) := Lib.hid (hb3.trans (hg4.mono hb3.size)); clear hb3 hb4 hg4)
  clear c0 c1 hst HFI
  generalize w3.heap.size = gm at *
  have c0 : w4.cell? ⟨w.heap.size, 0, none⟩ = some (.int .i64 ep) := (HX2.out.below HB4.out HX2.out.lt).cell 0
  have c1 : w4.cell? ⟨w.heap.size, 1, none⟩ = some (.slice A ms.length c) := (HX2.out.below HB4.out HX2.out.lt).cell 1
  have HPL4 := Lib.hid (HPL.out w4 HB4.out)
  go_upto_region 8 with (go_at_call 11; (with_reducible refine (HPL4.out).mono ?_); rintro e w5 ⟨rfl, hb5⟩; have HB5 : Hid (Below w2.heap.size w2 w5) := Lib.hid (HB4.out.trans (hb5.mono HB4.out.size)); have HY5 := Lib.hid (HY4.out.below hb5 HY4.out.lt); clear hb5)
  clear c0 c1 HPL HPL4 HB4 HY4
  have HX5 := Lib.hid (HX2.out.below HB5.out HX2.out.lt)
  have HS5 := Lib.hid (HS2.out.far HB5.out)
  have HF5 : Hid (Below w.heap.size w w5) := Lib.hid (HF2.out.trans (HB5.out.mono HF2.out.size))
  have he := eq_mem_self fm
  have HX6 := Lib.hid HX5.out.drew
  have HS6 : Hid (Mems w5.drew w5.drew.heap.size A ms) := HS5
  have HF6 := Lib.hid HF5.out.drew
  by_cases h : posN ms id < ms.length
  · obtain ⟨e1, e2, e3, e4⟩ := find_has h
    have HEM : Hid (fm = ms[posN ms id]'h) := Lib.hid (by rw [← hfm, e1])
    rw [e2, e3, e4]
    obtain ⟨g, oo, rfl, _, hr⟩ := HS5.out.range h
    have hR := hr (posN ms id) h
    rw [← HEM.out] at hR
    have hX5 := HX5.out.drew
    have hY5 := HY5.out.drew
    generalize posN ms id = k at *
    have i1 : (k : Int) < (ms.length : Int) := by omega
    have i0 : (0 : Int) ≤ (k : Int) := by omega
    have i2 : decide ((0 : Int) ≤ (k : Int)) = true := by simp
    refine wp_region_held_drew (S := fun w' => Box w' w.heap.size 24 (cfgV ep (some ⟨g, oo, none⟩) ms.length c) ∧ Box w' gm 31 fm.cells.toArray ∧ w'.rangeAt g (oo + k * 34) fm.cells) (by kernel_rfl) ⟨hX5, hY5, hR⟩ (fun hS => ?_)
    clear hX5 hY5 hR e1 e2 e3 e4 hr hfm HEM h
    (refine take_at8 (i := 0) (d := 27) (v := .bool true) rfl (by kernel_rfl) (by kernel_rfl) (by kernel_rfl) (fun _ _ _ h => h) rfl (Or.inl ⟨by kernel_rfl, fun w hSw => by go_simp⟩) hS ?_)
    (refine take_at8 (i := 1) (d := 28) (v := .int .i64 (k : Int)) rfl (by kernel_rfl) (by kernel_rfl) (by kernel_rfl) (fun _ _ _ h => h) rfl (Or.inl ⟨by kernel_rfl, fun w hSw => by go_simp⟩) hS ?_)
    (refine take_at8 (i := 2) (d := 29) (v := .bool true) rfl (by kernel_rfl) (by kernel_rfl) (by kernel_rfl) (fun _ _ _ h => h) rfl (Or.inl ⟨by kernel_rfl, fun w hSw => by go_simp⟩) hS ?_)
    (refine take_at8 (i := 3) (d := 30) (v := .bool false) rfl (by kernel_rfl) (by kernel_rfl) (by kernel_rfl) (fun _ _ _ h => h) rfl (Or.inl ⟨by kernel_rfl, fun w hSw => by go_simp⟩) hS ?_)
    (refine take_at8 (i := 4) (d := 31) (v := .bool false) rfl (by kernel_rfl) (by kernel_rfl) (by kernel_rfl) (fun _ _ _ h => h) rfl (Or.inl ⟨by kernel_rfl, fun w hSw => by go_simp⟩) hS ?_)
    (refine take_at8 (i := 5) (d := 32) (v := .bool true) rfl (by kernel_rfl) (by kernel_rfl) (by kernel_rfl) (fun _ _ _ h => h) rfl (Or.inl ⟨by kernel_rfl, fun w hSw => by go_simp⟩) hS ?_)
    (refine take_at8 (i := 6) (d := 33) (v := .bool true) rfl (by kernel_rfl) (by kernel_rfl) (by kernel_rfl) (fun _ _ _ h => h) rfl (Or.inl ⟨by kernel_rfl, fun w hSw => by go_simp⟩) hS ?_)
    (refine take_at8 (i := 7) (d := 34) (v := .int .i64 (k : Int)) rfl (by kernel_rfl) (by kernel_rfl) (by kernel_rfl) (fun _ _ _ h => h) rfl (Or.inl ⟨by kernel_rfl, fun w hSw => by go_simp⟩) hS ?_)
    (refine take_at8 (i := 8) (d := 35) (v := .int .i64 (k : Int)) rfl (by kernel_rfl) (by kernel_rfl) (by kernel_rfl) (fun _ _ _ h => h) rfl (Or.inl ⟨by kernel_rfl, fun w hSw => by go_simp⟩) hS ?_)
    (refine take_at8 (i := 9) (d := 36) (v := .bool false) rfl (by kernel_rfl) (by kernel_rfl) (by kernel_rfl) (fun _ _ _ h => h) rfl (Or.inl ⟨by kernel_rfl, fun w hSw => by go_simp⟩) hS ?_)
    (refine take_at8 (i := 10) (d := 37) (v := .bool false) rfl (by kernel_rfl) (by kernel_rfl) (by kernel_rfl) (fun _ _ _ h => h) rfl (Or.inl ⟨by kernel_rfl, fun w hSw => by go_simp⟩) hS ?_)
    (refine take_at8 (i := 11) (d := 38) (v := .agg fm.cells.toArray) rfl (by kernel_rfl) (by kernel_rfl) (by kernel_rfl) (fun _ _ _ h => h) rfl (Or.inl ⟨by kernel_rfl, fun w hSw => by have hc := hSw.2.1.ldm; go_simp⟩) hS ?_)
    (refine take_at8 (i := 12) (d := 39) (v := .pointer (some ⟨w.heap.size, 1, none⟩)) rfl (by kernel_rfl) (by kernel_rfl) (by kernel_rfl) (fun _ _ _ h => h) rfl (Or.inl ⟨by kernel_rfl, fun w hSw => by go_simp⟩) hS ?_)
    (refine take_at8 (i := 13) (d := 40) (v := .slice (some ⟨g, oo, none⟩) ms.length c) rfl (by kernel_rfl) (by kernel_rfl) (by kernel_rfl) (fun _ _ _ h => h) rfl (Or.inl ⟨by kernel_rfl, fun w hSw => by have hc := (hSw.1).cell 1; go_simp⟩) hS ?_)
    (refine take_at8 (i := 14) (d := 41) (v := .int .i64 (k : Int)) rfl (by kernel_rfl) (by kernel_rfl) (by kernel_rfl) (fun _ _ _ h => h) rfl (Or.inl ⟨by kernel_rfl, fun w hSw => by go_simp⟩) hS ?_)
    (refine take_at8 (i := 15) (d := 42) (v := .pointer (some ⟨g, oo + k * 34, none⟩)) rfl (by kernel_rfl) (by kernel_rfl) (by kernel_rfl) (fun _ _ _ h => h) rfl (Or.inl ⟨by kernel_rfl, fun w hSw => by go_simp⟩) hS ?_)
    (refine take_at8 (i := 16) (d := 43) (v := .agg fm.cells.toArray) rfl (by kernel_rfl) (by kernel_rfl) (by kernel_rfl) (fun _ _ _ h => h) rfl (Or.inl ⟨by kernel_rfl, fun w hSw => by have hc := range_ldm hSw.2.2; go_simp⟩) hS ?_)
    (refine take_at8 (i := 17) (d := 44) (v := .bool false) rfl (by kernel_rfl) (by kernel_rfl) (by kernel_rfl) (fun _ _ _ h => h) rfl (Or.inl ⟨by kernel_rfl, fun w hSw => by have hc := he w; go_simp⟩) hS ?_)
    (refine take_at8 (i := 18) (d := 45) (v := .bool false) rfl (by kernel_rfl) (by kernel_rfl) (by kernel_rfl) (fun _ _ _ h => h) rfl (Or.inl ⟨by kernel_rfl, fun w hSw => by go_simp⟩) hS ?_)
    (refine take_at8 (i := 19) (d := 46) (v := .bool false) rfl (by kernel_rfl) (by kernel_rfl) (by kernel_rfl) (fun _ _ _ h => h) rfl (Or.inl ⟨by kernel_rfl, fun w hSw => by go_simp⟩) hS ?_)
    (refine take_at8 (i := 20) (d := 47) (v := .bool false) rfl (by kernel_rfl) (by kernel_rfl) (by kernel_rfl) (fun _ _ _ h => h) rfl (Or.inl ⟨by kernel_rfl, fun w hSw => by go_simp⟩) hS ?_)
    (refine take_at8 (i := 21) (d := 48) (v := .bool false) rfl (by kernel_rfl) (by kernel_rfl) (by kernel_rfl) (fun _ _ _ h => h) rfl (Or.inl ⟨by kernel_rfl, fun w hSw => by go_simp⟩) hS ?_)
    (refine take_at8 (i := 22) (d := 49) (v := .bool true) rfl (by kernel_rfl) (by kernel_rfl) (by kernel_rfl) (fun _ _ _ h => h) rfl (Or.inl ⟨by kernel_rfl, fun w hSw => by go_simp⟩) hS ?_)
    (refine take_at8 (i := 23) (d := 50) (v := .bool false) rfl (by kernel_rfl) (by kernel_rfl) (by kernel_rfl) (fun _ _ _ h => h) rfl (Or.inl ⟨by kernel_rfl, fun w hSw => by go_simp⟩) hS ?_)
    (refine take_at8 (i := 24) (d := 51) (v := .bool false) rfl (by kernel_rfl) (by kernel_rfl) (by kernel_rfl) (fun _ _ _ h => h) rfl (Or.inl ⟨by kernel_rfl, fun w hSw => by go_simp⟩) hS ?_)
    (refine take_at8 (i := 25) (d := 52) (v := undef) rfl (by kernel_rfl) (by kernel_rfl) (by kernel_rfl) (fun _ _ _ h => h) rfl (Or.inr ⟨by kernel_rfl, rfl⟩) hS ?_)
    (refine take_at8 (i := 26) (d := 53) (v := undef) rfl (by kernel_rfl) (by kernel_rfl) (by kernel_rfl) (fun _ _ _ h => h) rfl (Or.inr ⟨by kernel_rfl, rfl⟩) hS ?_)
    (refine take_at8 (i := 27) (d := 54) (v := undef) rfl (by kernel_rfl) (by kernel_rfl) (by kernel_rfl) (fun _ _ _ h => h) rfl (Or.inr ⟨by kernel_rfl, rfl⟩) hS ?_)
    (refine take_at8 (i := 28) (d := 55) (v := undef) rfl (by kernel_rfl) (by kernel_rfl) (by kernel_rfl) (fun _ _ _ h => h) rfl (Or.inr ⟨by kernel_rfl, rfl⟩) hS ?_)
    (refine take_at8 (i := 29) (d := 56) (v := undef) rfl (by kernel_rfl) (by kernel_rfl) (by kernel_rfl) (fun _ _ _ h => h) rfl (Or.inr ⟨by kernel_rfl, rfl⟩) hS ?_)
    (refine take_at8 (i := 30) (d := 57) (v := undef) rfl (by kernel_rfl) (by kernel_rfl) (by kernel_rfl) (fun _ _ _ h => h) rfl (Or.inr ⟨by kernel_rfl, rfl⟩) hS ?_)
    (refine take_at8 (i := 31) (d := 58) (v := undef) rfl (by kernel_rfl) (by kernel_rfl) (by kernel_rfl) (fun _ _ _ h => h) rfl (Or.inr ⟨by kernel_rfl, rfl⟩) hS ?_)
    (refine take_at8 (i := 32) (d := 59) (v := .bool false) rfl (by kernel_rfl) (by kernel_rfl) (by kernel_rfl) (fun _ _ _ h => h) rfl (Or.inl ⟨by kernel_rfl, fun w hSw => by go_simp⟩) hS ?_)
    (refine take_at8 (i := 33) (d := 60) (v := .bool false) rfl (by kernel_rfl) (by kernel_rfl) (by kernel_rfl) (fun _ _ _ h => h) rfl (Or.inl ⟨by kernel_rfl, fun w hSw => by go_simp⟩) hS ?_)
    refine wpAnyH_done (by kernel_rfl) ?_ _
    clear hS
    go_simp
    go_upto_region 10 with fail
    generalize w5.drew = w6 at *
    have c0 := fun (d : Nat) (os : Array Obj) => cell_regrown (HX6.out.cell 0 : w6.cell? ⟨w.heap.size, 0, none⟩ = some (.int .i64 ep)) d os
    have c1 := fun (d : Nat) (os : Array Obj) => cell_regrown (HX6.out.cell 1 : w6.cell? ⟨w.heap.size, 1, none⟩ = some (.slice (some ⟨g, oo, none⟩) ms.length c)) d os
    have QG := Lib.hid (fun (d : Nat) (os : Array Obj) => Calls.regrown_of (good_any8 ms ep (some ⟨g, oo, none⟩) c HM.out (grow (redrawn w6 d) os) (HS6.out.far (below_regrown w6 d os))))
    have QR := Lib.hid (fun (d : Nat) (os : Array Obj) => Calls.regrown_of (rgood_any8 ms ep (some ⟨g, oo, none⟩) c HM.out (grow (redrawn w6 d) os) (HS6.out.far (below_regrown w6 d os))))
    have QF := Lib.hid (fun (d : Nat) (os : Array Obj) => Calls.regrown_of (faults_any ep (some ⟨g, oo, none⟩) ms.length c HN.out (grow (redrawn w6 d) os)))
    have QQ := Lib.hid (fun (d : Nat) (os : Array Obj) => Calls.regrown_of (quorum_any ep (some ⟨g, oo, none⟩) ms.length c (by have := HL.out; omega) (grow (redrawn w6 d) os)))
    have QW := Lib.hid (fun (d : Nat) (os : Array Obj) => Calls.regrown_of (weak_any ep (some ⟨g, oo, none⟩) ms.length c (by have := HL.out; omega) (grow (redrawn w6 d) os)))
    have QD := Lib.hid (fun (d : Nat) (os : Array Obj) => Calls.regrown_of ((rfaults_any ms.length (by have := HL.out; omega) (grow (redrawn w6 d) os)).mono fun e w' ⟨a, b⟩ => ⟨a, by rw [← b]; exact Below.refl _ _⟩))
    have QE := Lib.hid (fun (d : Nat) (os : Array Obj) => Calls.regrown_of ((rquorum_any ms.length (by have := HL.out; omega) (grow (redrawn w6 d) os)).mono fun e w' ⟨a, b⟩ => ⟨a, by rw [← b]; exact Below.refl _ _⟩))
    have hf1 : faultsN ms.length ≤ 1024 := by unfold faultsN; have := HL.out; omega
    have hw1 : IntKind.i64.wrap (((faultsN ms.length : Nat) : Int) + 1) = ((faultsN ms.length + 1 : Nat) : Int) := by rw [IntKind.wrap_i64]; omega
    generalize faultsN ms.length + 1 = f1 at *
    generalize faultsN ms.length = f at *
    generalize quorumN ms.length = q at *
    generalize goodB ep ms = gd at *
    refine wp_region_quiet_below (by kernel_rfl) (by kernel_rfl) ?_
    repeat (quiet_step (first
      | (go_at_call 12; with_reducible exact QG.out _ _)
      | (go_at_call 13; with_reducible exact QR.out _ _)
      | (go_at_call 14; with_reducible exact QF.out _ _)
      | (go_at_call 15; with_reducible exact QD.out _ _)
      | (go_at_call 16; with_reducible exact QQ.out _ _)
      | (go_at_call 17; with_reducible exact QE.out _ _)
      | (go_at_call 18; with_reducible exact QW.out _ _)))
    refine wpQuiet_nil ?_
    intro _ hw'
    obtain ⟨⟨dq, osq⟩, hw''⟩ := hw'
    subst hw''
    clear c0 c1 hw1
    go_wp2
    go_ret
    exact ⟨rfl, HF6.out.trans ((below_regrown w6 dq osq).mono HF6.out.size)⟩
  · obtain ⟨e1, e2, e3, e4⟩ := find_not h
    rw [e2, e3, e4]
    have hz : fm = zmem := by rw [← hfm, e1]
    have hbd : ∀ w, (bdMem #[]).run Try.prog w = .ok (.agg fm.cells.toArray) w := by
      rw [hz]
      exact bd_none
    have hX5 := HX5.out.drew
    have hY5 := HY5.out.drew
    refine wp_region_held_drew (S := fun w' => Box w' w.heap.size 24 (cfgV ep A ms.length c) ∧ Box w' gm 31 fm.cells.toArray) (by kernel_rfl) ⟨hX5, hY5⟩ (fun hS => ?_)
    clear hX5 hY5 e1 e2 e3 e4 hfm h hz
    (refine take_at8 (i := 0) (d := 27) (v := .bool false) rfl (by kernel_rfl) (by kernel_rfl) (by kernel_rfl) (fun _ _ _ h => h) rfl (Or.inl ⟨by kernel_rfl, fun w hSw => by go_simp⟩) hS ?_)
    (refine take_at8 (i := 1) (d := 28) (v := .int .i64 (-1)) rfl (by kernel_rfl) (by kernel_rfl) (by kernel_rfl) (fun _ _ _ h => h) rfl (Or.inl ⟨by kernel_rfl, fun w hSw => by go_simp⟩) hS ?_)
    (refine take_at8 (i := 2) (d := 29) (v := .bool false) rfl (by kernel_rfl) (by kernel_rfl) (by kernel_rfl) (fun _ _ _ h => h) rfl (Or.inl ⟨by kernel_rfl, fun w hSw => by go_simp⟩) hS ?_)
    (refine take_at8 (i := 3) (d := 30) (v := .bool false) rfl (by kernel_rfl) (by kernel_rfl) (by kernel_rfl) (fun _ _ _ h => h) rfl (Or.inl ⟨by kernel_rfl, fun w hSw => by go_simp⟩) hS ?_)
    (refine take_at8 (i := 4) (d := 31) (v := .bool false) rfl (by kernel_rfl) (by kernel_rfl) (by kernel_rfl) (fun _ _ _ h => h) rfl (Or.inl ⟨by kernel_rfl, fun w hSw => by go_simp⟩) hS ?_)
    (refine take_at8 (i := 5) (d := 32) (v := .bool false) rfl (by kernel_rfl) (by kernel_rfl) (by kernel_rfl) (fun _ _ _ h => h) rfl (Or.inl ⟨by kernel_rfl, fun w hSw => by go_simp⟩) hS ?_)
    (refine take_at8 (i := 6) (d := 33) (v := .bool false) rfl (by kernel_rfl) (by kernel_rfl) (by kernel_rfl) (fun _ _ _ h => h) rfl (Or.inl ⟨by kernel_rfl, fun w hSw => by go_simp⟩) hS ?_)
    (refine take_at8 (i := 7) (d := 34) (v := undef) rfl (by kernel_rfl) (by kernel_rfl) (by kernel_rfl) (fun _ _ _ h => h) rfl (Or.inr ⟨by kernel_rfl, rfl⟩) hS ?_)
    (refine take_at8 (i := 8) (d := 35) (v := undef) rfl (by kernel_rfl) (by kernel_rfl) (by kernel_rfl) (fun _ _ _ h => h) rfl (Or.inr ⟨by kernel_rfl, rfl⟩) hS ?_)
    (refine take_at8 (i := 9) (d := 36) (v := undef) rfl (by kernel_rfl) (by kernel_rfl) (by kernel_rfl) (fun _ _ _ h => h) rfl (Or.inr ⟨by kernel_rfl, rfl⟩) hS ?_)
    (refine take_at8 (i := 10) (d := 37) (v := undef) rfl (by kernel_rfl) (by kernel_rfl) (by kernel_rfl) (fun _ _ _ h => h) rfl (Or.inr ⟨by kernel_rfl, rfl⟩) hS ?_)
    (refine take_at8 (i := 11) (d := 38) (v := undef) rfl (by kernel_rfl) (by kernel_rfl) (by kernel_rfl) (fun _ _ _ h => h) rfl (Or.inr ⟨by kernel_rfl, rfl⟩) hS ?_)
    (refine take_at8 (i := 12) (d := 39) (v := undef) rfl (by kernel_rfl) (by kernel_rfl) (by kernel_rfl) (fun _ _ _ h => h) rfl (Or.inr ⟨by kernel_rfl, rfl⟩) hS ?_)
    (refine take_at8 (i := 13) (d := 40) (v := undef) rfl (by kernel_rfl) (by kernel_rfl) (by kernel_rfl) (fun _ _ _ h => h) rfl (Or.inr ⟨by kernel_rfl, rfl⟩) hS ?_)
    (refine take_at8 (i := 14) (d := 41) (v := undef) rfl (by kernel_rfl) (by kernel_rfl) (by kernel_rfl) (fun _ _ _ h => h) rfl (Or.inr ⟨by kernel_rfl, rfl⟩) hS ?_)
    (refine take_at8 (i := 15) (d := 42) (v := undef) rfl (by kernel_rfl) (by kernel_rfl) (by kernel_rfl) (fun _ _ _ h => h) rfl (Or.inr ⟨by kernel_rfl, rfl⟩) hS ?_)
    (refine take_at8 (i := 16) (d := 43) (v := undef) rfl (by kernel_rfl) (by kernel_rfl) (by kernel_rfl) (fun _ _ _ h => h) rfl (Or.inr ⟨by kernel_rfl, rfl⟩) hS ?_)
    (refine take_at8 (i := 17) (d := 44) (v := undef) rfl (by kernel_rfl) (by kernel_rfl) (by kernel_rfl) (fun _ _ _ h => h) rfl (Or.inr ⟨by kernel_rfl, rfl⟩) hS ?_)
    (refine take_at8 (i := 18) (d := 45) (v := undef) rfl (by kernel_rfl) (by kernel_rfl) (by kernel_rfl) (fun _ _ _ h => h) rfl (Or.inr ⟨by kernel_rfl, rfl⟩) hS ?_)
    (refine take_at8 (i := 19) (d := 46) (v := .bool false) rfl (by kernel_rfl) (by kernel_rfl) (by kernel_rfl) (fun _ _ _ h => h) rfl (Or.inl ⟨by kernel_rfl, fun w hSw => by go_simp⟩) hS ?_)
    (refine take_at8 (i := 20) (d := 47) (v := .bool false) rfl (by kernel_rfl) (by kernel_rfl) (by kernel_rfl) (fun _ _ _ h => h) rfl (Or.inl ⟨by kernel_rfl, fun w hSw => by go_simp⟩) hS ?_)
    (refine take_at8 (i := 21) (d := 48) (v := .bool false) rfl (by kernel_rfl) (by kernel_rfl) (by kernel_rfl) (fun _ _ _ h => h) rfl (Or.inl ⟨by kernel_rfl, fun w hSw => by go_simp⟩) hS ?_)
    (refine take_at8 (i := 22) (d := 49) (v := .bool false) rfl (by kernel_rfl) (by kernel_rfl) (by kernel_rfl) (fun _ _ _ h => h) rfl (Or.inl ⟨by kernel_rfl, fun w hSw => by go_simp⟩) hS ?_)
    (refine take_at8 (i := 23) (d := 50) (v := .bool true) rfl (by kernel_rfl) (by kernel_rfl) (by kernel_rfl) (fun _ _ _ h => h) rfl (Or.inl ⟨by kernel_rfl, fun w hSw => by go_simp⟩) hS ?_)
    (refine take_at8 (i := 24) (d := 51) (v := .bool true) rfl (by kernel_rfl) (by kernel_rfl) (by kernel_rfl) (fun _ _ _ h => h) rfl (Or.inl ⟨by kernel_rfl, fun w hSw => by go_simp⟩) hS ?_)
    (refine take_at8 (i := 25) (d := 52) (v := .int .i64 0) rfl (by kernel_rfl) (by kernel_rfl) (by kernel_rfl) (fun _ _ _ h => h) rfl (Or.inl ⟨by kernel_rfl, fun w hSw => by go_simp⟩) hS ?_)
    (refine take_at8 (i := 26) (d := 53) (v := .bool false) rfl (by kernel_rfl) (by kernel_rfl) (by kernel_rfl) (fun _ _ _ h => h) rfl (Or.inl ⟨by kernel_rfl, fun w hSw => by go_simp⟩) hS ?_)
    (refine take_at8 (i := 27) (d := 54) (v := .bool false) rfl (by kernel_rfl) (by kernel_rfl) (by kernel_rfl) (fun _ _ _ h => h) rfl (Or.inl ⟨by kernel_rfl, fun w hSw => by go_simp⟩) hS ?_)
    (refine take_at8 (i := 28) (d := 55) (v := .agg fm.cells.toArray) rfl (by kernel_rfl) (by kernel_rfl) (by kernel_rfl) (fun _ _ _ h => h) rfl (Or.inl ⟨by kernel_rfl, fun w hSw => by have hc := hSw.2.ldm; go_simp⟩) hS ?_)
    (refine take_at8 (i := 29) (d := 56) (v := .agg fm.cells.toArray) rfl (by kernel_rfl) (by kernel_rfl) (by kernel_rfl) (fun _ _ _ h => h) rfl (Or.inl ⟨by kernel_rfl, fun w hSw => by have hc := hbd w; go_simp⟩) hS ?_)
    (refine take_at8 (i := 30) (d := 57) (v := .bool false) rfl (by kernel_rfl) (by kernel_rfl) (by kernel_rfl) (fun _ _ _ h => h) rfl (Or.inl ⟨by kernel_rfl, fun w hSw => by have hc := he w; go_simp⟩) hS ?_)
    (refine take_at8 (i := 31) (d := 58) (v := .bool false) rfl (by kernel_rfl) (by kernel_rfl) (by kernel_rfl) (fun _ _ _ h => h) rfl (Or.inl ⟨by kernel_rfl, fun w hSw => by go_simp⟩) hS ?_)
    (refine take_at8 (i := 32) (d := 59) (v := .bool false) rfl (by kernel_rfl) (by kernel_rfl) (by kernel_rfl) (fun _ _ _ h => h) rfl (Or.inl ⟨by kernel_rfl, fun w hSw => by go_simp⟩) hS ?_)
    (refine take_at8 (i := 33) (d := 60) (v := .bool false) rfl (by kernel_rfl) (by kernel_rfl) (by kernel_rfl) (fun _ _ _ h => h) rfl (Or.inl ⟨by kernel_rfl, fun w hSw => by go_simp⟩) hS ?_)
    refine wpAnyH_done (by kernel_rfl) ?_ _
    clear hS
    go_simp
    go_upto_region 10 with fail
    generalize w5.drew = w6 at *
    have c0 := fun (d : Nat) (os : Array Obj) => cell_regrown (HX6.out.cell 0 : w6.cell? ⟨w.heap.size, 0, none⟩ = some (.int .i64 ep)) d os
    have c1 := fun (d : Nat) (os : Array Obj) => cell_regrown (HX6.out.cell 1 : w6.cell? ⟨w.heap.size, 1, none⟩ = some (.slice A ms.length c)) d os
    have QG := Lib.hid (fun (d : Nat) (os : Array Obj) => Calls.regrown_of (good_any8 ms ep A c HM.out (grow (redrawn w6 d) os) (HS6.out.far (below_regrown w6 d os))))
    have QR := Lib.hid (fun (d : Nat) (os : Array Obj) => Calls.regrown_of (rgood_any8 ms ep A c HM.out (grow (redrawn w6 d) os) (HS6.out.far (below_regrown w6 d os))))
    have QF := Lib.hid (fun (d : Nat) (os : Array Obj) => Calls.regrown_of (faults_any ep A ms.length c HN.out (grow (redrawn w6 d) os)))
    have QQ := Lib.hid (fun (d : Nat) (os : Array Obj) => Calls.regrown_of (quorum_any ep A ms.length c (by have := HL.out; omega) (grow (redrawn w6 d) os)))
    have QW := Lib.hid (fun (d : Nat) (os : Array Obj) => Calls.regrown_of (weak_any ep A ms.length c (by have := HL.out; omega) (grow (redrawn w6 d) os)))
    have QD := Lib.hid (fun (d : Nat) (os : Array Obj) => Calls.regrown_of ((rfaults_any ms.length (by have := HL.out; omega) (grow (redrawn w6 d) os)).mono fun e w' ⟨a, b⟩ => ⟨a, by rw [← b]; exact Below.refl _ _⟩))
    have QE := Lib.hid (fun (d : Nat) (os : Array Obj) => Calls.regrown_of ((rquorum_any ms.length (by have := HL.out; omega) (grow (redrawn w6 d) os)).mono fun e w' ⟨a, b⟩ => ⟨a, by rw [← b]; exact Below.refl _ _⟩))
    have hf1 : faultsN ms.length ≤ 1024 := by unfold faultsN; have := HL.out; omega
    have hw1 : IntKind.i64.wrap (((faultsN ms.length : Nat) : Int) + 1) = ((faultsN ms.length + 1 : Nat) : Int) := by rw [IntKind.wrap_i64]; omega
    generalize faultsN ms.length + 1 = f1 at *
    generalize faultsN ms.length = f at *
    generalize quorumN ms.length = q at *
    generalize goodB ep ms = gd at *
    refine wp_region_quiet_below (by kernel_rfl) (by kernel_rfl) ?_
    repeat (quiet_step (first
      | (go_at_call 12; with_reducible exact QG.out _ _)
      | (go_at_call 13; with_reducible exact QR.out _ _)
      | (go_at_call 14; with_reducible exact QF.out _ _)
      | (go_at_call 15; with_reducible exact QD.out _ _)
      | (go_at_call 16; with_reducible exact QQ.out _ _)
      | (go_at_call 17; with_reducible exact QE.out _ _)
      | (go_at_call 18; with_reducible exact QW.out _ _)))
    refine wpQuiet_nil ?_
    intro _ hw'
    obtain ⟨⟨dq, osq⟩, hw''⟩ := hw'
    subst hw''
    clear c0 c1 hw1
    go_wp2
    go_ret
    exact ⟨rfl, HF6.out.trans ((below_regrown w6 dq osq).mono HF6.out.size)⟩
end Go.Proofs.Ytloaidahlagmiaa
