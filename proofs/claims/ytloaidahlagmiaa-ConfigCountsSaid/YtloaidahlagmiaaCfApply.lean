/-
  config.behind and config.Apply.
-/
import Derived.Test.YtloaidahlagmiaaCfRefusal
import Derived.Deep.RegionHeld3
namespace Go.Proofs.Ytloaidahlagmiaa
open Go.RowKit Go.Sort

/-- The members behind a change, in no order yet. -/
def nextM (ms : List MemX) (k i n : Int) (r : List UInt8) (h : Int) (hr : r.length = 32) : List MemX := dropId i ms ++ (if k = 2 then [] else [comerX k i n r h hr])
set_option maxRecDepth 100000 in
theorem OwnM.base {w : World} {B B' : Nat} {v : Value} {ms : List MemX} (h : OwnM w B v ms) (hB : B' ≤ B) : OwnM w B' v ms := by
  refine ⟨h.1, ?_⟩
  rcases h.2 with h1 | ⟨g, cap, cur, h1, h2, h3⟩
  · exact .inl h1
  · exact .inr ⟨g, cap, cur, h1, Nat.le_trans hB h2, h3⟩
set_option maxRecDepth 100000 in
theorem OwnM.keep {w w' : World} {B : Nat} {v : Value} {ms : List MemX} (h : OwnM w B v ms) (hb : Below w.heap.size w w') : OwnM w' B v ms :=
  World.ownsRow.kept h (only_below hb none) (by cases v.ownBlock <;> simp)
/-- Behind a change: sorted, of these. -/
structure Behind (ms : List MemX) (k i n : Int) (r : List UInt8) (h : Int) (hr : r.length = 32) (ys : List MemX) : Prop where
  perm : ys.Perm (nextM ms k i n r h hr)
  sorted : SortedM ys

attribute [local go_sem ↓] ldMem_def stMem_def eqMem_def bdMem_def bsMem_def clMem_def apAll_def ldChg_def ldKy_def

def BehindIs (ms : List MemX) (k i n : Int) (r : List UInt8) (h : Int) (hr : r.length = 32) (w : World) (e : Ending) (w' : World) : Prop :=
  ∃ A' c' ys, e = .returned (.slice A' ys.length c') ∧ Behind ms k i n r h hr ys ∧ OwnM w' w.heap.size (.slice A' ys.length c') ys ∧ Below w.heap.size w w'

set_option maxRecDepth 100000 in
set_option maxHeartbeats 4000000 in
theorem behind_any (ep : Int) (ms : List MemX) (A : Option Addr) (c : Nat) (hn : ms.length ≤ 10) (k i n : Int) (r : List UInt8) (h : Int) (hr : r.length = 32) (w : World) (hS : Mems w w.heap.size A ms) :
    Calls Try.prog 28 #[.agg (cfgV ep A ms.length c), chgV k i n r h] w (BehindIs ms k i n r h hr w) := by
  obtain ⟨w1, hw1⟩ : ∃ w1, w1 = (w.alloc (.cells (cfgV ep A ms.length c) 24)).alloc (.cells (chgL k i n r h).toArray 43) := ⟨_, rfl⟩
  have HX : Hid (Box w1 w.heap.size 24 (cfgV ep A ms.length c)) := by
    rw [hw1]
    exact (Box.made w _ _).alloc _
  have HY : Hid (Box w1 (w.heap.size + 1) 43 (chgL k i n r h).toArray) := by
    rw [hw1]
    exact Box.made_at (by simp) _ _
  have HF : Hid (Below w.heap.size w w1) := by
    rw [hw1]
    exact ((Below.refl _ _).alloc (Nat.le_refl _) _).alloc (by simp) _
  have HCX : Hid (∀ w', Below w1.heap.size w1 w' → w'.cell? ⟨w.heap.size, 1, none⟩ = some (.slice A ms.length c) ∧ w'.cell? ⟨w.heap.size + 1, 0, none⟩ = some (.int .i64 k) ∧ w'.cell? ⟨w.heap.size + 1, 1, none⟩ = some (.int .i64 i) ∧ (ldChg (.pointer (some ⟨w.heap.size + 1, 0, none⟩))).run Try.prog w' = .ok (chgV k i n r h) w') := Lib.hid (fun w' hb => by
    have hx := HX.out.below hb HX.out.lt
    have hy := HY.out.below hb HY.out.lt
    exact ⟨hx.cell 1, hy.cell 0, hy.cell 1, ld_chg hr hy⟩)
  have HBL : Hid (w.heap.size + 1 < w1.heap.size) := Lib.hid HY.out.lt
  have HCL := Lib.hid (clone_any ms A c (by omega) w1 (hS.far HF.out))
  have HCM : Hid (∀ w', Calls Try.prog 29 #[chgV k i n r h] w' fun e w'' => e = .returned (comerX k i n r h hr).enc ∧ Below w'.heap.size w' w'') := Lib.hid (fun w' => comer_any k i n r h hr w')
  have HN := Lib.hid hn
  have HR := Lib.hid hr
  obtain ⟨c1, d0, d1, lc⟩ := HCX.out w1 (Below.refl _ _)
  clear hS hn HX HY
  go_enter Try.func28, Try.ntmps28
  go_upto_region 1 with fail
  change Code.wp _ _ _ _ ((w.alloc (.cells (cfgV ep A ms.length c) 24)).alloc (.cells (chgL k i n r h).toArray 43))
  rw [← hw1]
  clear hw1
  go_upto_region 2 with (go_at_call 31; (with_reducible refine (HCL.out).mono ?_); rintro e w2 ⟨A2, c2, rfl, ho2, hb2⟩; have HO2 := Lib.hid ho2; have HB2 := Lib.hid hb2; clear ho2 hb2)
  clear c1 d0 d1 lc HCL
  have HDL := Lib.hid (delete_any ms A2 c2 (Nat.le_trans HN.out (by decide)) i (w.heap.size + 1) w1.heap.size w2 HO2.out HB2.out.size HBL.out (HCX.out w2 HB2.out).2.2.1)
  go_upto_region 3 with (go_at_call 32; (with_reducible refine (HDL.out).mono ?_); rintro e w3 ⟨A3, c3, rfl, ho3, hb3⟩; have HO3 := Lib.hid ho3; have HB3 : Hid (Below w1.heap.size w1 w3) := Lib.hid (HB2.out.trans hb3); clear ho3 hb3)
  clear HDL HO2
  have HDN : Hid ((dropId i ms).length ≤ 10) := Lib.hid (Nat.le_trans (dropId_le i ms) HN.out)
  obtain ⟨c1, d0, d1, lc⟩ := HCX.out w3 HB3.out
  by_cases hk : k = 2
  · have e1 : (k != 2) = false := by simpa using hk
    have HNX : Hid (nextM ms k i n r h hr = dropId i ms) := Lib.hid (by unfold nextM; rw [if_pos hk, List.append_nil])
    have HSR := Lib.hid (sort_mems (dropId i ms) w1.heap.size _ w3 HO3.out (by have := HDN.out; omega))
    clear hk
    go_wp2_with (go_at_call 34; (with_reducible refine (HSR.out).mono ?_); rintro e w4 ⟨rfl, ys, hp, hs, ho4, hg4⟩; have HP := Lib.hid hp; have HPS := Lib.hid hs; have HO4 := Lib.hid ho4; have HB4 : Hid (Below w1.heap.size w1 w4) := Lib.hid (HB3.out.trans (below_own HO3.out hg4 HB3.out.size)); clear hp hs ho4 hg4)
    go_ret
    have hlen := HP.out.length_eq
    refine ⟨A3, c3, ys, by rw [hlen]; rfl, ⟨by rw [HNX.out]; exact HP.out, HPS.out⟩, ?_, HF.out.trans (HB4.out.mono HF.out.size)⟩
    rw [hlen]
    exact HO4.out.base HF.out.size
  · have e1 : (k != 2) = true := by simpa using hk
    have HNX : Hid (nextM ms k i n r h hr = dropId i ms ++ [comerX k i n r h hr]) := Lib.hid (by unfold nextM; rw [if_neg hk])
    clear hk
    unfold MemX.enc at HCM
    generalize comerX k i n r h hr = cm at *
    go_upto_region 5 with (go_at_call 29; (with_reducible refine (HCM.out _).mono ?_); rintro e w4 ⟨rfl, hb4⟩; have HB4 := Lib.hid hb4; have hbs := build_mem1 cm w4; obtain ⟨v5, w5, hap, ho5, hg5⟩ := append_mems rfl ((HO3.out.keep hb4).alloc (.cells cm.cells.toArray 31)) (A := some ⟨w4.heap.size, 0, none⟩) (m := 1) (c := 1) (es := [cm]) rfl (mems_one w4 cm) (by have := HDN.out; omega) (by have h1 := HB3.out.size; have h2 := hb4.size; simp; omega); obtain ⟨A5, c5, rfl⟩ := ho5.slice; have HO5 := Lib.hid ho5; have HB5 : Hid (Below w1.heap.size w1 w5) := Lib.hid ((HB3.out.trans ((hb4.mono HB3.out.size).alloc (by have h1 := HB3.out.size; have h2 := hb4.size; omega) (.cells cm.cells.toArray 31))).trans (below_own ((HO3.out.keep hb4).alloc (.cells cm.cells.toArray 31)) hg5 (by have h1 := HB3.out.size; have h2 := hb4.size; simp; omega))); clear ho5 hg5 hb4)
    have HSR : Hid (Calls Try.prog 34 #[.slice A5 ((dropId i ms).length + 1) c5, .func (.func 35) #[] #[]] w5 fun e w' => e = .returned (.tuple #[]) ∧ ∃ ys : List MemX, ys.Perm (dropId i ms ++ [cm]) ∧ SortedM ys ∧ OwnM w' w1.heap.size (.slice A5 ((dropId i ms).length + 1) c5) ys ∧ w5.grownBy w' (Value.slice A5 ((dropId i ms).length + 1) c5).ownBlock) := Lib.hid (by
      have hl : (dropId i ms ++ [cm]).length = (dropId i ms).length + 1 := by simp
      have h5 := HO5.out
      rw [hl] at h5
      exact sort_mems (dropId i ms ++ [cm]) w1.heap.size _ w5 h5 (by rw [hl]; have := HDN.out; omega))
    clear hap hbs HO5 c1 d0 d1 lc
    go_wp2_with (go_at_call 34; (with_reducible refine (HSR.out).mono ?_); rintro e w6 ⟨rfl, ys, hp, hs, ho6, hg6⟩; have HP := Lib.hid hp; have HPS := Lib.hid hs; have HO6 := Lib.hid ho6; have HB6 := Lib.hid hg6; clear hp hs ho6 hg6)
    go_ret
    have hlen : ys.length = (dropId i ms).length + 1 := by rw [HP.out.length_eq]; simp
    have ho5 := HO6.out
    have hg : Below w1.heap.size w5 w6 := ⟨HB6.out.os, HB6.out.tape, HB6.out.output, HB6.out.size, fun b hb => HB6.out.block b (Nat.lt_of_lt_of_le hb HB5.out.size) (fun e => by
      have := (ho5.lt b e.symm).1
      omega)⟩
    refine ⟨A5, c5, ys, by rw [hlen]; rfl, ⟨by rw [HNX.out]; exact HP.out, HPS.out⟩, ?_, HF.out.trans ((HB5.out.trans hg).mono HF.out.size)⟩
    rw [hlen]
    exact HO6.out.base HF.out.size

set_option maxRecDepth 100000 in
theorem cfg_list (ep : Int) (A : Option Addr) (n c : Nat) : (Try.prog.info? 24).map (·.size) = some ([.int .i64 ep, .slice A n c] : List Value).length := by
  show _ = some 2
  kernel_rfl
set_option maxRecDepth 100000 in
theorem cfg_one (ep : Int) (A : Option Addr) (n c : Nat) : ∀ v ∈ ([.int .i64 ep, .slice A n c] : List Value), v.oneCell' = true := by
  intro v hv
  simp only [List.mem_cons, List.not_mem_nil, or_false] at hv
  rcases hv with rfl | rfl <;> rfl
noncomputable def ldCfg (v : Value) : Sem Value := Instr.loadAt 24 v
set_option maxRecDepth 100000 in
theorem ldCfg_def (v : Value) : Instr.loadAt 24 v = ldCfg v := rfl
noncomputable def stCfg (p v : Value) : Sem Unit := Instr.storeAt 24 p v
set_option maxRecDepth 100000 in
theorem stCfg_def (p v : Value) : Instr.storeAt 24 p v = stCfg p v := rfl
set_option maxRecDepth 100000 in
theorem Box.ld_cfg {w : World} {g : Nat} {t : TypeId} {ep : Int} {A : Option Addr} {n c : Nat} (h : Box w g t (cfgV ep A n c)) : (ldCfg (.pointer (some ⟨g, 0, none⟩))).run Try.prog w = .ok (.agg (cfgV ep A n c)) w :=
  run_loadAt_mid (P := Try.prog) w g 0 24 [.int .i64 ep, .slice A n c] _ (Box.range h) Try.underlying24 rfl (cfg_list ep A n c)
set_option maxRecDepth 100000 in
theorem Box.st_cfg {w : World} {g : Nat} {t : TypeId} {cs : Array Value} (h : Box w g t cs) (hs : cs.size = 2) (ep : Int) (A : Option Addr) (n c : Nat) :
    ∃ w', (stCfg (.pointer (some ⟨g, 0, none⟩)) (.agg (cfgV ep A n c))).run Try.prog w = .ok () w' ∧ Box w' g t (cfgV ep A n c) ∧ w.grownBy w' (some g) := by
  refine ⟨w.setCells g 0 [.int .i64 ep, .slice A n c], ?_, h.cells_all (cfgV ep A n c) (by rw [hs]; rfl), only_cells (g := g) _ 0 _⟩
  exact run_storeAt_mid (P := Try.prog) _ g 0 24 (cfgV ep A n c) (fun j hj => by
    have hj' : j < 2 := hj
    rw [h.cell, h.free, Array.getElem?_eq_getElem (by omega)]
    exact ⟨rfl, rfl⟩) (cfg_size ep A n c) (by
    have := all_oneCell_toArray (cfg_one ep A n c)
    simpa using this)
set_option maxRecDepth 100000 in
/-- A block is laid for a configuration, and the configuration is stored there. -/
theorem laid_cfg (w : World) (ep : Int) (A : Option Addr) (n c : Nat) : ∃ w', (stCfg (.pointer (some ⟨w.heap.size, 0, none⟩)) (.agg (cfgV ep A n c))).run Try.prog (w.alloc (.cells (cfgV 0 none 0 0) 24)) = .ok () w' ∧ Box w' w.heap.size 24 (cfgV ep A n c) ∧ Below w.heap.size w w' := by
  obtain ⟨w', h1, h2, h3⟩ := (Box.made w 24 (cfgV 0 none 0 0)).st_cfg rfl ep A n c
  exact ⟨w', h1, h2, ((Below.refl _ _).alloc (Nat.le_refl _) _).trans (below_only h3 (Nat.le_refl _) (by simp))⟩

attribute [local go_sem ↓] ldCfg_def stCfg_def
set_option maxRecDepth 100000 in
set_option maxHeartbeats 2000000 in
theorem apply_not (ep : Int) (ms : List MemX) (A : Option Addr) (c : Nat) (hn : ms.length ≤ maxLen) (k i n : Int) (r : List UInt8) (h : Int) (hr : r.length = 32) (he : errC ep ms k i n h ≠ 0) (w : World) (hS : Mems w w.heap.size A ms) :
    Calls Try.prog 19 #[.agg (cfgV ep A ms.length c), chgV k i n r h] w fun e w' => e = .returned (.tuple #[.agg (cfgV 0 none 0 0), .int .i64 (errC ep ms k i n h)]) ∧ Below w.heap.size w w' := by
  obtain ⟨w1, hw1⟩ : ∃ w1, w1 = ((w.alloc (.cells (cfgV ep A ms.length c) 24)).alloc (.cells (chgL k i n r h).toArray 43)).alloc (.cells (cfgV 0 none 0 0) 24) := ⟨_, rfl⟩
  have HX : Hid (Box w1 w.heap.size 24 (cfgV ep A ms.length c)) := by
    rw [hw1]
    exact ((Box.made w _ _).alloc _).alloc _
  have HY : Hid (Box w1 (w.heap.size + 1) 43 (chgL k i n r h).toArray) := by
    rw [hw1]
    exact (Box.made_at (by simp) _ _).alloc _
  have HZ : Hid (Box w1 (w.heap.size + 1 + 1) 24 (cfgV 0 none 0 0)) := by
    rw [hw1]
    exact Box.made_at (by simp) _ _
  have HF : Hid (Below w.heap.size w w1) := by
    rw [hw1]
    exact (((Below.refl _ _).alloc (Nat.le_refl _) _).alloc (by simp) _).alloc (by simp; omega) _
  have HRF := Lib.hid (refusal_any ep ms A c hn k i n r h hr w1 (hS.far HF.out))
  have l1 := HX.out.ld_cfg
  have l2 := ld_chg hr HY.out
  generalize errC ep ms k i n h = er at *
  have e1 : (er != 0) = true := by simpa using he
  clear hS hn he HX HY
  go_enter Try.func19, Try.ntmps19
  go_upto_region 1 with fail
  change Code.wp _ _ _ _ (((w.alloc (.cells (cfgV ep A ms.length c) 24)).alloc (.cells (chgL k i n r h).toArray 43)).alloc (.cells (cfgV 0 none 0 0) 24))
  rw [← hw1]
  clear hw1
  go_wp2_with (go_at_call 27; (with_reducible refine (HRF.out).mono ?_); rintro e w2 ⟨rfl, hb2⟩; have HB2 := Lib.hid hb2; obtain ⟨w3, hst, hb3, hg3⟩ := (HZ.out.below hb2 HZ.out.lt).st_cfg rfl 0 none 0 0; have HB3 := Lib.hid hb3; have HG3 : Hid (Below w.heap.size w w3) := Lib.hid ((HF.out.trans (hb2.mono HF.out.size)).trans (below_only hg3 (by omega) (HF.out.trans (hb2.mono HF.out.size)).size)); clear hb2 hb3 hg3)
  exact ret_cfg2 rfl rfl rfl rfl HB3.out ⟨rfl, HG3.out⟩

set_option maxRecDepth 100000 in
theorem err0 {ep : Int} {ms : List MemX} {k i n h : Int} (he : errC ep ms k i n h = 0) : goodB ep ms = true ∧ ep ≠ 1073741824 ∧ (k = 1 ∨ k = 2 ∨ k = 3 ∨ k = 4) ∧ (k = 2 ∨ fitsB (cid k i n) h = true) ∧ (k = 1 ∨ hasB ms i = true) ∧ (k = 2 ∨ k = 4 ∨ hasB ms (cid k i n) = false) ∧ (k = 1 → ms.length ≠ 10) ∧ (k = 2 → ms.length ≠ 1) := by
  unfold errC at he
  split at he
  · cases he
  rename_i h1
  split at he
  · cases he
  rename_i h2
  split at he
  · cases he
  rename_i h3
  split at he
  · cases he
  rename_i h4
  split at he
  · cases he
  rename_i h5
  split at he
  · cases he
  rename_i h6
  simp only [Bool.or_eq_true, Bool.not_eq_true', decide_eq_true_eq, not_or, Bool.not_eq_false, Bool.and_eq_true, not_and, decide_eq_false_iff_not] at h1 h2 h3 h4 h5 h6
  obtain ⟨g1, g2, g3⟩ := h1
  unfold inB at g3
  simp only [Bool.and_eq_true, decide_eq_true_eq] at g3
  refine ⟨g1, g2, by omega, ?_, ?_, ?_, h5, h6⟩
  · by_cases e : k = 2
    · exact .inl e
    · exact .inr (h2 e)
  · by_cases e : k = 1
    · exact .inl e
    · exact .inr (h3 e)
  · by_cases e : k = 1 ∨ k = 3
    · exact .inr (.inr (by simpa using h4 e))
    · omega
set_option maxRecDepth 100000 in
theorem good_len {ep : Int} {ms : List MemX} (hg : goodB ep ms = true) : 0 ≤ ep ∧ ep ≤ 1073741824 ∧ 1 ≤ ms.length ∧ ms.length ≤ 10 := by
  unfold goodB inB at hg
  simp only [Bool.and_eq_true, decide_eq_true_eq] at hg
  omega

def ApplyIs (ep : Int) (ms : List MemX) (k i n : Int) (r : List UInt8) (h : Int) (hr : r.length = 32) (w : World) (e : Ending) (w' : World) : Prop :=
  ∃ A' c' ys, e = .returned (.tuple #[.agg (cfgV (ep + 1) A' ys.length c'), .int .i64 0]) ∧ Behind ms k i n r h hr ys ∧ OwnM w' w.heap.size (.slice A' ys.length c') ys ∧ Below w.heap.size w w'

set_option maxRecDepth 100000 in
set_option maxHeartbeats 4000000 in
theorem apply_ok (ep : Int) (ms : List MemX) (A : Option Addr) (c : Nat) (k i n : Int) (r : List UInt8) (h : Int) (hr : r.length = 32) (he : errC ep ms k i n h = 0) (w : World) (hS : Mems w w.heap.size A ms) :
    Calls Try.prog 19 #[.agg (cfgV ep A ms.length c), chgV k i n r h] w (ApplyIs ep ms k i n r h hr w) := by
  obtain ⟨hg, hep, _⟩ := err0 he
  obtain ⟨h0, h1, h2, h10⟩ := good_len hg
  obtain ⟨w1, hw1⟩ : ∃ w1, w1 = ((w.alloc (.cells (cfgV ep A ms.length c) 24)).alloc (.cells (chgL k i n r h).toArray 43)).alloc (.cells (cfgV 0 none 0 0) 24) := ⟨_, rfl⟩
  have HX : Hid (Box w1 w.heap.size 24 (cfgV ep A ms.length c)) := by
    rw [hw1]
    exact ((Box.made w _ _).alloc _).alloc _
  have HY : Hid (Box w1 (w.heap.size + 1) 43 (chgL k i n r h).toArray) := by
    rw [hw1]
    exact (Box.made_at (by simp) _ _).alloc _
  have HZ : Hid (Box w1 (w.heap.size + 1 + 1) 24 (cfgV 0 none 0 0)) := by
    rw [hw1]
    exact Box.made_at (by simp) _ _
  have HF : Hid (Below w.heap.size w w1) := by
    rw [hw1]
    exact (((Below.refl _ _).alloc (Nat.le_refl _) _).alloc (by simp) _).alloc (by simp; omega) _
  have HS := Lib.hid (hS.far HF.out)
  have HRF := Lib.hid (refusal_any ep ms A c (Nat.le_trans h10 (by simp [maxLen])) k i n r h hr w1 HS.out)
  rw [he] at HRF
  have l1 := HX.out.ld_cfg
  have l2 := ld_chg hr HY.out
  have HR := Lib.hid hr
  have HN := Lib.hid h10
  have hw : IntKind.i64.wrap (ep + 1) = ep + 1 := by rw [IntKind.wrap_i64]; omega
  clear hS h2 h10 hg he
  go_enter Try.func19, Try.ntmps19
  go_upto_region 1 with fail
  change Code.wp _ _ _ _ (((w.alloc (.cells (cfgV ep A ms.length c) 24)).alloc (.cells (chgL k i n r h).toArray 43)).alloc (.cells (cfgV 0 none 0 0) 24))
  rw [← hw1]
  clear hw1
  go_upto_region 4 with (go_at_call 27; (with_reducible refine (HRF.out).mono ?_); rintro e w2 ⟨rfl, hb2⟩; have HB2 := Lib.hid hb2; clear hb2)
  clear l1 l2 HRF
  have hX2 := (HX.out.below HB2.out HX.out.lt).drew
  have hY2 := (HY.out.below HB2.out HY.out.lt).drew
  have HB2' : Hid (Below w1.heap.size w1 w2.drew) := Lib.hid HB2.out.drew
  have HBH : Hid (∀ w', Box w' w.heap.size 24 (cfgV ep A ms.length c) → Box w' (w.heap.size + 1) 43 (chgL k i n r h).toArray → Below w1.heap.size w1 w' → Calls Try.prog 28 #[.agg (cfgV ep A ms.length c), chgV k i n r h] w' (BehindIs ms k i n r h hr w')) := Lib.hid (fun w' _ _ hb => behind_any ep ms A c HN.out k i n r h hr w' (HS.out.far hb))
  refine wp_region_held_drew (S := fun w' => Box w' w.heap.size 24 (cfgV ep A ms.length c) ∧ Box w' (w.heap.size + 1) 43 (chgL k i n r h).toArray) (by kernel_rfl) ⟨hX2, hY2⟩ (fun hS => ?_)
  clear hX2 hY2
  generalize w2.drew = w3 at *
  (refine wpAnyH_take (i := 0) (v := .pointer (some ⟨w.heap.size, 0, none⟩)) rfl (by kernel_rfl) (by kernel_rfl) (by kernel_rfl) (fun _ _ _ h => h) (Or.inl ⟨by kernel_rfl, fun w hSw => by go_simp⟩) hS ?_)
  (try simp only [Act.put])
  (refine wpAnyH_take (i := 1) (v := .int .i64 ep) rfl (by kernel_rfl) (by kernel_rfl) (by kernel_rfl) (fun _ _ _ h => h) (Or.inl ⟨by kernel_rfl, fun w hSw => by have hc := (hSw.1).cell 0; go_simp⟩) hS ?_)
  (try simp only [Act.put])
  (refine wpAnyH_take (i := 2) (v := .int .i64 (ep + 1)) rfl (by kernel_rfl) (by kernel_rfl) (by kernel_rfl) (fun _ _ _ h => h) (Or.inl ⟨by kernel_rfl, fun w hSw => by go_simp⟩) hS ?_)
  (try simp only [Act.put])
  (refine wpAnyH_take (i := 3) (v := .agg (cfgV ep A ms.length c)) rfl (by kernel_rfl) (by kernel_rfl) (by kernel_rfl) (fun _ _ _ h => h) (Or.inl ⟨by kernel_rfl, fun w hSw => by have hc := hSw.1.ld_cfg; go_simp⟩) hS ?_)
  (try simp only [Act.put])
  (refine wpAnyH_take (i := 4) (v := chgV k i n r h) rfl (by kernel_rfl) (by kernel_rfl) (by kernel_rfl) (fun _ _ _ h => h) (Or.inl ⟨by kernel_rfl, fun w hSw => by have hc := ld_chg HR.out hSw.2; go_simp⟩) hS ?_)
  (try simp only [Act.put])
  refine wpAnyH_ready (rs := [5]) (by decide +kernel) (by simp) (AllReadyH.cons rfl (fun K hK => ?_) AllReadyH.nil)
  go_simp
  (go_at_call 28; (with_reducible refine (HBH.out _ hS.1 hS.2 HB2'.out).mono ?_); rintro e w4 ⟨A', c', ys, rfl, hbh, ho4, hb4⟩)
  have hb4' : Below w1.heap.size w1 w4 := HB2'.out.trans (hb4.mono HB2'.out.size)
  obtain ⟨w5, hst, hb5, hg5⟩ := (HZ.out.below hb4' HZ.out.lt).st_cfg rfl (ep + 1) A' ys.length c'
  have HBH2 := Lib.hid hbh
  have HO4 := Lib.hid ho4
  have HB4 := Lib.hid hb4'
  have HB5 := Lib.hid hb5
  have HG5 := Lib.hid hg5
  have HS5 : Hid (Box w5 w.heap.size 24 (cfgV ep A ms.length c) ∧ Box w5 (w.heap.size + 1) 43 (chgL k i n r h).toArray) := Lib.hid ⟨(hS.1.below hb4 hS.1.lt).grown hg5 (by simp; omega), (hS.2.below hb4 hS.2.lt).grown hg5 (by simp)⟩
  refine hK.out _ _ ⟨hS.1.below hb4 hS.1.lt, hS.2.below hb4 hS.2.lt⟩ (fun hS => ?_)
  clear hK K hbh ho4 hb4 hb4' hb5 hg5
  (try simp only [Act.put])
  refine wpAnyH_ready (rs := [6]) (by decide +kernel) (by simp) (AllReadyH.cons rfl (fun K hK => ?_) AllReadyH.nil)
  go_simp
  refine hK.out _ _ (hS) (fun hS => ?_)
  clear hK K
  (try simp only [Act.put])
  refine wpAnyH_ready (rs := [7]) (by decide +kernel) (by simp) (AllReadyH.cons rfl (fun K hK => ?_) AllReadyH.nil)
  go_simp
  refine hK.out _ _ (HS5.out) (fun hS => ?_)
  clear hK K
  (try simp only [Act.put])
  refine wpAnyH_ready (rs := [8]) (by decide +kernel) (by simp) (AllReadyH.cons rfl (fun K hK => ?_) AllReadyH.nil)
  go_simp
  refine hK.out _ _ (hS) (fun hS => ?_)
  clear hK K
  (try simp only [Act.put])
  refine wpAnyH_done (by kernel_rfl) ?_ _
  clear hS hst
  go_wp2
  exact ret_cfg2 rfl rfl rfl rfl HB5.out ⟨A', c', ys, rfl, HBH2.out, (World.ownsRow.kept (HO4.out.base (by have h1 := HF.out.size; have h2 := HB2'.out.size; omega)) HG5.out (.inr fun e => by
    have h1 := HO4.out.lt _ e
    have h2 := HB2'.out.size
    have h3 := HZ.out.lt
    omega)), (HF.out.trans (HB4.out.mono HF.out.size)).trans (below_only HG5.out (by omega) (HF.out.trans (HB4.out.mono HF.out.size)).size)⟩
end Go.Proofs.Ytloaidahlagmiaa
