/-
  wapentakeref14.Same of words that read alike.
-/
import Derived.Test.YtejnfgcnifcpaaaDoorVoSame
import Derived.Test.YtejnfgcnifcpaaaDoorEA
import Derived.Lib.QuietBelow
namespace Go.Proofs.YtejnfgcnifcpaaaDoor
open Go.RowKit Go.Maps Go.Sort

attribute [local go_sem ↓] ldVt_def
set_option maxRecDepth 100000 in
set_option maxHeartbeats 8000000 in
theorem csame_true14 (r : Int) (vs us : List VtM) (A B : Option Addr) (c d : Nat) (hx : us.map VtM.x = vs.map VtM.x) (hf : ∀ m ∈ vs, VFew m.x) (hl : vs.length ≤ 1000000) (w : World) (hV : VtK.See w w.heap.size A vs) (hU : VtK.See w w.heap.size B us) (hS : BSee w vs) (hT : BSee w us) :
    Calls Tryd.prog 10 #[.agg (crtV r A vs.length c), .agg (crtV r B us.length d)] w fun e w' => e = .returned (.bool true) ∧ Below w.heap.size w w' := by
  have hul : us.length = vs.length := by
    have h := congrArg List.length hx
    rwa [List.length_map, List.length_map] at h
  obtain ⟨w1, hw1⟩ : ∃ w1, w1 = (w.alloc (.cells (crtV r A vs.length c) 32)).alloc (.cells (crtV r B us.length d) 32) := ⟨_, rfl⟩
  have hX : Box w1 w.heap.size 32 (crtV r A vs.length c) := by rw [hw1]; exact (Box.made w _ _).alloc _
  have hY : Box w1 (w.heap.size + 1) 32 (crtV r B us.length d) := by rw [hw1]; exact Box.made_at (by simp) _ _
  have HF : Hid (Below w.heap.size w w1) := by rw [hw1]; exact ((Below.refl _ _).alloc (Nat.le_refl _) _).alloc (by simp) _
  have HC : Hid (∀ w', Below w1.heap.size w1 w' → w'.cell? ⟨w.heap.size, 0, none⟩ = some (.int .i64 r) ∧ w'.cell? ⟨w.heap.size, 1, none⟩ = some (.slice A vs.length c) ∧ w'.cell? ⟨w.heap.size + 1, 0, none⟩ = some (.int .i64 r) ∧ w'.cell? ⟨w.heap.size + 1, 1, none⟩ = some (.slice B us.length d)) := Lib.hid (fun w' hb => by
    have hx := hX.below hb hX.lt
    have hy := hY.below hb hY.lt
    exact ⟨hx.cell 0, hx.cell 1, hy.cell 0, hy.cell 1⟩)
  have HV1 := Lib.hid (EK.See.far hV HF.out)
  have HU1 := Lib.hid (EK.See.far hU HF.out)
  have HS1 := Lib.hid (hS.call HF.out)
  have HT1 := Lib.hid (hT.call HF.out)
  have HX := Lib.hid hx
  have HFW := Lib.hid hf
  have HL := Lib.hid hl
  have HUL := Lib.hid hul
  rw [hul] at HC ⊢
  have hw2 : w1 = (w.alloc (.cells (crtV r A vs.length c) 32)).alloc (.cells (crtV r B vs.length d) 32) := by rw [hw1, hul]
  clear hX hY hV hU hS hT hx hf hl hul hw1
  obtain ⟨k1, k2, k3, k4⟩ := HC.out w1 (Below.refl _ _)
  go_enter Tryd.func10, Tryd.ntmps10
  go_upto_region 1 with fail
  change Code.wp _ _ _ _ ((w.alloc (.cells (crtV r A vs.length c) 32)).alloc (.cells (crtV r B vs.length d) 32))
  rw [← hw2]
  clear hw2
  go_wp2
  clear k1 k2 k3 k4
  go_loopw [23] (fun i wr => ∃ k : Nat, k ≤ vs.length ∧ i = .int .i64 (k : Int) ∧ Hid (Below w1.heap.size w1 wr)) (fun i _ => vs.length - (intOf i).toNat)
  case atStart => exact ⟨0, Nat.zero_le _, rfl, Lib.hid (Below.refl _ _)⟩
  case round =>
    obtain ⟨k, hk, rfl, HW⟩ := hrel
    by_cases hlt : k < vs.length
    rotate_left
    · have i1 : ¬ (k : Int) < (vs.length : Int) := by omega
      go_wp2
      go_ret
      exact ⟨rfl, HF.out.trans (HW.out.mono HF.out.size)⟩
    have hlu : k < us.length := by have := HUL.out; omega
    have i1 : (k : Int) < (vs.length : Int) := by omega
    have i0 : (0 : Int) ≤ (k : Int) := by omega
    have i2 : decide (k < vs.length) = true := decide_eq_true hlt
    have wk : IntKind.i64.wrap ((k : Int) + 1) = ((k + 1 : Nat) : Int) := by rw [IntKind.wrap_i64]; have := HL.out; omega
    obtain ⟨g, o, hA, hlv⟩ := row_vote (EK.See.far HV1.out HW.out) hlt
    obtain ⟨g2, o2, hB, hlw⟩ := row_vote (EK.See.far HU1.out HW.out) hlu
    subst hA
    subst hB
    have HEX : Hid ((us[k]'hlu).x = (vs[k]'hlt).x) := Lib.hid (by
      have h : (us.map VtM.x)[k]? = (vs.map VtM.x)[k]? := by rw [HX.out]
      rw [List.getElem?_map, List.getElem?_map, List.getElem?_eq_getElem hlu, List.getElem?_eq_getElem hlt] at h
      simpa using h)
    have HM1 : Hid ((vs[k]'hlt) ∈ vs) := Lib.hid (List.getElem_mem hlt)
    have HM2 : Hid ((us[k]'hlu) ∈ us) := Lib.hid (List.getElem_mem hlu)
    have HLT := Lib.hid hlt
    have Q1 : ∀ d' os, (ldVt (.pointer (some ⟨g, o + k * 41, none⟩))).run Tryd.prog (grow (redrawn wr d') os) = .ok (.agg (vs[k]'hlt).cells.toArray) (grow (redrawn wr d') os) := fun d' os => hlv _ (below_regrown wr d' os)
    have Q2 : ∀ d' os, (ldVt (.pointer (some ⟨g2, o2 + k * 41, none⟩))).run Tryd.prog (grow (redrawn wr d') os) = .ok (.agg (us[k]'hlu).cells.toArray) (grow (redrawn wr d') os) := fun d' os => hlw _ (below_regrown wr d' os)
    have Q3 : ∀ d' os, (grow (redrawn wr d') os).cell? ⟨w.heap.size, 1, none⟩ = some (.slice (some ⟨g, o, none⟩) vs.length c) := fun d' os => (HC.out _ (HW.out.trans ((below_regrown wr d' os).mono HW.out.size))).2.1
    have Q4 : ∀ d' os, (grow (redrawn wr d') os).cell? ⟨w.heap.size + 1, 1, none⟩ = some (.slice (some ⟨g2, o2, none⟩) vs.length d) := fun d' os => (HC.out _ (HW.out.trans ((below_regrown wr d' os).mono HW.out.size))).2.2.2
    have K1 : Hid (∀ d' os, Calls Tryd.prog 22 #[.agg (vs[k]'hlt).cells.toArray, .agg (us[k]'hlu).cells.toArray] (grow (redrawn wr d') os) fun e w'' => e = .returned (.bool true) ∧ ∃ p : Regrown, w'' = grow (redrawn wr p.d) p.os) := Lib.hid (fun d' os => Calls.regrown_of (by
      have hb := HW.out.trans ((below_regrown wr d' os).mono HW.out.size)
      exact rsame_true (vs[k]'hlt) (us[k]'hlu) HEX.out (HFW.out _ HM1.out) _ ((HS1.out _ HM1.out).call hb) ((HT1.out _ HM2.out).call hb)))
    clear hlv hlw HEX HM1 HM2
    generalize vs[k]'hlt = m1 at *
    generalize us[k]'hlu = m2 at *
    clear hlt hlu hk
    go_upto_region 6 with fail
    refine wp_region_quiet_below (by kernel_rfl) (by kernel_rfl) ?_
    repeat (go_big_quiet_step ((go_at_call 22; with_reducible exact K1.out _ _)))
    refine wpQuiet_nil ?_
    intro _ hw'
    obtain ⟨⟨dq, osq⟩, hw''⟩ := hw'
    subst hw''
    have HB4 := Lib.hid (HW.out.trans ((below_regrown wr dq osq).mono HW.out.size))
    clear Q1 Q2 Q3 Q4 K1
    generalize grow (redrawn wr dq) osq = w4 at *
    go_wp2
    go_roundw
    case rel => exact ⟨k + 1, HLT.out, by go_num, HB4⟩
    case measure => have := HLT.out; simp [intOf]; omega
end Go.Proofs.YtejnfgcnifcpaaaDoor
