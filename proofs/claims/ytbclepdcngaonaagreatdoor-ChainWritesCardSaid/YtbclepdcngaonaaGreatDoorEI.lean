/-
  wapentakeref13.Same of votes that read alike.
  wapentakeref14.Same of words that read alike.
-/
import Derived.Test.YtbclepdcngaonaaGreatDoorVD
import Derived.Test.YtbclepdcngaonaaGreatDoorKW
import Derived.Test.YtbclepdcngaonaaGreatDoorEA
import Derived.Lib.QuietBelow
namespace Go.Proofs.YtbclepdcngaonaaGreatDoor
open Go.RowKit Go.Maps

attribute [local go_sem ↓] ldVt_def stVt_def ldSg_def ldDigest_def stDigest_def eqDigest_def
set_option maxRecDepth 100000 in
set_option maxHeartbeats 4000000 in
theorem rsame_true (a b : VtM) (hab : b.x = a.x) (hf : VFew a.x) (w : World) (hS : VSee w a) (hT : VSee w b) :
    Calls Tryz.prog 70 #[.agg a.cells.toArray, .agg b.cells.toArray] w fun e w' => e = .returned (.bool true) ∧ Below w.heap.size w w' := by
  obtain ⟨w1, hw1⟩ : ∃ w1, w1 = (w.alloc (.cells a.cells.toArray 74)).alloc (.cells b.cells.toArray 74) := ⟨_, rfl⟩
  have HX : Hid (Box w1 w.heap.size 74 a.cells.toArray) := by rw [hw1]; exact (Box.made w _ _).alloc _
  have HY : Hid (Box w1 (w.heap.size + 1) 74 b.cells.toArray) := by rw [hw1]; exact Box.made_at (by simp) _ _
  have HF : Hid (Below w.heap.size w w1) := by rw [hw1]; exact ((Below.refl _ _).alloc (Nat.le_refl _) _).alloc (by simp) _
  have hs := hS.call HF.out
  have ht := hT.call HF.out
  have HK := Lib.hid (ksame_any a.x.leaf b.x.leaf a.x.opn a.x.sht a.x.pth b.x.opn b.x.sht b.x.pth a.A a.B a.C b.A b.B b.C a.a a.b a.c b.a b.b b.c w1 hs.opn hs.sht hs.pth ht.opn ht.sht ht.pth (by have := hf.opn; omega) (by have := hf.sht; omega) (by have := hf.pth; omega))
  have x0 : w1.cell? ⟨w.heap.size, 0, none⟩ = some (.int .i64 a.x.kind) := HX.out.vt_0
  have x1 : w1.cell? ⟨w.heap.size, 1, none⟩ = some (.int .i64 a.x.epoch) := HX.out.vt_1
  have x2 : w1.cell? ⟨w.heap.size, 2, none⟩ = some (.int .i64 a.x.height) := HX.out.vt_2
  have x3 : w1.cell? ⟨w.heap.size, 3, none⟩ = some (.int .i64 a.x.round) := HX.out.vt_3
  have x5 : w1.cell? ⟨w.heap.size, 36, none⟩ = some (.int .i64 a.x.frm) := HX.out.vt_36 a.x.len
  have xd : (ldDigest (.pointer (some ⟨w.heap.size, 4, none⟩))).run Tryz.prog w1 = .ok (.agg (a.x.dig.map bv).toArray) w1 := range_load HX.out.vt_dig a.x.len
  have xs := HX.out.ld_vsg
  have y0 : w1.cell? ⟨w.heap.size + 1, 0, none⟩ = some (.int .i64 a.x.kind) := by rw [← hab]; exact HY.out.vt_0
  have y1 : w1.cell? ⟨w.heap.size + 1, 1, none⟩ = some (.int .i64 a.x.epoch) := by rw [← hab]; exact HY.out.vt_1
  have y2 : w1.cell? ⟨w.heap.size + 1, 2, none⟩ = some (.int .i64 a.x.height) := by rw [← hab]; exact HY.out.vt_2
  have y3 : w1.cell? ⟨w.heap.size + 1, 3, none⟩ = some (.int .i64 a.x.round) := by rw [← hab]; exact HY.out.vt_3
  have y5 : w1.cell? ⟨w.heap.size + 1, 36, none⟩ = some (.int .i64 a.x.frm) := by rw [← hab]; exact HY.out.vt_36 b.x.len
  have yd : (ldDigest (.pointer (some ⟨w.heap.size + 1, 4, none⟩))).run Tryz.prog w1 = .ok (.agg (a.x.dig.map bv).toArray) w1 := by rw [← hab]; exact range_load HY.out.vt_dig b.x.len
  have ys := HY.out.ld_vsg
  have hq : ∀ w', (eqDigest (.agg (a.x.dig.map bv).toArray) (.agg (a.x.dig.map bv).toArray)).run Tryz.prog w' = .ok true w' := fun w' => by rw [eq_digest _ _ a.x.len a.x.len w', decide_eq_true rfl]
  have HK2 : Hid (Calls Tryz.prog 106 #[.agg a.sg.cells, .agg b.sg.cells] w1 fun e w' => e = .returned (.bool true) ∧ Below w1.heap.size w1 w') := Lib.hid (HK.out.mono (by
    rintro e w' ⟨rfl, hb⟩
    refine ⟨?_, hb⟩
    rw [hab]
    simp))
  clear HK hs ht hS hT HX HY hf hab
  generalize a.sg.cells = sa at *
  generalize b.sg.cells = sb at *
  generalize a.cells.toArray = ca at *
  generalize b.cells.toArray = cb at *
  generalize (a.x.dig.map bv).toArray = dd at *
  generalize a.x.kind = k0 at *
  generalize a.x.epoch = k1 at *
  generalize a.x.height = k2 at *
  generalize a.x.round = k3 at *
  generalize a.x.frm = k5 at *
  go_enter Tryz.func70, Tryz.ntmps70
  go_upto_region 1 with fail
  change Code.wp _ _ _ _ ((w.alloc (.cells ca 74)).alloc (.cells cb 74))
  rw [← hw1]
  clear hw1
  go_wp2_with (go_at_call 106; (with_reducible refine (HK2.out).mono ?_); rintro e w2 ⟨rfl, hb⟩; have HB2 := Lib.hid hb; clear hb)
  go_ret
  exact ⟨rfl, HF.out.trans (HB2.out.mono HF.out.size)⟩
end Go.Proofs.YtbclepdcngaonaaGreatDoor

namespace Go.Proofs.YtbclepdcngaonaaGreatDoor
open Go.RowKit Go.Maps Go.Sort

attribute [local go_sem ↓] ldVt_def
set_option maxRecDepth 100000 in
set_option maxHeartbeats 8000000 in
theorem csame_true14 (r : Int) (vs us : List VtM) (A B : Option Addr) (c d : Nat) (hx : us.map VtM.x = vs.map VtM.x) (hf : ∀ m ∈ vs, VFew m.x) (hl : vs.length ≤ 1000000) (w : World) (hV : VtK.See w w.heap.size A vs) (hU : VtK.See w w.heap.size B us) (hS : BSee w vs) (hT : BSee w us) :
    Calls Tryz.prog 38 #[.agg (crtV r A vs.length c), .agg (crtV r B us.length d)] w fun e w' => e = .returned (.bool true) ∧ Below w.heap.size w w' := by
  have hul : us.length = vs.length := by
    have h := congrArg List.length hx
    rwa [List.length_map, List.length_map] at h
  obtain ⟨w1, hw1⟩ : ∃ w1, w1 = (w.alloc (.cells (crtV r A vs.length c) 35)).alloc (.cells (crtV r B us.length d) 35) := ⟨_, rfl⟩
  have hX : Box w1 w.heap.size 35 (crtV r A vs.length c) := by rw [hw1]; exact (Box.made w _ _).alloc _
  have hY : Box w1 (w.heap.size + 1) 35 (crtV r B us.length d) := by rw [hw1]; exact Box.made_at (by simp) _ _
  have HF : Hid (Below w.heap.size w w1) := by rw [hw1]; exact ((Below.refl _ _).alloc (Nat.le_refl _) _).alloc (by simp) _
  have HC : Hid (∀ w', Below w1.heap.size w1 w' → w'.cell? ⟨w.heap.size, 0, none⟩ = some (.int .i64 r) ∧ w'.cell? ⟨w.heap.size, 1, none⟩ = some (.slice A vs.length c) ∧ w'.cell? ⟨w.heap.size + 1, 0, none⟩ = some (.int .i64 r) ∧ w'.cell? ⟨w.heap.size + 1, 1, none⟩ = some (.slice B us.length d)) := Lib.hid (fun w' hb => by
    have hx := hX.below hb hX.lt
    have hy := hY.below hb hY.lt
    exact ⟨hx.cell 0, hx.cell 1, hy.cell 0, hy.cell 1⟩)
  have HV1 := Lib.hid (EK.See.far hV HF.out)
  have HU1 := Lib.hid (EK.See.far hU HF.out)
  have HS1 := Lib.hid (hS.call HF.out)
  have HT1 := Lib.hid (hT.call HF.out)
  have HX := Lib.hid hx
  have HFW := Lib.hid hf
  have HL := Lib.hid hl
  have HUL := Lib.hid hul
  rw [hul] at HC ⊢
  have hw2 : w1 = (w.alloc (.cells (crtV r A vs.length c) 35)).alloc (.cells (crtV r B vs.length d) 35) := by rw [hw1, hul]
  clear hX hY hV hU hS hT hx hf hl hul hw1
  obtain ⟨k1, k2, k3, k4⟩ := HC.out w1 (Below.refl _ _)
  go_enter Tryz.func38, Tryz.ntmps38
  go_upto_region 1 with fail
  change Code.wp _ _ _ _ ((w.alloc (.cells (crtV r A vs.length c) 35)).alloc (.cells (crtV r B vs.length d) 35))
  rw [← hw2]
  clear hw2
  go_wp2
  clear k1 k2 k3 k4
  go_loopw [23] (fun i wr => ∃ k : Nat, k ≤ vs.length ∧ i = .int .i64 (k : Int) ∧ Hid (Below w1.heap.size w1 wr)) (fun i _ => vs.length - (intOf i).toNat)
  case atStart => exact ⟨0, Nat.zero_le _, rfl, Lib.hid (Below.refl _ _)⟩
  case round =>
    obtain ⟨k, hk, rfl, HW⟩ := hrel
    by_cases hlt : k < vs.length
    rotate_left
    · have i1 : ¬ (k : Int) < (vs.length : Int) := by omega
      go_wp2
      go_ret
      exact ⟨rfl, HF.out.trans (HW.out.mono HF.out.size)⟩
    have hlu : k < us.length := by have := HUL.out; omega
    have i1 : (k : Int) < (vs.length : Int) := by omega
    have i0 : (0 : Int) ≤ (k : Int) := by omega
    have i2 : decide (k < vs.length) = true := decide_eq_true hlt
    have wk : IntKind.i64.wrap ((k : Int) + 1) = ((k + 1 : Nat) : Int) := by rw [IntKind.wrap_i64]; have := HL.out; omega
    obtain ⟨g, o, hA, hlv⟩ := row_vote (EK.See.far HV1.out HW.out) hlt
    obtain ⟨g2, o2, hB, hlw⟩ := row_vote (EK.See.far HU1.out HW.out) hlu
    subst hA
    subst hB
    have HEX : Hid ((us[k]'hlu).x = (vs[k]'hlt).x) := Lib.hid (by
      have h : (us.map VtM.x)[k]? = (vs.map VtM.x)[k]? := by rw [HX.out]
      rw [List.getElem?_map, List.getElem?_map, List.getElem?_eq_getElem hlu, List.getElem?_eq_getElem hlt] at h
      simpa using h)
    have HM1 : Hid ((vs[k]'hlt) ∈ vs) := Lib.hid (List.getElem_mem hlt)
    have HM2 : Hid ((us[k]'hlu) ∈ us) := Lib.hid (List.getElem_mem hlu)
    have HLT := Lib.hid hlt
    have Q1 : ∀ d' os, (ldVt (.pointer (some ⟨g, o + k * 41, none⟩))).run Tryz.prog (grow (redrawn wr d') os) = .ok (.agg (vs[k]'hlt).cells.toArray) (grow (redrawn wr d') os) := fun d' os => hlv _ (below_regrown wr d' os)
    have Q2 : ∀ d' os, (ldVt (.pointer (some ⟨g2, o2 + k * 41, none⟩))).run Tryz.prog (grow (redrawn wr d') os) = .ok (.agg (us[k]'hlu).cells.toArray) (grow (redrawn wr d') os) := fun d' os => hlw _ (below_regrown wr d' os)
    have Q3 : ∀ d' os, (grow (redrawn wr d') os).cell? ⟨w.heap.size, 1, none⟩ = some (.slice (some ⟨g, o, none⟩) vs.length c) := fun d' os => (HC.out _ (HW.out.trans ((below_regrown wr d' os).mono HW.out.size))).2.1
    have Q4 : ∀ d' os, (grow (redrawn wr d') os).cell? ⟨w.heap.size + 1, 1, none⟩ = some (.slice (some ⟨g2, o2, none⟩) vs.length d) := fun d' os => (HC.out _ (HW.out.trans ((below_regrown wr d' os).mono HW.out.size))).2.2.2
    have K1 : Hid (∀ d' os, Calls Tryz.prog 70 #[.agg (vs[k]'hlt).cells.toArray, .agg (us[k]'hlu).cells.toArray] (grow (redrawn wr d') os) fun e w'' => e = .returned (.bool true) ∧ ∃ p : Regrown, w'' = grow (redrawn wr p.d) p.os) := Lib.hid (fun d' os => Calls.regrown_of (by
      have hb := HW.out.trans ((below_regrown wr d' os).mono HW.out.size)
      exact rsame_true (vs[k]'hlt) (us[k]'hlu) HEX.out (HFW.out _ HM1.out) _ ((HS1.out _ HM1.out).call hb) ((HT1.out _ HM2.out).call hb)))
    clear hlv hlw HEX HM1 HM2
    generalize vs[k]'hlt = m1 at *
    generalize us[k]'hlu = m2 at *
    clear hlt hlu hk
    go_upto_region 6 with fail
    refine wp_region_quiet_below (by kernel_rfl) (by kernel_rfl) ?_
    repeat (go_big_quiet_step ((go_at_call 70; with_reducible exact K1.out _ _)))
    refine wpQuiet_nil ?_
    intro _ hw'
    obtain ⟨⟨dq, osq⟩, hw''⟩ := hw'
    subst hw''
    have HB4 := Lib.hid (HW.out.trans ((below_regrown wr dq osq).mono HW.out.size))
    clear Q1 Q2 Q3 Q4 K1
    generalize grow (redrawn wr dq) osq = w4 at *
    go_wp2
    go_roundw
    case rel => exact ⟨k + 1, HLT.out, by go_num, HB4⟩
    case measure => have := HLT.out; simp [intOf]; omega
end Go.Proofs.YtbclepdcngaonaaGreatDoor
