/-
  ConfigSteps: the walk.
-/
import Derived.Test.YtloaidahlagmiaaCfPlain
import Derived.Test.YtloaidahlagmiaaCfAlive
namespace Go.Proofs.Ytloaidahlagmiaa
open Go.RowKit Go.Sort

attribute [local go_sem ↓] ldMem_def stMem_def eqMem_def bdMem_def ldChg_def ldCfg_def stCfg_def

set_option maxRecDepth 100000 in
theorem same_zero (w : World) : Calls Try.prog 20 #[.agg (cfgV 0 none 0 0), .agg (cfgV 0 none 0 0)] w fun e w' => e = .returned (.bool true) ∧ Below w.heap.size w w' :=
  same_any8 0 [] none 0 0 [] none 0 (by simp [maxLen]) (by simp [maxLen]) w (.inl rfl) (.inl rfl)

set_option maxRecDepth 100000 in
set_option maxHeartbeats 8000000 in
theorem steps_walk (ep : Int) (ms : List MemX) (A : Option Addr) (c : Nat) (hn : ms.length ≤ maxLen) (k i n : Int) (r : List UInt8) (h : Int) (hr : r.length = 32) (w : World) (hS : Mems w w.heap.size A ms) :
    Calls Try.prog 5 #[.agg (cfgV ep A ms.length c), chgV k i n r h] w fun e w' => e = .returned (.bool true) ∧ Below w.heap.size w w' := by
  obtain ⟨w1, hw1⟩ : ∃ w1, w1 = (w.alloc (.cells (cfgV ep A ms.length c) 24)).alloc (.cells (chgL k i n r h).toArray 43) := ⟨_, rfl⟩
  have HX : Hid (Box w1 w.heap.size 24 (cfgV ep A ms.length c)) := by
    rw [hw1]
    exact (Box.made w _ _).alloc _
  have HY : Hid (Box w1 (w.heap.size + 1) 43 (chgL k i n r h).toArray) := by
    rw [hw1]
    exact Box.made_at (by simp) _ _
  have HF : Hid (Below w.heap.size w w1) := by
    rw [hw1]
    exact ((Below.refl _ _).alloc (Nat.le_refl _) _).alloc (by simp) _
  have HS := Lib.hid (hS.far HF.out)
  have HMX := Lib.hid hn
  have HR := Lib.hid hr
  clear hS hn
  go_enter Try.func5, Try.ntmps5
  go_upto_region 1 with fail
  change Code.wp _ _ _ _ ((w.alloc (.cells (cfgV ep A ms.length c) 24)).alloc (.cells (chgL k i n r h).toArray 43))
  rw [← hw1]
  clear hw1
  go_upto_region 3 with (go_at_call 9; (with_reducible refine (alive_any8 _).mono ?_); rintro e w2 ⟨rfl, hb2⟩; have HB2 := Lib.hid hb2; clear hb2)
  have HX2 := Lib.hid (HX.out.below HB2.out HX.out.lt)
  have HY2 := Lib.hid (HY.out.below HB2.out HY.out.lt)
  have HF2 : Hid (Below w.heap.size w w2) := Lib.hid (HF.out.trans (HB2.out.mono HF.out.size))
  have HS2 := Lib.hid (HS.out.far HB2.out)
  have l1 := HX2.out.ld_cfg
  have l2 := ld_chg HR.out HY2.out
  have c1 : w2.cell? ⟨w.heap.size, 1, none⟩ = some (.slice A ms.length c) := HX2.out.cell 1
  clear HX HY HF HS HB2
  by_cases hbig : (256 : Int) < (ms.length : Int)
  · go_wp2
    go_ret
    exact ⟨rfl, HF2.out⟩
  have HL : Hid (ms.length ≤ 256) := Lib.hid (by omega)
  by_cases he : errC ep ms k i n h = 0
  case neg =>
    have HAP := Lib.hid (apply_not ep ms A c HMX.out k i n r h hr he w2 HS2.out)
    have e1 : (errC ep ms k i n h != 0) = true := by simpa using he
    generalize errC ep ms k i n h = er at *
    clear he
    go_wp2_with (first
      | (go_at_call 19; (with_reducible refine (HAP.out).mono ?_); rintro e w3 ⟨rfl, hb3⟩; obtain ⟨w4, hst, hb4, hg4⟩ := laid_cfg w3 0 none 0 0; have l4 := hb4.ld_cfg; have HB4 : Hid (Below w2.heap.size w2 w4) := Lib.hid (hb3.trans (hg4.mono hb3.size)); clear hb3 hb4 hg4)
      | (go_at_call 20; (with_reducible refine (same_zero _).mono ?_); rintro e w5 ⟨rfl, hb5⟩; have HB5 : Hid (Below w2.heap.size w2 w5) := Lib.hid (HB4.out.trans (hb5.mono HB4.out.size)); clear hb5))
    go_ret
    exact ⟨rfl, HF2.out.trans (HB5.out.mono HF2.out.size)⟩
  have HE := Lib.hid he
  have HAP := Lib.hid (apply_ok ep ms A c k i n r h hr he w2 HS2.out)
  clear he
  go_upto_region 8 with (go_at_call 19; (with_reducible refine (HAP.out).mono ?_); rintro e w3 ⟨A', c', ys, rfl, hbh, ho3, hb3⟩; have HBH := Lib.hid hbh; have HO3 := Lib.hid ho3; obtain ⟨w4, hst, hb4, hg4⟩ := laid_cfg w3 (ep + 1) A' ys.length c'; have HD4 := Lib.hid hb4; have HB4 : Hid (Below w2.heap.size w2 w4) := Lib.hid (hb3.trans (hg4.mono hb3.size)); have HT4 : Hid (Mems w4 w4.heap.size A' ys) := Lib.hid (ho3.mems.far hg4); clear hbh ho3 hb3 hb4 hg4)
  clear l1 l2 c1 hst HAP HO3 hbig
  generalize w3.heap.size = gd at *
  have HX4 := Lib.hid (HX2.out.below HB4.out HX2.out.lt)
  have HS4 := Lib.hid (HS2.out.far HB4.out)
  have HF4 : Hid (Below w.heap.size w w4) := Lib.hid (HF2.out.trans (HB4.out.mono HF2.out.size))
  have HRY := Lib.hid (HBH.out.ris HE.out)
  have HGD := Lib.hid (HBH.out.good HE.out)
  have HST := Lib.hid (HBH.out.steps HE.out)
  have HLY : Hid (ys.length ≤ 10) := Lib.hid (good_len HGD.out).2.2.2
  have c0 : w4.cell? ⟨w.heap.size, 0, none⟩ = some (.int .i64 ep) := HX4.out.cell 0
  have c1 : w4.cell? ⟨w.heap.size, 1, none⟩ = some (.slice A ms.length c) := HX4.out.cell 1
  clear HX2 HY2 HS2 HBH HB4
  go_upto_region 9 with fail
  go_wp2
  clear c0 c1
  go_loopw [7, 39] (fun z q wr => ∃ t : Nat, t ≤ ms.length ∧ q = .int .i64 (t : Int) ∧ z = .int .i64 ((goneN (ms.take t) ys : Nat) : Int) ∧ Hid (Below w4.heap.size w4 wr)) (fun _ q _ => ms.length - (intOf q).toNat)
  case atStart => exact ⟨0, Nat.zero_le _, rfl, rfl, Lib.hid (Below.refl _ _)⟩
  case round =>
    obtain ⟨t, ht, rfl, rfl, HW⟩ := hrel
    have hl := HL.out
    have hgl := goneN_le (ms.take t) ys
    rw [List.length_take] at hgl
    by_cases hlt : t < ms.length
    · have HLE := Lib.hid hlt
      obtain ⟨g, oo, rfl, _, hrr⟩ := (HS4.out.far HW.out).range hlt
      have lk := range_mem (hrr t hlt)
      obtain ⟨w5, hst0, hb5, hg5⟩ := laid_mem wr (ms[t]'hlt)
      have hst := hst0
      unfold zmemV at hst
      have HW5 : Hid (Below w4.heap.size w4 w5) := Lib.hid (HW.out.trans (hg5.mono HW.out.size))
      have HM5 := Lib.hid hb5
      have cm : w5.cell? ⟨wr.heap.size, 0, none⟩ = some (.int .i64 (ms[t]'hlt).id) := hb5.cell 0
      have HD5 := Lib.hid (HD4.out.below HW5.out HD4.out.lt)
      have ld := HD5.out.ld_cfg
      have HFI := Lib.hid (find_any ys (ep + 1) A' c' (Nat.le_trans HLY.out (by simp [maxLen])) (ms[t]'hlt).id w5 (HT4.out.far HW5.out))
      have HGN := Lib.hid (goneN_snoc ms ys hlt)
      have i1 : (t : Int) < (ms.length : Int) := by omega
      have wk : IntKind.i64.wrap ((t : Int) + 1) = ((t + 1 : Nat) : Int) := by
        rw [IntKind.wrap_i64]
        omega
      have heq := eq_mem (findM ys (ms[t]'hlt).id) (ms[t]'hlt)
      generalize ms[t]'hlt = x at *
      generalize findM ys x.id = fm at *
      unfold MemX.enc at lk hst HFI heq
      generalize hasB ys x.id = is at *
      generalize findN ys x.id = fn at *
      clear hrr hst0 hb5 hg5
      cases is
      · have HGN2 : Hid (goneN (ms.take (t + 1)) ys = goneN (ms.take t) ys + 1) := Lib.hid (by rw [HGN.out]; simp)
        generalize goneN (ms.take t) ys = z at *
        have wz : IntKind.i64.wrap ((z : Int) + 1) = ((z + 1 : Nat) : Int) := by
          rw [IntKind.wrap_i64]
          omega
        clear HGN heq
        go_wp2_with (go_at_call 10; (with_reducible refine (HFI.out).mono ?_); rintro e w6 ⟨rfl, hb6⟩; obtain ⟨w7, hst7, hb7, hg7⟩ := laid_mem w6 fm; unfold MemX.enc zmemV at hst7; have HW7 : Hid (Below w4.heap.size w4 w7) := Lib.hid ((HW5.out.trans (hb6.mono HW5.out.size)).trans (hg7.mono (HW5.out.trans (hb6.mono HW5.out.size)).size)); clear hb6 hb7 hg7)
        go_roundw
        case rel => exact ⟨t + 1, HLE.out, by go_num, by rw [HGN2.out]; go_num, HW7⟩
        case measure => have := HLE.out; simp [intOf]; omega
      · by_cases hfx : fm = x
        · have HGN2 : Hid (goneN (ms.take (t + 1)) ys = goneN (ms.take t) ys) := Lib.hid (by rw [HGN.out]; simp [hfx])
          rw [decide_eq_true hfx] at heq
          generalize goneN (ms.take t) ys = z at *
          clear HGN hfx
          go_wp2_with (go_at_call 10; (with_reducible refine (HFI.out).mono ?_); rintro e w6 ⟨rfl, hb6⟩; obtain ⟨w7, hst7, hb7, hg7⟩ := laid_mem w6 fm; unfold MemX.enc zmemV at hst7; have l7 := hb7.ldm; have l8 := ((HM5.out.below hb6 HM5.out.lt).below hg7 (HM5.out.below hb6 HM5.out.lt).lt).ldm; have HW7 : Hid (Below w4.heap.size w4 w7) := Lib.hid ((HW5.out.trans (hb6.mono HW5.out.size)).trans (hg7.mono (HW5.out.trans (hb6.mono HW5.out.size)).size)); clear hb6 hb7 hg7)
          go_roundw
          case rel => exact ⟨t + 1, HLE.out, by go_num, by rw [HGN2.out], HW7⟩
          case measure => have := HLE.out; simp [intOf]; omega
        · have HGN2 : Hid (goneN (ms.take (t + 1)) ys = goneN (ms.take t) ys + 1) := Lib.hid (by rw [HGN.out]; simp [hfx])
          rw [decide_eq_false hfx] at heq
          generalize goneN (ms.take t) ys = z at *
          have wz : IntKind.i64.wrap ((z : Int) + 1) = ((z + 1 : Nat) : Int) := by
            rw [IntKind.wrap_i64]
            omega
          clear HGN hfx
          go_wp2_with (go_at_call 10; (with_reducible refine (HFI.out).mono ?_); rintro e w6 ⟨rfl, hb6⟩; obtain ⟨w7, hst7, hb7, hg7⟩ := laid_mem w6 fm; unfold MemX.enc zmemV at hst7; have l7 := hb7.ldm; have l8 := ((HM5.out.below hb6 HM5.out.lt).below hg7 (HM5.out.below hb6 HM5.out.lt).lt).ldm; have HW7 : Hid (Below w4.heap.size w4 w7) := Lib.hid ((HW5.out.trans (hb6.mono HW5.out.size)).trans (hg7.mono (HW5.out.trans (hb6.mono HW5.out.size)).size)); clear hb6 hb7 hg7)
          go_roundw
          case rel => exact ⟨t + 1, HLE.out, by go_num, by rw [HGN2.out]; go_num, HW7⟩
          case measure => have := HLE.out; simp [intOf]; omega
    · obtain rfl : t = ms.length := by omega
      rw [List.take_length]
      have HG1 := Lib.hid HST.out.1
      have i1 : ¬ (ms.length : Int) < (ms.length : Int) := by omega
      have HD5 := Lib.hid (HD4.out.below HW.out HD4.out.lt)
      have d1 : wr.cell? ⟨gd, 1, none⟩ = some (.slice A' ys.length c') := HD5.out.cell 1
      generalize hz1 : goneN ms ys = z1 at *
      have HZ1 := Lib.hid hz1
      clear hz1
      go_wp2
      clear d1 i1
      have HW0 := HW
      clear HW hgl
      go_loopw [8, 64] (fun z q wr => ∃ t : Nat, t ≤ ys.length ∧ q = .int .i64 (t : Int) ∧ z = .int .i64 ((goneN (ys.take t) ms : Nat) : Int) ∧ Hid (Below w4.heap.size w4 wr)) (fun _ q _ => ys.length - (intOf q).toNat)
      case atStart => exact ⟨0, Nat.zero_le _, rfl, rfl, HW0⟩
      case round =>
        clear HW0
        obtain ⟨t, ht, rfl, rfl, HW⟩ := hrel
        have hl := HLY.out
        have hgl := goneN_le (ys.take t) ms
        rw [List.length_take] at hgl
        by_cases hlt : t < ys.length
        · have HLE := Lib.hid hlt
          obtain ⟨g, oo, rfl, _, hrr⟩ := (HT4.out.far HW.out).range hlt
          have lk := range_mem (hrr t hlt)
          obtain ⟨w5, hst0, hb5, hg5⟩ := laid_mem wr (ys[t]'hlt)
          have hst := hst0
          unfold zmemV at hst
          have HW5 : Hid (Below w4.heap.size w4 w5) := Lib.hid (HW.out.trans (hg5.mono HW.out.size))
          have HM5 := Lib.hid hb5
          have cm : w5.cell? ⟨wr.heap.size, 0, none⟩ = some (.int .i64 (ys[t]'hlt).id) := hb5.cell 0
          have HD5 := Lib.hid (HX4.out.below HW5.out HX4.out.lt)
          have ld := HD5.out.ld_cfg
          have HFI := Lib.hid (find_any ms ep A c HMX.out (ys[t]'hlt).id w5 (HS4.out.far HW5.out))
          have HGN := Lib.hid (goneN_snoc ys ms hlt)
          have i1 : (t : Int) < (ys.length : Int) := by omega
          have wk : IntKind.i64.wrap ((t : Int) + 1) = ((t + 1 : Nat) : Int) := by
            rw [IntKind.wrap_i64]
            omega
          have heq := eq_mem (findM ms (ys[t]'hlt).id) (ys[t]'hlt)
          generalize ys[t]'hlt = x at *
          generalize findM ms x.id = fm at *
          unfold MemX.enc at lk hst HFI heq
          generalize hasB ms x.id = is at *
          generalize findN ms x.id = fn at *
          clear hrr hst0 hb5 hg5
          cases is
          · have HGN2 : Hid (goneN (ys.take (t + 1)) ms = goneN (ys.take t) ms + 1) := Lib.hid (by rw [HGN.out]; simp)
            generalize goneN (ys.take t) ms = z at *
            have wz : IntKind.i64.wrap ((z : Int) + 1) = ((z + 1 : Nat) : Int) := by
              rw [IntKind.wrap_i64]
              omega
            clear HGN heq
            go_wp2_with (go_at_call 10; (with_reducible refine (HFI.out).mono ?_); rintro e w6 ⟨rfl, hb6⟩; obtain ⟨w7, hst7, hb7, hg7⟩ := laid_mem w6 fm; unfold MemX.enc zmemV at hst7; have HW7 : Hid (Below w4.heap.size w4 w7) := Lib.hid ((HW5.out.trans (hb6.mono HW5.out.size)).trans (hg7.mono (HW5.out.trans (hb6.mono HW5.out.size)).size)); clear hb6 hb7 hg7)
            go_roundw
            case rel => exact ⟨t + 1, HLE.out, by go_num, by rw [HGN2.out]; go_num, HW7⟩
            case measure => have := HLE.out; simp [intOf]; omega
          · by_cases hfx : fm = x
            · have HGN2 : Hid (goneN (ys.take (t + 1)) ms = goneN (ys.take t) ms) := Lib.hid (by rw [HGN.out]; simp [hfx])
              rw [decide_eq_true hfx] at heq
              generalize goneN (ys.take t) ms = z at *
              clear HGN hfx
              go_wp2_with (go_at_call 10; (with_reducible refine (HFI.out).mono ?_); rintro e w6 ⟨rfl, hb6⟩; obtain ⟨w7, hst7, hb7, hg7⟩ := laid_mem w6 fm; unfold MemX.enc zmemV at hst7; have l7 := hb7.ldm; have l8 := ((HM5.out.below hb6 HM5.out.lt).below hg7 (HM5.out.below hb6 HM5.out.lt).lt).ldm; have HW7 : Hid (Below w4.heap.size w4 w7) := Lib.hid ((HW5.out.trans (hb6.mono HW5.out.size)).trans (hg7.mono (HW5.out.trans (hb6.mono HW5.out.size)).size)); clear hb6 hb7 hg7)
              go_roundw
              case rel => exact ⟨t + 1, HLE.out, by go_num, by rw [HGN2.out], HW7⟩
              case measure => have := HLE.out; simp [intOf]; omega
            · have HGN2 : Hid (goneN (ys.take (t + 1)) ms = goneN (ys.take t) ms + 1) := Lib.hid (by rw [HGN.out]; simp [hfx])
              rw [decide_eq_false hfx] at heq
              generalize goneN (ys.take t) ms = z at *
              have wz : IntKind.i64.wrap ((z : Int) + 1) = ((z + 1 : Nat) : Int) := by
                rw [IntKind.wrap_i64]
                omega
              clear HGN hfx
              go_wp2_with (go_at_call 10; (with_reducible refine (HFI.out).mono ?_); rintro e w6 ⟨rfl, hb6⟩; obtain ⟨w7, hst7, hb7, hg7⟩ := laid_mem w6 fm; unfold MemX.enc zmemV at hst7; have l7 := hb7.ldm; have l8 := ((HM5.out.below hb6 HM5.out.lt).below hg7 (HM5.out.below hb6 HM5.out.lt).lt).ldm; have HW7 : Hid (Below w4.heap.size w4 w7) := Lib.hid ((HW5.out.trans (hb6.mono HW5.out.size)).trans (hg7.mono (HW5.out.trans (hb6.mono HW5.out.size)).size)); clear hb6 hb7 hg7)
              go_roundw
              case rel => exact ⟨t + 1, HLE.out, by go_num, by rw [HGN2.out]; go_num, HW7⟩
              case measure => have := HLE.out; simp [intOf]; omega
        · obtain rfl : t = ys.length := by omega
          rw [List.take_length]
          have HD6 := Lib.hid (HD4.out.below HW.out HD4.out.lt)
          have HX6 := Lib.hid (HX4.out.below HW.out HX4.out.lt)
          have d0 : wr.cell? ⟨gd, 0, none⟩ = some (.int .i64 (ep + 1)) := HD6.out.cell 0
          have d1 : wr.cell? ⟨gd, 1, none⟩ = some (.slice A' ys.length c') := HD6.out.cell 1
          have ld := HD6.out.ld_cfg
          have HGO := Lib.hid (good_any8 ys (ep + 1) A' c' (Nat.le_trans HLY.out (by simp [maxLen])) wr (HT4.out.far HW.out))
          rw [HGD.out] at HGO
          obtain ⟨s1, s2, s3⟩ := HST.out
          obtain ⟨g0, g1⟩ := err0 HE.out
          obtain ⟨p0, p1, _, _⟩ := good_len g0
          have hep : ep ≠ 1073741824 := g1.1
          have hme := HL.out
          generalize goneN ys ms = z2 at *
          have wep : IntKind.i64.wrap (ep + 1) = ep + 1 := by rw [IntKind.wrap_i64]; omega
          have wl : IntKind.i64.wrap ((ys.length : Int) - (ms.length : Int)) = (z2 : Int) - (z1 : Int) := by rw [IntKind.wrap_i64]; omega
          have wz : IntKind.i64.wrap ((z2 : Int) - (z1 : Int)) = (z2 : Int) - (z1 : Int) := by rw [IntKind.wrap_i64]; omega
          have b1 : (z1 : Int) ≤ 1 := by omega
          have b2 : (z2 : Int) ≤ 1 := by omega
          have wl2 : (ys.length : Int) - (ms.length : Int) = (z2 : Int) - (z1 : Int) := by omega
          have i1 : ¬ (ys.length : Int) < (ys.length : Int) := by omega
          have WL := Lib.hid wl2
          clear g0 g1 p0 p1 hep s1 s2 s3 hgl ht wl2
          go_wp2_with (go_at_call 12; (with_reducible refine (HGO.out).mono ?_); rintro e w9 ⟨rfl, hb9⟩; have HX9 := (HX6.out.below hb9 HX6.out.lt); have HD9 := (HD6.out.below hb9 HD6.out.lt); have x0 := HX9.cell 0; have x1 := HX9.cell 1; have y0 := HD9.cell 0; have y1 := HD9.cell 1; have HB9 : Hid (Below w4.heap.size w4 w9) := Lib.hid (HW.out.trans (hb9.mono HW.out.size)); clear hb9 HX9 HD9)
          go_ret
          exact ⟨rfl, HF4.out.trans (HB9.out.mono HF4.out.size)⟩
end Go.Proofs.Ytloaidahlagmiaa
