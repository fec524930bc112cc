/-
  ConfigKeys: the walk.
-/
import Derived.Test.YtloaidahlagmiaaCfBack
namespace Go.Proofs.Ytloaidahlagmiaa
open Go.RowKit Go.Sort

attribute [local go_sem ↓] ldMem_def stMem_def eqMem_def bdMem_def ldChg_def ldCfg_def stCfg_def bdChg_def ldKy_def eqKey_def

/-- Whatever becomes of a change. -/
def SomeCfg (w : World) (e : Ending) (w' : World) : Prop := ∃ (ep : Int) (A : Option Addr) (n c : Nat) (er : Int), e = .returned (.tuple #[.agg (cfgV ep A n c), .int .i64 er]) ∧ Below w.heap.size w w'
set_option maxRecDepth 100000 in
theorem apply_some (ep : Int) (ms : List MemX) (A : Option Addr) (c : Nat) (hn : ms.length ≤ maxLen) (k i n : Int) (r : List UInt8) (h : Int) (hr : r.length = 32) (w : World) (hS : Mems w w.heap.size A ms) :
    Calls Try.prog 19 #[.agg (cfgV ep A ms.length c), chgV k i n r h] w (SomeCfg w) := by
  by_cases he : errC ep ms k i n h = 0
  · exact (apply_ok ep ms A c k i n r h hr he w hS).mono fun e w' ⟨A', c', ys, h1, _, _, h4⟩ => ⟨_, _, _, _, _, h1, h4⟩
  · exact (apply_not ep ms A c hn k i n r h hr he w hS).mono fun e w' ⟨h1, h2⟩ => ⟨_, _, _, _, _, h1, h2⟩

set_option maxRecDepth 100000 in
set_option maxHeartbeats 16000000 in
theorem keys_walk8 (ep : Int) (ms : List MemX) (A : Option Addr) (c : Nat) (hn : ms.length ≤ maxLen) (i n : Int) (r : List UInt8) (h : Int) (hr : r.length = 32) (w : World) (hS : Mems w w.heap.size A ms) :
    Calls Try.prog 8 #[.agg (cfgV ep A ms.length c), .int .i64 i, .int .i64 n, .agg (keyV r h)] w fun e w' => e = .returned (.bool true) ∧ Below w.heap.size w w' := by
  obtain ⟨w1, hw1⟩ : ∃ w1, w1 = (w.alloc (.cells (cfgV ep A ms.length c) 24)).alloc (.cells (keyV r h) 29) := ⟨_, rfl⟩
  have HX : Hid (Box w1 w.heap.size 24 (cfgV ep A ms.length c)) := by
    rw [hw1]
    exact (Box.made w _ _).alloc _
  have HY : Hid (Box w1 (w.heap.size + 1) 29 (keyV r h)) := by
    rw [hw1]
    exact Box.made_at (by simp) _ _
  have HF : Hid (Below w.heap.size w w1) := by
    rw [hw1]
    exact ((Below.refl _ _).alloc (Nat.le_refl _) _).alloc (by simp) _
  have HS := Lib.hid (hS.far HF.out)
  have HMX := Lib.hid hn
  have HR := Lib.hid hr
  clear hS hn
  go_enter Try.func8, Try.ntmps8
  go_upto_region 1 with fail
  change Code.wp _ _ _ _ ((w.alloc (.cells (cfgV ep A ms.length c) 24)).alloc (.cells (keyV r h) 29))
  rw [← hw1]
  clear hw1
  go_upto_region 3 with (go_at_call 9; (with_reducible refine (alive_any8 _).mono ?_); rintro e w2 ⟨rfl, hb2⟩; have HB2 := Lib.hid hb2; clear hb2)
  have HX2 := Lib.hid (HX.out.below HB2.out HX.out.lt)
  have HY2 := Lib.hid (HY.out.below HB2.out HY.out.lt)
  have HF2 : Hid (Below w.heap.size w w2) := Lib.hid (HF.out.trans (HB2.out.mono HF.out.size))
  have HS2 := Lib.hid (HS.out.far HB2.out)
  have l1 := HX2.out.ld_cfg
  have l2 := ld_ky HR.out (key_rng HY2.out)
  have c0 : w2.cell? ⟨w.heap.size, 0, none⟩ = some (.int .i64 ep) := HX2.out.cell 0
  have c1 : w2.cell? ⟨w.heap.size, 1, none⟩ = some (.slice A ms.length c) := HX2.out.cell 1
  have b1 := bd_chg3 4 i hr h
  clear HX HY HF HS HB2
  by_cases hbig : (10 : Int) < (ms.length : Int)
  · go_wp2
    go_ret
    exact ⟨rfl, HF2.out⟩
  by_cases hep : (536870912 : Int) < ep
  · go_wp2
    go_ret
    exact ⟨rfl, HF2.out⟩
  have HEP := Lib.hid hep
  have HL : Hid (ms.length ≤ 10) := Lib.hid (by omega)
  by_cases he : errC ep ms 4 i 0 h = 0
  case neg =>
    have HAP := Lib.hid (apply_not ep ms A c HMX.out 4 i 0 r h hr he w2 HS2.out)
    have e1 : (errC ep ms 4 i 0 h == 0) = false := by simpa using he
    generalize errC ep ms 4 i 0 h = er at *
    clear he
    go_upto_region 14 with (go_at_call 19; (with_reducible refine (HAP.out).mono ?_); rintro e w3 ⟨rfl, hb3⟩; obtain ⟨w4, hst, hb4, hg4⟩ := laid_cfg w3 0 none 0 0; have HBq : Hid (Below w2.heap.size w2 w4) := Lib.hid (hb3.trans (hg4.mono hb3.size)); clear hb3 hb4 hg4)
    clear l1 l2 c0 c1 b1 hst hbig hep e1 HAP
    have HXq := Lib.hid (HX2.out.below HBq.out HX2.out.lt)
    have HYq := Lib.hid (HY2.out.below HBq.out HY2.out.lt)
    have HSq := Lib.hid (HS2.out.far HBq.out)
    have q1 := HXq.out.ld_cfg
    have q2 := ld_ky HR.out (key_rng HYq.out)
    have q3 := bd_chg4 3 i n HR.out h
    have q4 := bd_chg2 2 i
    have HA2S : Hid (∀ w', Below w4.heap.size w4 w' → Calls Try.prog 19 #[.agg (cfgV ep A ms.length c), chgV 2 i 0 z32 0] w' (SomeCfg w')) := Lib.hid (fun w' hb => apply_some ep ms A c HMX.out 2 i 0 z32 0 z32_len w' (HSq.out.far hb))
    by_cases he3 : errC ep ms 3 i n h = 0
    case neg =>
      have HA3 := Lib.hid (apply_not ep ms A c HMX.out 3 i n r h HR.out he3 w4 HSq.out)
      have f1 : (errC ep ms 3 i n h != 0) = true := by simpa using he3
      generalize errC ep ms 3 i n h = er3 at *
      clear he3
      go_upto_region 15 with (go_at_call 19; (with_reducible refine (HA3.out).mono ?_); rintro e wa ⟨rfl, hba⟩; obtain ⟨wb, hsb, hbb, hgb⟩ := laid_cfg wa 0 none 0 0; have HBb : Hid (Below w4.heap.size w4 wb) := Lib.hid (hba.trans (hgb.mono hba.size)); clear hba hbb hgb)
      have qb := (HXq.out.below HBb.out HXq.out.lt).ld_cfg
      have HAb := Lib.hid (HA2S.out wb HBb.out)
      clear q1 q2 q3 hsb HA3 HA2S
      go_upto_region 16 with (go_at_call 19; (with_reducible refine (HAb.out).mono ?_); rintro e wc ⟨ec, Ac, nc, cc, er2, rfl, hbc⟩; obtain ⟨wd, hsd, hbd, hgd⟩ := laid_cfg wc ec Ac nc cc; have HBd : Hid (Below w4.heap.size w4 wd) := Lib.hid ((HBb.out.trans (hbc.mono HBb.out.size)).trans (hgd.mono (HBb.out.trans (hbc.mono HBb.out.size)).size)); clear hbc hbd hgd)
      clear qb q4 hsd HAb
      go_wp2
      go_ret
      exact ⟨rfl, HF2.out.trans ((HBq.out.trans (HBd.out.mono HBq.out.size)).mono HF2.out.size)⟩
    have HE3 := Lib.hid he3
    have HA3 := Lib.hid (apply_ok ep ms A c 3 i n r h HR.out he3 w4 HSq.out)
    clear he3
    go_upto_region 15 with (go_at_call 19; (with_reducible refine (HA3.out).mono ?_); rintro e wa ⟨Aa, ca, rs, rfl, hbh, hoa, hba⟩; have HBH3 := Lib.hid hbh; obtain ⟨wb, hsb, hbb, hgb⟩ := laid_cfg wa (ep + 1) Aa rs.length ca; have HDb := Lib.hid hbb; have HTb : Hid (Mems wb wb.heap.size Aa rs) := Lib.hid (hoa.mems.far hgb); have HBb : Hid (Below w4.heap.size w4 wb) := Lib.hid (hba.trans (hgb.mono hba.size)); clear hbh hoa hba hbb hgb)
    have qb := (HXq.out.below HBb.out HXq.out.lt).ld_cfg
    have HAb := Lib.hid (HA2S.out wb HBb.out)
    clear q1 q2 q3 hsb HA3 HA2S
    generalize wa.heap.size = gr at *
    by_cases he2 : errC ep ms 2 i 0 0 = 0
    case neg =>
      have HA2 := Lib.hid (apply_not ep ms A c HMX.out 2 i 0 z32 0 z32_len he2 wb (HSq.out.far HBb.out))
      have f1 : (errC ep ms 2 i 0 0 != 0) = true := by simpa using he2
      generalize errC ep ms 2 i 0 0 = er2 at *
      clear he2 HAb
      go_upto_region 16 with (go_at_call 19; (with_reducible refine (HA2.out).mono ?_); rintro e wc ⟨rfl, hbc⟩; obtain ⟨wd, hsd, hbd, hgd⟩ := laid_cfg wc 0 none 0 0; have HBd : Hid (Below w4.heap.size w4 wd) := Lib.hid ((HBb.out.trans (hbc.mono HBb.out.size)).trans (hgd.mono (HBb.out.trans (hbc.mono HBb.out.size)).size)); clear hbc hbd hgd)
      clear qb q4 hsd HA2
      go_wp2
      go_ret
      exact ⟨rfl, HF2.out.trans ((HBq.out.trans (HBd.out.mono HBq.out.size)).mono HF2.out.size)⟩
    have HE2 := Lib.hid he2
    have HA2 := Lib.hid (apply_ok ep ms A c 2 i 0 z32 0 z32_len he2 wb (HSq.out.far HBb.out))
    clear he2 HAb
    go_upto_region 18 with (go_at_call 19; (with_reducible refine (HA2.out).mono ?_); rintro e wc ⟨Ac, cc, xs, rfl, hbh, hoc, hbc⟩; have HBH2 := Lib.hid hbh; obtain ⟨wd, hsd, hbd, hgd⟩ := laid_cfg wc (ep + 1) Ac xs.length cc; have HDd := Lib.hid hbd; have HTd : Hid (Mems wd wd.heap.size Ac xs) := Lib.hid (hoc.mems.far hgd); have HWd : Hid (Below wb.heap.size wb wd) := Lib.hid (hbc.trans (hgd.mono hbc.size)); clear hbh hoc hbc hbd hgd)
    clear qb q4 hsd HA2
    generalize wc.heap.size = gx at *
    obtain ⟨p1, p2⟩ := keys_plain HE3.out HE2.out (by have := HEP.out; omega) HBH3.out HBH2.out
    have HP2 := Lib.hid p2
    have HBd : Hid (Below w4.heap.size w4 wd) := Lib.hid (HBb.out.trans (HWd.out.mono HBb.out.size))
    have HA1 := Lib.hid (apply_ok (ep + 1) xs Ac cc 1 n 0 r h HR.out p1 wd HTd.out)
    have q5 := HDd.out.ld_cfg
    have q6 := ld_ky HR.out (key_rng (HYq.out.below HBd.out HYq.out.lt))
    have q7 := bd_chg3 1 n HR.out h
    have HRL : Hid (rs.length ≤ maxLen) := Lib.hid (Nat.le_trans (good_len (HBH3.out.good HE3.out)).2.2.2 (by simp [maxLen]))
    clear p1 p2
    go_upto_region 19 with (go_at_call 19; (with_reducible refine (HA1.out).mono ?_); rintro e we ⟨Ae, ce, zs, rfl, hbh, hoe, hbe⟩; obtain rfl := HP2.out zs hbh; obtain ⟨wf, hsf, hbf, hgf⟩ := laid_cfg we (ep + 1 + 1) Ae zs.length ce; have HDf := Lib.hid hbf; have HTf : Hid (Mems wf wf.heap.size Ae zs) := Lib.hid (hoe.mems.far hgf); have HWf : Hid (Below wd.heap.size wd wf) := Lib.hid (hbe.trans (hgf.mono hbe.size)); clear hbh hoe hbe hbf hgf)
    clear q5 q6 q7 hsf HA1
    generalize we.heap.size = gy at *
    have HWg : Hid (Below wb.heap.size wb wf) := Lib.hid (HWd.out.trans (HWf.out.mono HWd.out.size))
    have HDr := Lib.hid (HDb.out.below HWg.out HDb.out.lt)
    have q8 : wf.cell? ⟨gr, 1, none⟩ = some (.slice Aa zs.length ca) := HDr.out.cell 1
    have q9 : wf.cell? ⟨gy, 1, none⟩ = some (.slice Ae zs.length ce) := HDf.out.cell 1
    have HSM := Lib.hid (same_self 0 zs Aa Ae ca ce HRL.out wf (HTb.out.far HWg.out) HTf.out)
    have HBf : Hid (Below w4.heap.size w4 wf) := Lib.hid (HBb.out.trans (HWg.out.mono HBb.out.size))
    go_wp2_with (go_at_call 20; (with_reducible refine (HSM.out).mono ?_); rintro e wg ⟨rfl, hbg⟩; have HBg : Hid (Below w4.heap.size w4 wg) := Lib.hid (HBf.out.trans (hbg.mono HBf.out.size)); clear hbg)
    go_ret
    exact ⟨rfl, HF2.out.trans ((HBq.out.trans (HBg.out.mono HBq.out.size)).mono HF2.out.size)⟩
  have HE := Lib.hid he
  have HAP := Lib.hid (apply_ok ep ms A c 4 i 0 r h hr he w2 HS2.out)
  clear he
  go_upto_region 7 with (go_at_call 19; (with_reducible refine (HAP.out).mono ?_); rintro e w3 ⟨A', c', ys, rfl, hbh, ho3, hb3⟩; have HRT := Lib.hid (rot_plain HE.out hbh); obtain ⟨w4, hst, hb4, hg4⟩ := laid_cfg w3 (ep + 1) A' ys.length c'; have HD4 := Lib.hid hb4; have HB4 : Hid (Below w2.heap.size w2 w4) := Lib.hid (hb3.trans (hg4.mono hb3.size)); have HT4 : Hid (Mems w4 w4.heap.size A' ys) := Lib.hid (ho3.mems.far hg4); clear hbh ho3 hb3 hb4 hg4)
  clear l1 l2 c0 c1 hst HAP hbig hep b1
  generalize w3.heap.size = gd at *
  have HYL : Hid (ys.length = ms.length) := Lib.hid (by rw [HRT.out, List.length_map])
  have HX4 := Lib.hid (HX2.out.below HB4.out HX2.out.lt)
  have HY4 := Lib.hid (HY2.out.below HB4.out HY2.out.lt)
  have HS4 := Lib.hid (HS2.out.far HB4.out)
  have d1 : w4.cell? ⟨gd, 1, none⟩ = some (.slice A' ys.length c') := HD4.out.cell 1
  go_wp2
  clear d1
  go_loopw [43] (fun q wr => ∃ t : Nat, t ≤ ys.length ∧ q = .int .i64 (t : Int) ∧ Hid (Below w4.heap.size w4 wr)) (fun q _ => ys.length - (intOf q).toNat)
  case atStart => exact ⟨0, Nat.zero_le _, rfl, Lib.hid (Below.refl _ _)⟩
  case round =>
    obtain ⟨t, ht, rfl, HW⟩ := hrel
    have hl : ys.length ≤ 10 := by rw [HYL.out]; exact HL.out
    by_cases hlt : t < ys.length
    · have HLE := Lib.hid hlt
      have hlm : t < ms.length := by rw [← HYL.out]; exact hlt
      obtain ⟨g, oo, rfl, _, hrr⟩ := (HT4.out.far HW.out).range hlt
      have lk := range_mem (hrr t hlt)
      obtain ⟨w5, hst0, hb5, hg5⟩ := laid_mem wr (ys[t]'hlt)
      have hst := hst0
      unfold zmemV at hst
      have HW5 : Hid (Below w4.heap.size w4 w5) := Lib.hid (HW.out.trans (hg5.mono HW.out.size))
      obtain ⟨g', o', rfl, _, hss⟩ := (HS4.out.far HW5.out).range hlm
      have lm := range_mem (hss t hlm)
      obtain ⟨w6, hst1, hb6, hg6⟩ := laid_mem w5 (ms[t]'hlm)
      have hst2 := hst1
      unfold zmemV at hst2
      have HW6 : Hid (Below w4.heap.size w4 w6) := Lib.hid (HW5.out.trans (hg6.mono HW5.out.size))
      have hm6 := hb5.below hg6 hb5.lt
      have hx5 := HX4.out.below HW5.out HX4.out.lt
      have k1 : w5.cell? ⟨w.heap.size, 1, none⟩ = some (.slice (some ⟨g', o', none⟩) ms.length c) := hx5.cell 1
      have m0 : w6.cell? ⟨wr.heap.size, 0, none⟩ = some (.int .i64 (ys[t]'hlt).id) := hm6.cell 0
      have s0 : w6.cell? ⟨w5.heap.size, 0, none⟩ = some (.int .i64 (ms[t]'hlm).id) := hb6.cell 0
      have mk := ld_ky (ys[t]'hlt).len (mem_key hm6)
      have sk := ld_ky (ms[t]'hlm).len (mem_key hb6)
      have yk := ld_ky HR.out (key_rng (HY4.out.below HW6.out HY4.out.lt))
      have i1 : (t : Int) < (ys.length : Int) := by omega
      have i2 : (t : Int) < (ms.length : Int) := by omega
      have wk : IntKind.i64.wrap ((t : Int) + 1) = ((t + 1 : Nat) : Int) := by
        rw [IntKind.wrap_i64]
        omega
      have HYT : Hid (ys[t]'hlt = rotM i ⟨i, r, h, HR.out⟩ (ms[t]'hlm)) := Lib.hid (by
        have e := HRT.out
        have e1 : ys[t]? = (ms.map (rotM i ⟨i, r, h, HR.out⟩))[t]? := by rw [← e]
        rw [List.getElem?_eq_getElem hlt, List.getElem?_map, List.getElem?_eq_getElem hlm] at e1
        injection e1)
      generalize hy : ys[t]'hlt = y at *
      generalize hx : ms[t]'hlm = x at *
      unfold MemX.enc at lk hst lm hst2
      clear hrr hst0 hb5 hg5 hss hst1 hb6 hg6 hm6 hx5 hy hx hlm
      by_cases hxi : x.id = i
      · have e : y = ⟨i, r, h, HR.out⟩ := by rw [HYT.out]; unfold rotM; rw [if_pos hxi]
        have e1 : y.id = i := by rw [e]
        have e2 : y.root = r := by rw [e]
        have e3 : y.high = h := by rw [e]
        rw [e1] at m0
        rw [e2, e3] at mk
        rw [hxi] at s0
        have hq := eq_key_self HR.out h
        generalize y.cells.toArray = yc at *
        generalize x.cells.toArray = xc at *
        clear e e1 e2 e3 hxi HYT sk
        go_wp2
        go_roundw
        case rel => exact ⟨t + 1, HLE.out, by go_num, HW6⟩
        case measure => have := HLE.out; simp [intOf]; omega
      · have e : y = x := by rw [HYT.out]; unfold rotM; rw [if_neg hxi]
        rw [e] at m0 mk lk hst
        have hq := eq_key_self x.len x.high
        have b0 : (x.id == i) = false := by simpa using hxi
        have b1 : (x.id != i) = true := by simpa using hxi
        generalize x.cells.toArray = xc at *
        generalize x.id = xi at *
        clear e hxi HYT
        go_wp2
        go_roundw
        case rel => exact ⟨t + 1, HLE.out, by go_num, HW6⟩
        case measure => have := HLE.out; simp [intOf]; omega
    · have i1 : ¬ (t : Int) < (ys.length : Int) := by omega
      have HBq : Hid (Below w2.heap.size w2 wr) := Lib.hid (HB4.out.trans (HW.out.mono HB4.out.size))
      go_upto_region 14 with fail
      clear i1
      have HXq := Lib.hid (HX2.out.below HBq.out HX2.out.lt)
      have HYq := Lib.hid (HY2.out.below HBq.out HY2.out.lt)
      have HSq := Lib.hid (HS2.out.far HBq.out)
      have q1 := HXq.out.ld_cfg
      have q2 := ld_ky HR.out (key_rng HYq.out)
      have q3 := bd_chg4 3 i n HR.out h
      have q4 := bd_chg2 2 i
      have HA2S : Hid (∀ w', Below wr.heap.size wr w' → Calls Try.prog 19 #[.agg (cfgV ep A ms.length c), chgV 2 i 0 z32 0] w' (SomeCfg w')) := Lib.hid (fun w' hb => apply_some ep ms A c HMX.out 2 i 0 z32 0 z32_len w' (HSq.out.far hb))
      by_cases he3 : errC ep ms 3 i n h = 0
      case neg =>
        have HA3 := Lib.hid (apply_not ep ms A c HMX.out 3 i n r h HR.out he3 wr HSq.out)
        have f1 : (errC ep ms 3 i n h != 0) = true := by simpa using he3
        generalize errC ep ms 3 i n h = er3 at *
        clear he3
        go_upto_region 15 with (go_at_call 19; (with_reducible refine (HA3.out).mono ?_); rintro e wa ⟨rfl, hba⟩; obtain ⟨wb, hsb, hbb, hgb⟩ := laid_cfg wa 0 none 0 0; have HBb : Hid (Below wr.heap.size wr wb) := Lib.hid (hba.trans (hgb.mono hba.size)); clear hba hbb hgb)
        have qb := (HXq.out.below HBb.out HXq.out.lt).ld_cfg
        have HAb := Lib.hid (HA2S.out wb HBb.out)
        clear q1 q2 q3 hsb HA3 HA2S
        go_upto_region 16 with (go_at_call 19; (with_reducible refine (HAb.out).mono ?_); rintro e wc ⟨ec, Ac, nc, cc, er2, rfl, hbc⟩; obtain ⟨wd, hsd, hbd, hgd⟩ := laid_cfg wc ec Ac nc cc; have HBd : Hid (Below wr.heap.size wr wd) := Lib.hid ((HBb.out.trans (hbc.mono HBb.out.size)).trans (hgd.mono (HBb.out.trans (hbc.mono HBb.out.size)).size)); clear hbc hbd hgd)
        clear qb q4 hsd HAb
        go_wp2
        go_ret
        exact ⟨rfl, HF2.out.trans ((HBq.out.trans (HBd.out.mono HBq.out.size)).mono HF2.out.size)⟩
      have HE3 := Lib.hid he3
      have HA3 := Lib.hid (apply_ok ep ms A c 3 i n r h HR.out he3 wr HSq.out)
      clear he3
      go_upto_region 15 with (go_at_call 19; (with_reducible refine (HA3.out).mono ?_); rintro e wa ⟨Aa, ca, rs, rfl, hbh, hoa, hba⟩; have HBH3 := Lib.hid hbh; obtain ⟨wb, hsb, hbb, hgb⟩ := laid_cfg wa (ep + 1) Aa rs.length ca; have HDb := Lib.hid hbb; have HTb : Hid (Mems wb wb.heap.size Aa rs) := Lib.hid (hoa.mems.far hgb); have HBb : Hid (Below wr.heap.size wr wb) := Lib.hid (hba.trans (hgb.mono hba.size)); clear hbh hoa hba hbb hgb)
      have qb := (HXq.out.below HBb.out HXq.out.lt).ld_cfg
      have HAb := Lib.hid (HA2S.out wb HBb.out)
      clear q1 q2 q3 hsb HA3 HA2S
      generalize wa.heap.size = gr at *
      by_cases he2 : errC ep ms 2 i 0 0 = 0
      case neg =>
        have HA2 := Lib.hid (apply_not ep ms A c HMX.out 2 i 0 z32 0 z32_len he2 wb (HSq.out.far HBb.out))
        have f1 : (errC ep ms 2 i 0 0 != 0) = true := by simpa using he2
        generalize errC ep ms 2 i 0 0 = er2 at *
        clear he2 HAb
        go_upto_region 16 with (go_at_call 19; (with_reducible refine (HA2.out).mono ?_); rintro e wc ⟨rfl, hbc⟩; obtain ⟨wd, hsd, hbd, hgd⟩ := laid_cfg wc 0 none 0 0; have HBd : Hid (Below wr.heap.size wr wd) := Lib.hid ((HBb.out.trans (hbc.mono HBb.out.size)).trans (hgd.mono (HBb.out.trans (hbc.mono HBb.out.size)).size)); clear hbc hbd hgd)
        clear qb q4 hsd HA2
        go_wp2
        go_ret
        exact ⟨rfl, HF2.out.trans ((HBq.out.trans (HBd.out.mono HBq.out.size)).mono HF2.out.size)⟩
      have HE2 := Lib.hid he2
      have HA2 := Lib.hid (apply_ok ep ms A c 2 i 0 z32 0 z32_len he2 wb (HSq.out.far HBb.out))
      clear he2 HAb
      go_upto_region 18 with (go_at_call 19; (with_reducible refine (HA2.out).mono ?_); rintro e wc ⟨Ac, cc, xs, rfl, hbh, hoc, hbc⟩; have HBH2 := Lib.hid hbh; obtain ⟨wd, hsd, hbd, hgd⟩ := laid_cfg wc (ep + 1) Ac xs.length cc; have HDd := Lib.hid hbd; have HTd : Hid (Mems wd wd.heap.size Ac xs) := Lib.hid (hoc.mems.far hgd); have HWd : Hid (Below wb.heap.size wb wd) := Lib.hid (hbc.trans (hgd.mono hbc.size)); clear hbh hoc hbc hbd hgd)
      clear qb q4 hsd HA2
      generalize wc.heap.size = gx at *
      obtain ⟨p1, p2⟩ := keys_plain HE3.out HE2.out (by have := HEP.out; omega) HBH3.out HBH2.out
      have HP2 := Lib.hid p2
      have HBd : Hid (Below wr.heap.size wr wd) := Lib.hid (HBb.out.trans (HWd.out.mono HBb.out.size))
      have HA1 := Lib.hid (apply_ok (ep + 1) xs Ac cc 1 n 0 r h HR.out p1 wd HTd.out)
      have q5 := HDd.out.ld_cfg
      have q6 := ld_ky HR.out (key_rng (HYq.out.below HBd.out HYq.out.lt))
      have q7 := bd_chg3 1 n HR.out h
      have HRL : Hid (rs.length ≤ maxLen) := Lib.hid (Nat.le_trans (good_len (HBH3.out.good HE3.out)).2.2.2 (by simp [maxLen]))
      clear p1 p2
      go_upto_region 19 with (go_at_call 19; (with_reducible refine (HA1.out).mono ?_); rintro e we ⟨Ae, ce, zs, rfl, hbh, hoe, hbe⟩; obtain rfl := HP2.out zs hbh; obtain ⟨wf, hsf, hbf, hgf⟩ := laid_cfg we (ep + 1 + 1) Ae zs.length ce; have HDf := Lib.hid hbf; have HTf : Hid (Mems wf wf.heap.size Ae zs) := Lib.hid (hoe.mems.far hgf); have HWf : Hid (Below wd.heap.size wd wf) := Lib.hid (hbe.trans (hgf.mono hbe.size)); clear hbh hoe hbe hbf hgf)
      clear q5 q6 q7 hsf HA1
      generalize we.heap.size = gy at *
      have HWg : Hid (Below wb.heap.size wb wf) := Lib.hid (HWd.out.trans (HWf.out.mono HWd.out.size))
      have HDr := Lib.hid (HDb.out.below HWg.out HDb.out.lt)
      have q8 : wf.cell? ⟨gr, 1, none⟩ = some (.slice Aa zs.length ca) := HDr.out.cell 1
      have q9 : wf.cell? ⟨gy, 1, none⟩ = some (.slice Ae zs.length ce) := HDf.out.cell 1
      have HSM := Lib.hid (same_self 0 zs Aa Ae ca ce HRL.out wf (HTb.out.far HWg.out) HTf.out)
      have HBf : Hid (Below wr.heap.size wr wf) := Lib.hid (HBb.out.trans (HWg.out.mono HBb.out.size))
      go_wp2_with (go_at_call 20; (with_reducible refine (HSM.out).mono ?_); rintro e wg ⟨rfl, hbg⟩; have HBg : Hid (Below wr.heap.size wr wg) := Lib.hid (HBf.out.trans (hbg.mono HBf.out.size)); clear hbg)
      go_ret
      exact ⟨rfl, HF2.out.trans ((HBq.out.trans (HBg.out.mono HBq.out.size)).mono HF2.out.size)⟩
end Go.Proofs.Ytloaidahlagmiaa
