/-
  ConfigBack: the walk.
-/
import Derived.Test.YtloaidahlagmiaaCfPlain
import Derived.Test.YtloaidahlagmiaaCfAlive
namespace Go.Proofs.Ytloaidahlagmiaa
open Go.RowKit Go.Sort

attribute [local go_sem ↓] ldMem_def stMem_def eqMem_def bdMem_def ldChg_def ldCfg_def stCfg_def bdChg_def ldKy_def eqKey_def

set_option maxRecDepth 100000 in
theorem key_rng {w : World} {g : Nat} {t : TypeId} {r : List UInt8} {h : Int} (hb : Box w g t (keyV r h)) : w.rangeAt g 0 (keyL r h) := hb.range
set_option maxRecDepth 100000 in
theorem mem_key {w : World} {g : Nat} {t : TypeId} {x : MemX} (hb : Box w g t x.cells.toArray) : w.rangeAt g 1 (keyL x.root x.high) := by
  intro j v hj
  have := hb.range (j + 1) v (by unfold MemX.cells memL; simpa using hj)
  rw [Nat.zero_add, Nat.add_comm j 1] at this
  exact this
set_option maxRecDepth 100000 in
theorem eq_key_self {r : List UInt8} (hr : r.length = 32) (h : Int) (w : World) : (eqKey (.agg (keyV r h)) (.agg (keyV r h))).run Try.prog w = .ok true w := by
  have := eq_key r r h h hr hr w
  rw [decide_eq_true rfl, decide_eq_true rfl] at this
  exact this
set_option maxRecDepth 100000 in
theorem same_self (ep : Int) (ms : List MemX) (A A' : Option Addr) (c c' : Nat) (hm : ms.length ≤ maxLen) (w : World) (hS : Mems w w.heap.size A ms) (hT : Mems w w.heap.size A' ms) :
    Calls Try.prog 20 #[.agg (cfgV ep A ms.length c), .agg (cfgV ep A' ms.length c')] w fun e w' => e = .returned (.bool true) ∧ Below w.heap.size w w' := by
  have h := same_any8 ep ms A c ep ms A' c' hm hm w hS hT
  unfold sameB at h
  rw [decide_eq_true rfl, decide_eq_true rfl] at h
  exact h

set_option maxRecDepth 100000 in
set_option maxHeartbeats 8000000 in
theorem back_walk (ep : Int) (ms : List MemX) (A : Option Addr) (c : Nat) (hn : ms.length ≤ maxLen) (i : Int) (r : List UInt8) (h : Int) (hr : r.length = 32) (w : World) (hS : Mems w w.heap.size A ms) :
    Calls Try.prog 7 #[.agg (cfgV ep A ms.length c), .int .i64 i, .agg (keyV r h)] w fun e w' => e = .returned (.bool true) ∧ Below w.heap.size w w' := by
  obtain ⟨w1, hw1⟩ : ∃ w1, w1 = (w.alloc (.cells (cfgV ep A ms.length c) 24)).alloc (.cells (keyV r h) 29) := ⟨_, rfl⟩
  have HX : Hid (Box w1 w.heap.size 24 (cfgV ep A ms.length c)) := by
    rw [hw1]
    exact (Box.made w _ _).alloc _
  have HY : Hid (Box w1 (w.heap.size + 1) 29 (keyV r h)) := by
    rw [hw1]
    exact Box.made_at (by simp) _ _
  have HF : Hid (Below w.heap.size w w1) := by
    rw [hw1]
    exact ((Below.refl _ _).alloc (Nat.le_refl _) _).alloc (by simp) _
  have HS := Lib.hid (hS.far HF.out)
  have HMX := Lib.hid hn
  have HR := Lib.hid hr
  clear hS hn
  go_enter Try.func7, Try.ntmps7
  go_upto_region 1 with fail
  change Code.wp _ _ _ _ ((w.alloc (.cells (cfgV ep A ms.length c) 24)).alloc (.cells (keyV r h) 29))
  rw [← hw1]
  clear hw1
  go_upto_region 3 with (go_at_call 9; (with_reducible refine (alive_any8 _).mono ?_); rintro e w2 ⟨rfl, hb2⟩; have HB2 := Lib.hid hb2; clear hb2)
  have HX2 := Lib.hid (HX.out.below HB2.out HX.out.lt)
  have HY2 := Lib.hid (HY.out.below HB2.out HY.out.lt)
  have HF2 : Hid (Below w.heap.size w w2) := Lib.hid (HF.out.trans (HB2.out.mono HF.out.size))
  have HS2 := Lib.hid (HS.out.far HB2.out)
  have l1 := HX2.out.ld_cfg
  have l2 := ld_ky HR.out (key_rng HY2.out)
  have c0 : w2.cell? ⟨w.heap.size, 0, none⟩ = some (.int .i64 ep) := HX2.out.cell 0
  have c1 : w2.cell? ⟨w.heap.size, 1, none⟩ = some (.slice A ms.length c) := HX2.out.cell 1
  have b1 := bd_chg3 1 i hr h
  clear HX HY HF HS HB2
  by_cases hbig : (10 : Int) < (ms.length : Int)
  · go_wp2
    go_ret
    exact ⟨rfl, HF2.out⟩
  by_cases hep : (536870912 : Int) < ep
  · go_wp2
    go_ret
    exact ⟨rfl, HF2.out⟩
  by_cases he : errC ep ms 1 i 0 h = 0
  case neg =>
    have HAP := Lib.hid (apply_not ep ms A c HMX.out 1 i 0 r h hr he w2 HS2.out)
    have e1 : (errC ep ms 1 i 0 h != 0) = true := by simpa using he
    generalize errC ep ms 1 i 0 h = er at *
    clear he
    go_wp2_with (go_at_call 19; (with_reducible refine (HAP.out).mono ?_); rintro e w3 ⟨rfl, hb3⟩; obtain ⟨w4, hst, hb4, hg4⟩ := laid_cfg w3 0 none 0 0; have HB4 : Hid (Below w2.heap.size w2 w4) := Lib.hid (hb3.trans (hg4.mono hb3.size)); clear hb3 hb4 hg4)
    go_ret
    exact ⟨rfl, HF2.out.trans (HB4.out.mono HF2.out.size)⟩
  have HE := Lib.hid he
  have HEP := Lib.hid hep
  have HAP := Lib.hid (apply_ok ep ms A c 1 i 0 r h hr he w2 HS2.out)
  clear he
  go_upto_region 8 with (go_at_call 19; (with_reducible refine (HAP.out).mono ?_); rintro e w3 ⟨A', c', ys, rfl, hbh, ho3, hb3⟩; have HBH := Lib.hid hbh; obtain ⟨w4, hst, hb4, hg4⟩ := laid_cfg w3 (ep + 1) A' ys.length c'; have HD4 := Lib.hid hb4; have HB4 : Hid (Below w2.heap.size w2 w4) := Lib.hid (hb3.trans (hg4.mono hb3.size)); have HT4 : Hid (Mems w4 w4.heap.size A' ys) := Lib.hid (ho3.mems.far hg4); clear hbh ho3 hb3 hb4 hg4)
  clear l1 l2 c0 c1 hst HAP hbig hep b1
  generalize w3.heap.size = gd at *
  have HX4 := Lib.hid (HX2.out.below HB4.out HX2.out.lt)
  have HY4 := Lib.hid (HY2.out.below HB4.out HY2.out.lt)
  have HS4 := Lib.hid (HS2.out.far HB4.out)
  have HF4 : Hid (Below w.heap.size w w4) := Lib.hid (HF2.out.trans (HB4.out.mono HF2.out.size))
  obtain ⟨p1, p2, p3, p4⟩ := back_plain HE.out (by have := HEP.out; omega) HBH.out
  have HGD := Lib.hid (HBH.out.good HE.out)
  have HLY : Hid (ys.length ≤ 10) := Lib.hid (good_len HGD.out).2.2.2
  have HFI := Lib.hid (find_any ys (ep + 1) A' c' (Nat.le_trans HLY.out (by simp [maxLen])) i w4 HT4.out)
  rw [p1, p2] at HFI
  have HAQ : Hid (∀ w', Below w4.heap.size w4 w' → Calls Try.prog 19 #[.agg (cfgV (ep + 1) A' ys.length c'), chgV 2 i 0 z32 0] w' (ApplyIs (ep + 1) ys 2 i 0 z32 0 rfl w')) := Lib.hid (fun w' hb => apply_ok (ep + 1) ys A' c' 2 i 0 z32 0 rfl p3 w' (HT4.out.far hb))
  have HZS := Lib.hid p4
  have HG0 := Lib.hid (good_len (err0 HE.out).1)
  have l1 := HD4.out.ld_cfg
  have b2 := bd_chg2 2 i
  obtain ⟨xm, hxm⟩ : ∃ xm : MemX, xm = ⟨i, r, h, hr⟩ := ⟨_, rfl⟩
  rw [← hxm] at HFI
  unfold MemX.enc at HFI
  have HXM : Hid (xm.root = r ∧ xm.high = h) := Lib.hid (by rw [hxm]; exact ⟨rfl, rfl⟩)
  clear p1 p2 p3 p4 HX2 HY2 HS2 HB4 hxm
  generalize findN ys i = fn at *
  go_upto_region 9 with (go_at_call 10; (with_reducible refine (HFI.out).mono ?_); rintro e w5 ⟨rfl, hb5⟩; obtain ⟨w6, hst, hb6, hg6⟩ := laid_mem w5 xm; unfold MemX.enc zmemV at hst; have HM6 := Lib.hid hb6; have HB6 : Hid (Below w4.heap.size w4 w6) := Lib.hid (hb5.trans (hg6.mono hb5.size)); clear hb5 hb6 hg6)
  clear l1 hst HFI
  generalize w5.heap.size = gm at *
  have HD6 := Lib.hid (HD4.out.below HB6.out HD4.out.lt)
  have l1 := HD6.out.ld_cfg
  have HAQ6 := Lib.hid (HAQ.out w6 HB6.out)
  go_upto_region 10 with (go_at_call 19; (with_reducible refine (HAQ6.out).mono ?_); rintro e w7 ⟨A3, c3, zs, rfl, hbz, ho7, hb7⟩; obtain rfl := HZS.out zs hbz; obtain ⟨w8, hst, hb8, hg8⟩ := laid_cfg w7 (ep + 1 + 1) A3 zs.length c3; have HZ8 := Lib.hid hb8; have HW8 : Hid (Below w6.heap.size w6 w8) := Lib.hid (hb7.trans (hg8.mono hb7.size)); have HB8 : Hid (Below w4.heap.size w4 w8) := Lib.hid (HB6.out.trans (HW8.out.mono HB6.out.size)); have HU8 : Hid (Mems w8 w8.heap.size A3 zs) := Lib.hid (ho7.mems.far hg8); clear hbz ho7 hb7 hb8 hg8)
  clear l1 hst HAQ HAQ6 b2
  generalize w7.heap.size = gx at *
  have HX8 := Lib.hid (HX4.out.below HB8.out HX4.out.lt)
  have HY8 := Lib.hid (HY4.out.below HB8.out HY4.out.lt)
  have HM8 := Lib.hid (HM6.out.below HW8.out HM6.out.lt)
  have c0 : w8.cell? ⟨w.heap.size, 0, none⟩ = some (.int .i64 ep) := HX8.out.cell 0
  have x0 : w8.cell? ⟨gx, 0, none⟩ = some (.int .i64 (ep + 1 + 1)) := HZ8.out.cell 0
  have x1 : w8.cell? ⟨gx, 1, none⟩ = some (.slice A3 zs.length c3) := HZ8.out.cell 1
  have lc := HX8.out.ld_cfg
  have lm := ld_ky xm.len (mem_key HM8.out)
  rw [HXM.out.1, HXM.out.2] at lm
  have lk := ld_ky HR.out (key_rng HY8.out)
  have hq := eq_key_self HR.out h
  have wep : IntKind.i64.wrap (ep + 2) = ep + 1 + 1 := by
    rw [IntKind.wrap_i64]
    have := HG0.out
    omega
  have HSM := Lib.hid (same_self ep zs A3 A c3 c HMX.out w8 HU8.out (HS4.out.far HB8.out))
  have he2 : ep + 1 + 1 = ep + 2 := by omega
  have HE2 := Lib.hid he2
  clear he2
  go_wp2_with (go_at_call 20; (with_reducible refine (HSM.out).mono ?_); rintro e w9 ⟨rfl, hb9⟩; have HB9 : Hid (Below w4.heap.size w4 w9) := Lib.hid (HB8.out.trans (hb9.mono HB8.out.size)); clear hb9)
  go_ret
  exact ⟨rfl, HF4.out.trans (HB9.out.mono HF4.out.size)⟩
end Go.Proofs.Ytloaidahlagmiaa
