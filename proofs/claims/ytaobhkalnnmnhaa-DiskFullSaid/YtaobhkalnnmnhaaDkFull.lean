/-
  DiskFull: the walk.
-/
import Derived.Test.YtaobhkalnnmnhaaDkInWalk
namespace Go.Proofs.Ytaobhkalnnmnhaa
open Go.RowKit Go.Maps

/-- What is full but for so many bytes. -/
def fuX (N : Nat) : DX := ⟨[⟨[98, 105, 103], List.replicate N 0, N⟩], false, 1, 0, 0⟩
set_option maxRecDepth 100000 in
theorem fu_1 {N : Nat} (h : N ≤ 4194304) : newX.install [98, 105, 103] (List.replicate N 0) = (0, fuX N) := by
  have h1 : ¬ (4194304 : Int) < N := by omega
  simp [DX.install, DX.takes, newX, totF, sizeF, lookF, DX.burns, DX.tick, DX.put, putF, openF, hasF, updF, fuX, h1]
set_option maxRecDepth 100000 in
theorem fu_2 {N : Nat} {s b : List UInt8} (hs : s ≠ [98, 105, 103]) (hb : N + b.length ≤ 4194304) : ((fuX N).append s b).1 = 0 ∧ ((fuX N).append s b).2.read s = (b, 0) := by
  have h1 : ¬ (4194304 : Int) - N < b.length := by omega
  have h2 : ¬ ([98, 105, 103] : List UInt8) = s := fun e => hs e.symm
  simp [DX.append, DX.takes, totF, DX.burns, DX.tick, DX.put, putF, openF, hasF, updF, fuX, h1, h2, DX.read, lookF]
set_option maxRecDepth 100000 in
theorem fu_3 {N : Nat} {s b : List UInt8} (hs : s ≠ [98, 105, 103]) (hb : ¬ N + b.length ≤ 4194304) : (fuX N).append s b = (20, fuX N) ∧ (fuX N).install s b = (20, fuX N) ∧ (fuX N).read s = ([], 7) := by
  have h1 : (4194304 : Int) - N < b.length := by omega
  have h2 : ¬ ([98, 105, 103] : List UInt8) = s := fun e => hs e.symm
  simp [DX.append, DX.install, DX.takes, totF, sizeF, fuX, h1, h2, DX.read, lookF]

set_option maxRecDepth 100000 in
theorem dk_make (w : World) (N : Nat) (hN : N ≤ 4194304) (v : Int) (hv : v = N) : (Instr.makeSlice 25 (.int .i64 v) (.int .i64 v)).run Try.prog w = .ok (.slice (some ⟨w.heap.size, 0, none⟩) N N) (w.alloc (.cells ((List.replicate N (0 : UInt8)).map bv).toArray 5)) := by
  obtain ⟨i0, hi, hz0, hz1, hz2⟩ := info_parts byte_info
  subst hv
  have h := run_make (P := Try.prog) w 25 5 i0 (.int .u8 0) Try.underlying25 hi hz0 .i64 .i64 (N : Int) (N : Int) (by omega) (Int.le_refl _) (by rw [hz2]; omega) (by omega)
  simp only [Int.toNat_natCast, hz1, Nat.mul_one] at h
  have e : madeCells #[.int .u8 0] N = ((List.replicate N (0 : UInt8)).map bv).toArray := by
    rw [List.map_replicate]
    apply Array.ext'
    rw [toList_madeCells_one]
    rfl
  have h2 := h
  rw [show (Value.cells (.int .u8 0)) = #[.int .u8 0] from rfl] at h2
  rw [e] at h2
  exact h2

set_option maxRecDepth 100000 in
set_option maxHeartbeats 1000000 in
theorem full_walk (s : List UInt8) (A : Option Addr) (c : Nat) (b : List UInt8) (z : Int) (hz : -9223372036854775808 ≤ z ∧ z < 9223372036854775808) (w : World) (hS : Sees w w.heap.size A (b.map bv)) :
    Calls Try.prog 6 #[str s, .slice A b.length c, .int .i64 z] w fun e w' => e = .returned (.bool true) ∧ Below w.heap.size w w' := by
  have HAL := Lib.hid (alive_any16 w)
  obtain ⟨m, hm⟩ : ∃ m, m = b.length := ⟨_, rfl⟩
  rw [← hm]
  have HM := Lib.hid hm
  have HS := Lib.hid hS
  clear hm hS
  by_cases h0 : m ≤ 4096
  rotate_left
  · go_enter Try.func6, Try.ntmps6
    go_wp2_with (go_at_call 8; (with_reducible refine (HAL.out).mono ?_); rintro e w1 ⟨rfl, hb⟩; have HB := Lib.hid hb; clear hb)
    go_ret
    exact ⟨rfl, HB.out⟩
  by_cases h1 : s.length ≤ 1024
  rotate_left
  · go_enter Try.func6, Try.ntmps6
    go_wp2_with (go_at_call 8; (with_reducible refine (HAL.out).mono ?_); rintro e w1 ⟨rfl, hb⟩; have HB := Lib.hid hb; clear hb)
    go_ret
    exact ⟨rfl, HB.out⟩
  by_cases h2 : 0 ≤ z
  rotate_left
  · go_enter Try.func6, Try.ntmps6
    go_wp2_with (go_at_call 8; (with_reducible refine (HAL.out).mono ?_); rintro e w1 ⟨rfl, hb⟩; have HB := Lib.hid hb; clear hb)
    go_ret
    exact ⟨rfl, HB.out⟩
  by_cases h3 : z ≤ 4096
  rotate_left
  · go_enter Try.func6, Try.ntmps6
    go_wp2_with (go_at_call 8; (with_reducible refine (HAL.out).mono ?_); rintro e w1 ⟨rfl, hb⟩; have HB := Lib.hid hb; clear hb)
    go_ret
    exact ⟨rfl, HB.out⟩
  by_cases h4 : s = [98, 105, 103]
  · subst h4
    go_enter Try.func6, Try.ntmps6
    go_wp2_with (go_at_call 8; (with_reducible refine (HAL.out).mono ?_); rintro e w1 ⟨rfl, hb⟩; have HB := Lib.hid hb; clear hb)
    go_ret
    exact ⟨rfl, HB.out⟩
  obtain ⟨N, hN⟩ : ∃ N : Nat, (N : Int) = 4194304 - z := ⟨(4194304 - z).toNat, by omega⟩
  have hN4 : N ≤ 4194304 := by omega
  have hsm : s.length ≤ maxLen := Nat.le_trans h1 (by decide)
  have hbe : (s == [98, 105, 103]) = false := by simpa using h4
  have hbg := nm_small (l := [98, 105, 103]) (by decide)
  have HN4 := Lib.hid (fu_1 hN4)
  have HZN : Hid ((List.replicate N (0 : UInt8)).length = N) := Lib.hid List.length_replicate
  have HFW : Hid ((fuX N).Few) := Lib.hid ⟨by show (0 : Int) ≤ 1 ∧ (1 : Int) < 1000000; decide, by show 1 < 1000000; decide⟩
  by_cases h5 : (m : Int) ≤ z
  · have HPL := Lib.hid (fu_2 (N := N) (s := s) (b := b) h4 (by rw [← HM.out]; omega))
    have HSM := Lib.hid hsm
    clear hsm
    go_enter Try.func6, Try.ntmps6
    go_upto_region 5 with (go_at_call 8; (with_reducible refine (HAL.out).mono ?_); rintro e w1 ⟨rfl, hb⟩; have HB := Lib.hid hb; clear hb)
    obtain ⟨base, hbase⟩ : ∃ base, base = w1.heap.size := ⟨_, rfl⟩
    have HN := Lib.hid (dknew_c w1 base hbase)
    have HT : Hid (Sees w1 base A (b.map bv)) := Lib.hid (by rw [hbase]; exact (HS.out.below HB.out).more HB.out.size)
    have HBS := Lib.hid hbase
    clear hbase HS
    go_upto_region 6 with (go_at_call 9; (with_reducible refine (HN.out).mono ?_); rintro e w2 ⟨p, rfl, hd⟩; have HD2 := Lib.hid hd; clear hd)
    have hmk := dk_make w2 N hN4 (4194304 - z) hN.symm
    obtain ⟨w3, hw3⟩ : ∃ w3, w3 = w2.alloc (.cells ((List.replicate N (0 : UInt8)).map bv).toArray 5) := ⟨_, rfl⟩
    have hd3 : DkC w1 w3 base p newX := by rw [hw3]; exact HD2.out.call ((Below.refl _ _).alloc (Nat.le_refl _) _)
    have hs3 : Sees w3 w3.heap.size (some ⟨w2.heap.size, 0, none⟩) ((List.replicate N (0 : UInt8)).map bv) := by rw [hw3]; exact dk_lit w2 _ (0, 0)
    have hA := dkinstall_c hd3 [98, 105, 103] (List.replicate N 0) (some ⟨w2.heap.size, 0, none⟩) N N HZN.out.symm hbg (by rw [HZN.out]; omega) few_1 hs3
    rw [HN4.out] at hA
    have HA1 := Lib.hid hA
    rw [← hw3] at hmk
    clear hA hs3 hd3 hw3
    go_upto_region 8 with (go_at_call 16; (with_reducible refine (HA1.out).mono ?_); rintro e w4 ⟨rfl, hd⟩; have HD4 := Lib.hid hd; clear hd)
    clear hmk
    have HAC := Lib.hid (dkacts_any base p (fuX N) w4 HD4.out.is_)
    have hA2 := dkappend_c HD4.out s b A m c HM.out HSM.out HFW.out (HD4.out.sees HT.out)
    rw [HPL.out.1] at hA2
    have HA2 := Lib.hid hA2
    clear hA2
    go_upto_region 14 with (first
      | (go_at_call 17; (with_reducible refine (HAC.out).mono ?_); rintro e w4 ⟨rfl, rfl⟩)
      | (go_at_call 11; (with_reducible refine (HA2.out).mono ?_); rintro e w5 ⟨rfl, hd⟩; have HA3 := Lib.hid (dkread_c hd s b m 0 HM.out HPL.out.2 HSM.out); clear hd))
    go_upto_region 15 with (go_at_call 15; (with_reducible refine (HA3.out).mono ?_); rintro e w6 ⟨A6, c6, rfl, ho, hb, hd⟩; have HO6 := Lib.hid ho; have HD6 := Lib.hid hd; clear ho hb hd)
    have k1 := conv0_16 (HD6.out.sees HT.out) m c HM.out
    have k2 := conv0_16 (DB_sees (EK.Own.see HO6.out)) m c6 HM.out
    have HBB : Hid (Below w.heap.size w w6) := Lib.hid (HB.out.trans (HD6.out.below.mono (by rw [HBS.out]; exact HB.out.size)))
    clear HA1 HA2 HA3 HAC HPL HT HD2 HD4 HD6 HO6
    go_wp2
    go_ret
    exact ⟨rfl, HBB.out⟩
  · have HPL := Lib.hid (fu_3 (N := N) (s := s) (b := b) h4 (by rw [← HM.out]; omega))
    have HSM := Lib.hid hsm
    clear hsm
    go_enter Try.func6, Try.ntmps6
    go_upto_region 5 with (go_at_call 8; (with_reducible refine (HAL.out).mono ?_); rintro e w1 ⟨rfl, hb⟩; have HB := Lib.hid hb; clear hb)
    obtain ⟨base, hbase⟩ : ∃ base, base = w1.heap.size := ⟨_, rfl⟩
    have HN := Lib.hid (dknew_c w1 base hbase)
    have HT : Hid (Sees w1 base A (b.map bv)) := Lib.hid (by rw [hbase]; exact (HS.out.below HB.out).more HB.out.size)
    have HBS := Lib.hid hbase
    clear hbase HS
    go_upto_region 6 with (go_at_call 9; (with_reducible refine (HN.out).mono ?_); rintro e w2 ⟨p, rfl, hd⟩; have HD2 := Lib.hid hd; clear hd)
    have hmk := dk_make w2 N hN4 (4194304 - z) hN.symm
    obtain ⟨w3, hw3⟩ : ∃ w3, w3 = w2.alloc (.cells ((List.replicate N (0 : UInt8)).map bv).toArray 5) := ⟨_, rfl⟩
    have hd3 : DkC w1 w3 base p newX := by rw [hw3]; exact HD2.out.call ((Below.refl _ _).alloc (Nat.le_refl _) _)
    have hs3 : Sees w3 w3.heap.size (some ⟨w2.heap.size, 0, none⟩) ((List.replicate N (0 : UInt8)).map bv) := by rw [hw3]; exact dk_lit w2 _ (0, 0)
    have hA := dkinstall_c hd3 [98, 105, 103] (List.replicate N 0) (some ⟨w2.heap.size, 0, none⟩) N N HZN.out.symm hbg (by rw [HZN.out]; omega) few_1 hs3
    rw [HN4.out] at hA
    have HA1 := Lib.hid hA
    rw [← hw3] at hmk
    clear hA hs3 hd3 hw3
    go_upto_region 8 with (go_at_call 16; (with_reducible refine (HA1.out).mono ?_); rintro e w4 ⟨rfl, hd⟩; have HD4 := Lib.hid hd; clear hd)
    clear hmk
    have HAC := Lib.hid (dkacts_any base p (fuX N) w4 HD4.out.is_)
    have hA2 := dkappend_c HD4.out s b A m c HM.out HSM.out HFW.out (HD4.out.sees HT.out)
    rw [HPL.out.1] at hA2
    have HA2 := Lib.hid hA2
    have HM4 : Hid (b.length ≤ 4096) := Lib.hid (by rw [← HM.out]; exact h0)
    clear hA2
    go_upto_region 14 with (first
      | (go_at_call 17; (with_reducible refine (HAC.out).mono ?_); rintro e w4 ⟨rfl, rfl⟩)
      | (go_at_call 11; (with_reducible refine (HA2.out).mono ?_); rintro e w5 ⟨rfl, hd⟩; have HAD := Lib.hid (dkacts_any base p (fuX N) w5 hd.is_); have hA3 := dkinstall_c hd s b A m c HM.out HSM.out (by have := HM4.out; omega) HFW.out (hd.sees HT.out); rw [HPL.out.2.1] at hA3; have HA3 := Lib.hid hA3; clear hd hA3)
      | (go_at_call 17; (with_reducible refine (HAD.out).mono ?_); rintro e w5 ⟨rfl, rfl⟩)
      | (go_at_call 16; (with_reducible refine (HA3.out).mono ?_); rintro e w7 ⟨rfl, hd⟩; have HA4 := Lib.hid (dkread_c hd s [] 0 7 rfl HPL.out.2.2 HSM.out); clear hd))
    go_upto_region 15 with (go_at_call 15; (with_reducible refine (HA4.out).mono ?_); rintro e w6 ⟨A6, c6, rfl, ho, hb, hd⟩; have HD6 := Lib.hid hd; clear ho hb hd)
    have HBB : Hid (Below w.heap.size w w6) := Lib.hid (HB.out.trans (HD6.out.below.mono (by rw [HBS.out]; exact HB.out.size)))
    clear HA1 HA2 HA3 HAC HPL HT HD2 HD4 HD6
    go_wp2
    go_ret
    exact ⟨rfl, HBB.out⟩
end Go.Proofs.Ytaobhkalnnmnhaa
