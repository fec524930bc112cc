/-
  DiskApart: the walk.
-/
import Derived.Test.YtaobhkalnnmnhaaDkInWalk
import Derived.Test.YtaobhkalnnmnhaaDkNames
namespace Go.Proofs.Ytaobhkalnnmnhaa
open Go.RowKit Go.Maps

def apX (a b c : List UInt8) (sa sc : Nat) (n : Int) : DX := ⟨[⟨[97], a, sa⟩, ⟨[98], b, b.length⟩, ⟨[99], c, sc⟩], false, n, 0, 0⟩
def ap1 (a : List UInt8) : DX := ⟨[⟨[97], a, 0⟩], false, 1, 0, 0⟩
def ap2 (a b : List UInt8) : DX := ⟨[⟨[97], a, 0⟩, ⟨[98], b, b.length⟩], false, 2, 0, 0⟩
set_option maxRecDepth 100000 in
theorem ap_1 {a : List UInt8} (h : a.length ≤ 4096) : newX.append [97] a = (0, ap1 a) := by
  have h1 : ¬ (4194304 : Int) < a.length := by omega
  simp [DX.append, DX.takes, newX, totF, DX.burns, DX.tick, DX.put, putF, openF, hasF, updF, ap1, h1]
set_option maxRecDepth 100000 in
theorem ap_2 {a b : List UInt8} (h : a.length ≤ 4096) (h2 : b.length ≤ 4096) : (ap1 a).install [98] b = (0, ap2 a b) := by
  have h1 : ¬ (4194304 : Int) - a.length < b.length := by omega
  simp [DX.install, DX.takes, totF, sizeF, lookF, DX.burns, DX.tick, DX.put, putF, openF, hasF, updF, ap1, ap2, h1]
set_option maxRecDepth 100000 in
theorem ap_3 {a b c : List UInt8} (h : a.length ≤ 4096) (h2 : b.length ≤ 4096) (h3 : c.length ≤ 4096) : (ap2 a b).append [99] c = (0, apX a b c 0 0 3) := by
  have h1 : ¬ (4194304 : Int) - ((a.length : Int) + b.length) < c.length := by omega
  simp [DX.append, DX.takes, totF, DX.burns, DX.tick, DX.put, putF, openF, hasF, updF, ap2, apX, h1]
set_option maxRecDepth 100000 in
theorem ap_4 {a b c : List UInt8} (h : a.length ≤ 4096) (h2 : b.length ≤ 4096) (h3 : c.length ≤ 4096) : (apX a b c 0 0 3).sync [99] = (0, apX a b c 0 c.length 4) := by
  have h1 : ¬ (4194304 : Int) - ((a.length : Int) + ((b.length : Int) + c.length)) < 0 := by omega
  simp [DX.sync, DX.takes, totF, DX.burns, DX.tick, DX.put, putF, openF, hasF, updF, apX, h1]
set_option maxRecDepth 100000 in
theorem ap_5 {a b c : List UInt8} (_ : a.length ≤ 4096) (h2 : b.length ≤ 4096) (h3 : c.length ≤ 4096) : (apX a b c 0 c.length 4).install [97] c = (0, apX c b c c.length c.length 5) := by
  have h1 : ¬ (4194304 : Int) - ((a.length : Int) + ((b.length : Int) + c.length)) < (c.length : Int) - a.length := by omega
  simp [DX.install, DX.takes, totF, sizeF, lookF, DX.burns, DX.tick, DX.put, putF, openF, hasF, updF, apX, h1]
set_option maxRecDepth 100000 in
theorem ap_6 (b c : List UInt8) : (apX c b c c.length c.length 5).read [98] = (b, 0) ∧ (apX c b c c.length c.length 5).read [99] = (c, 0) ∧ (apX c b c c.length c.length 5).read [97] = (c, 0) := ⟨rfl, rfl, rfl⟩
set_option maxRecDepth 100000 in
theorem few_ap1 (a : List UInt8) : (ap1 a).Few := ⟨by show (0 : Int) ≤ 1 ∧ (1 : Int) < 1000000; decide, by show 1 < 1000000; decide⟩
set_option maxRecDepth 100000 in
theorem few_ap2 (a b : List UInt8) : (ap2 a b).Few := ⟨by show (0 : Int) ≤ 2 ∧ (2 : Int) < 1000000; decide, by show 2 < 1000000; decide⟩
set_option maxRecDepth 100000 in
theorem few_apX (a b c : List UInt8) (sa sc : Nat) (n : Int) (h : 0 ≤ n ∧ n < 1000000) : (apX a b c sa sc n).Few := ⟨h, by show 3 < 1000000; decide⟩

set_option maxRecDepth 100000 in
set_option maxHeartbeats 1000000 in
theorem apart_walk (A0 : Option Addr) (c0 : Nat) (a : List UInt8) (A1 : Option Addr) (c1 : Nat) (b : List UInt8) (A2 : Option Addr) (c2 : Nat) (c : List UInt8) (w : World) (hs0 : Sees w w.heap.size A0 (a.map bv)) (hs1 : Sees w w.heap.size A1 (b.map bv)) (hs2 : Sees w w.heap.size A2 (c.map bv)) :
    Calls Try.prog 7 #[.slice A0 a.length c0, .slice A1 b.length c1, .slice A2 c.length c2] w fun e w' => e = .returned (.bool true) ∧ Below w.heap.size w w' := by
  have HAL := Lib.hid (alive_any16 w)
  obtain ⟨m0, hm0⟩ : ∃ m, m = a.length := ⟨_, rfl⟩
  obtain ⟨m1, hm1⟩ : ∃ m, m = b.length := ⟨_, rfl⟩
  obtain ⟨m2, hm2⟩ : ∃ m, m = c.length := ⟨_, rfl⟩
  rw [← hm0, ← hm1, ← hm2]
  have HM0 := Lib.hid hm0
  have HM1 := Lib.hid hm1
  have HM2 := Lib.hid hm2
  have HS0 := Lib.hid hs0
  have HS1 := Lib.hid hs1
  have HS2 := Lib.hid hs2
  clear hs0 hs1 hs2 hm0 hm1 hm2
  by_cases h0 : m0 ≤ 4096
  rotate_left
  · go_enter Try.func7, Try.ntmps7
    go_wp2_with (go_at_call 8; (with_reducible refine (HAL.out).mono ?_); rintro e w1 ⟨rfl, hb⟩; have HB := Lib.hid hb; clear hb)
    go_ret
    exact ⟨rfl, HB.out⟩
  by_cases h1 : m1 ≤ 4096
  rotate_left
  · go_enter Try.func7, Try.ntmps7
    go_wp2_with (go_at_call 8; (with_reducible refine (HAL.out).mono ?_); rintro e w1 ⟨rfl, hb⟩; have HB := Lib.hid hb; clear hb)
    go_ret
    exact ⟨rfl, HB.out⟩
  by_cases h2 : m2 ≤ 4096
  rotate_left
  · go_enter Try.func7, Try.ntmps7
    go_wp2_with (go_at_call 8; (with_reducible refine (HAL.out).mono ?_); rintro e w1 ⟨rfl, hb⟩; have HB := Lib.hid hb; clear hb)
    go_ret
    exact ⟨rfl, HB.out⟩
  have l0 : a.length ≤ 4096 := by rw [← HM0.out]; exact h0
  have l1 : b.length ≤ 4096 := by rw [← HM1.out]; exact h1
  have l2 : c.length ≤ 4096 := by rw [← HM2.out]; exact h2
  have na := nm_small (l := [97]) (by decide)
  have nb := nm_small (l := [98]) (by decide)
  have nc := nm_small (l := [99]) (by decide)
  have HP := Lib.hid (And.intro (ap_1 l0) (And.intro (ap_2 l0 l1) (And.intro (ap_3 l0 l1 l2) (And.intro (ap_4 l0 l1 l2) (And.intro (ap_5 l0 l1 l2) (ap_6 b c))))))
  have HL := Lib.hid (And.intro l0 (And.intro l1 l2))
  clear l0 l1 l2
  go_enter Try.func7, Try.ntmps7
  go_upto_region 5 with (go_at_call 8; (with_reducible refine (HAL.out).mono ?_); rintro e w1 ⟨rfl, hb⟩; have HB := Lib.hid hb; clear hb)
  obtain ⟨base, hbase⟩ : ∃ base, base = w1.heap.size := ⟨_, rfl⟩
  have HN := Lib.hid (dknew_c w1 base hbase)
  have HT0 : Hid (Sees w1 base A0 (a.map bv)) := Lib.hid (by rw [hbase]; exact (HS0.out.below HB.out).more HB.out.size)
  have HT1 : Hid (Sees w1 base A1 (b.map bv)) := Lib.hid (by rw [hbase]; exact (HS1.out.below HB.out).more HB.out.size)
  have HT2 : Hid (Sees w1 base A2 (c.map bv)) := Lib.hid (by rw [hbase]; exact (HS2.out.below HB.out).more HB.out.size)
  have HBS := Lib.hid hbase
  clear hbase HS0 HS1 HS2
  go_upto_region 6 with (go_at_call 9; (with_reducible refine (HN.out).mono ?_); rintro e w2 ⟨p, rfl, hd⟩; have hA := dkappend_c hd [97] a A0 m0 c0 HM0.out na few_1 (hd.sees HT0.out); rw [HP.out.1] at hA; have HA1 := Lib.hid hA; clear hA hd)
  go_upto_region 7 with (go_at_call 11; (with_reducible refine (HA1.out).mono ?_); rintro e w3 ⟨rfl, hd⟩; have hA := dkinstall_c hd [98] b A1 m1 c1 HM1.out nb (by have := HL.out.2.1; omega) (few_ap1 a) (hd.sees HT1.out); rw [HP.out.2.1] at hA; have HA2 := Lib.hid hA; clear hA hd)
  go_upto_region 8 with (go_at_call 16; (with_reducible refine (HA2.out).mono ?_); rintro e w4 ⟨rfl, hd⟩; have hA := dkappend_c hd [99] c A2 m2 c2 HM2.out nc (few_ap2 a b) (hd.sees HT2.out); rw [HP.out.2.2.1] at hA; have HA3 := Lib.hid hA; clear hA hd)
  go_upto_region 9 with (go_at_call 11; (with_reducible refine (HA3.out).mono ?_); rintro e w5 ⟨rfl, hd⟩; have hA := dksync_c hd [99] nc (few_apX _ _ _ _ _ _ (by decide)); rw [HP.out.2.2.2.1] at hA; have HA4 := Lib.hid hA; clear hA hd)
  go_upto_region 10 with (go_at_call 12; (with_reducible refine (HA4.out).mono ?_); rintro e w6 ⟨rfl, hd⟩; have hA := dkinstall_c hd [97] c A2 m2 c2 HM2.out na (by have := HL.out.2.2; omega) (few_apX _ _ _ _ _ _ (by decide)) (hd.sees HT2.out); rw [HP.out.2.2.2.2.1] at hA; have HA5 := Lib.hid hA; clear hA hd)
  go_upto_region 11 with (go_at_call 16; (with_reducible refine (HA5.out).mono ?_); rintro e w7 ⟨rfl, hd⟩; have HA6 := Lib.hid (dkread_c hd [98] b m1 0 HM1.out HP.out.2.2.2.2.2.1 nb); clear hd)
  go_upto_region 12 with (go_at_call 15; (with_reducible refine (HA6.out).mono ?_); rintro e w8 ⟨A3, c3, rfl, ho, hb, hd⟩; have HO8 := Lib.hid ho; have HA7 := Lib.hid (dkread_c hd [99] c m2 0 HM2.out HP.out.2.2.2.2.2.2.1 nc); clear ho hb hd)
  go_upto_region 13 with (go_at_call 15; (with_reducible refine (HA7.out).mono ?_); rintro e w9 ⟨A4, c4, rfl, ho, hb, hd⟩; have HO9 := Lib.hid ho; have HQ9 := Lib.hid (EK.Own.keep HO8.out hb); have HA8 := Lib.hid (dkread_c hd [97] c m2 0 HM2.out HP.out.2.2.2.2.2.2.2 na); clear ho hb hd)
  go_upto_region 14 with (go_at_call 15; (with_reducible refine (HA8.out).mono ?_); rintro e w10 ⟨A5, c5, rfl, ho, hb, hd⟩; have HO10 := Lib.hid ho; have HQ10 := Lib.hid (EK.Own.keep HQ9.out hb); have HR10 := Lib.hid (EK.Own.keep HO9.out hb); have HD := Lib.hid hd; clear ho hb hd)
  have k1 := conv0_16 (HD.out.sees HT1.out) m1 c1 HM1.out
  have k2 := conv0_16 (HD.out.sees HT2.out) m2 c2 HM2.out
  have q3 := conv0_16 (DB_sees (EK.Own.see HQ10.out)) m1 c3 HM1.out
  have q4 := conv0_16 (DB_sees (EK.Own.see HR10.out)) m2 c4 HM2.out
  have q5 := conv0_16 (DB_sees (EK.Own.see HO10.out)) m2 c5 HM2.out
  have HNM := Lib.hid (dknames_any base p _ rfl (few_apX c b c c.length c.length 5 (by decide)) w10 HD.out.is_)
  have HB10 : Hid (Below w.heap.size w w10) := Lib.hid (HB.out.trans (HD.out.below.mono (by rw [HBS.out]; exact HB.out.size)))
  have HSZ : Hid (w.heap.size ≤ w10.heap.size) := Lib.hid HB10.out.size
  have e3 : (apX c b c c.length c.length 5).fs.length = 3 := rfl
  rw [e3] at HNM
  clear e3 HD HO8 HO9 HO10 HQ9 HQ10 HR10 HA1 HA2 HA3 HA4 HA5 HA6 HA7 HA8 HT0 HT1 HT2 HP HN
  go_wp2_with (go_at_call 18; (with_reducible refine (HNM.out).mono ?_); rintro e w11 ⟨A6, c6, rfl, hb⟩; have HB11 := Lib.hid (HB10.out.trans (hb.mono HSZ.out)); clear hb)
  go_ret
  exact ⟨rfl, HB11.out⟩
end Go.Proofs.Ytaobhkalnnmnhaa
