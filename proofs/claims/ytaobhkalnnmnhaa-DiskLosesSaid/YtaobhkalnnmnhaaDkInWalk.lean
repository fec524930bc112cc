/-
  DiskInstalls: the walk.
-/
import Derived.Test.YtaobhkalnnmnhaaPB
import Derived.Test.YtaobhkalnnmnhaaDkInPl
import Derived.Test.YtaobhkalnnmnhaaRA
import Derived.BigQuiet
namespace Go.Proofs.Ytaobhkalnnmnhaa
open Go.RowKit Go.Maps

set_option maxRecDepth 100000 in
theorem DkC.sees {w0 w : World} {base p : Nat} {X : DX} (h : DkC w0 w base p X) {A : Option Addr} {xs : List Value} (hs : Sees w0 base A xs) : Sees w w.heap.size A xs := (hs.below h.below).more h.size
set_option maxRecDepth 100000 in
/-- string(b) of what is seen, at a world that has drawn. -/
theorem convs16 {w : World} {A : Option Addr} {l : List UInt8} {B : Nat} (h : Sees w B A (l.map bv)) (n c : Nat) (hn : n = l.length) : ∀ q, (convert 25 9 (.slice A n c)).run Try.prog (w.drewN q) = .ok (str l) (w.drewN q) := by
  intro q
  subst hn
  have h2 : Sees (w.drewN q) B A (l.map bv) := h.keep fun _ _ => rfl
  exact convert_sees (P := Try.prog) 25 5 9 Try.underlying25 Try.underlying5 Try.underlying9 h2 c
set_option maxRecDepth 100000 in
theorem conv0_16 {w : World} {A : Option Addr} {l : List UInt8} {B : Nat} (h : Sees w B A (l.map bv)) (n c : Nat) (hn : n = l.length) : (convert 25 9 (.slice A n c)).run Try.prog w = .ok (str l) w := convs16 h n c hn 0

set_option maxRecDepth 100000 in
set_option maxHeartbeats 1000000 in
theorem installs_walk (A0 : Option Addr) (c0 : Nat) (old : List UInt8) (A1 : Option Addr) (c1 : Nat) (now : List UInt8) (A2 : Option Addr) (c2 : Nat) (other : List UInt8) (n k : Int) (hn : -9223372036854775808 ≤ n ∧ n < 9223372036854775808) (hk : -9223372036854775808 ≤ k ∧ k < 9223372036854775808)
    (w : World) (hs0 : Sees w w.heap.size A0 (old.map bv)) (hs1 : Sees w w.heap.size A1 (now.map bv)) (hs2 : Sees w w.heap.size A2 (other.map bv)) :
    Calls Try.prog 4 #[.slice A0 old.length c0, .slice A1 now.length c1, .slice A2 other.length c2, .int .i64 n, .int .i64 k] w fun e w' => e = .returned (.bool true) ∧ Below w.heap.size w w' := by
  have HAL := Lib.hid (alive_any16 w)
  have hc : (¬ old.length ≤ 4096 ∨ ¬ now.length ≤ 4096 ∨ ¬ other.length ≤ 4096) ∨ (old.length ≤ 4096 ∧ now.length ≤ 4096 ∧ other.length ≤ 4096) := by omega
  obtain ⟨m0, hm0⟩ : ∃ m, m = old.length := ⟨_, rfl⟩
  obtain ⟨m1, hm1⟩ : ∃ m, m = now.length := ⟨_, rfl⟩
  obtain ⟨m2, hm2⟩ : ∃ m, m = other.length := ⟨_, rfl⟩
  rw [← hm0, ← hm1, ← hm2] at hc ⊢
  have HM0 := Lib.hid hm0
  have HM1 := Lib.hid hm1
  have HM2 := Lib.hid hm2
  have HS0 := Lib.hid hs0
  have HS1 := Lib.hid hs1
  have HS2 := Lib.hid hs2
  clear hs0 hs1 hs2 hm0 hm1 hm2
  rcases hc with hc | ⟨h0, h1, h2⟩
  · by_cases h0 : m0 ≤ 4096
    · by_cases h1 : m1 ≤ 4096
      · have h2 : ¬ m2 ≤ 4096 := by omega
        go_enter Try.func4, Try.ntmps4
        go_wp2_with (go_at_call 8; (with_reducible refine (HAL.out).mono ?_); rintro e w1 ⟨rfl, hb⟩; have HB := Lib.hid hb; clear hb)
        go_ret
        exact ⟨rfl, HB.out⟩
      · go_enter Try.func4, Try.ntmps4
        go_wp2_with (go_at_call 8; (with_reducible refine (HAL.out).mono ?_); rintro e w1 ⟨rfl, hb⟩; have HB := Lib.hid hb; clear hb)
        go_ret
        exact ⟨rfl, HB.out⟩
    · go_enter Try.func4, Try.ntmps4
      go_wp2_with (go_at_call 8; (with_reducible refine (HAL.out).mono ?_); rintro e w1 ⟨rfl, hb⟩; have HB := Lib.hid hb; clear hb)
      go_ret
      exact ⟨rfl, HB.out⟩
  · have l0 : old.length ≤ 4096 := by rw [← HM0.out]; exact h0
    have l1 : now.length ≤ 4096 := by rw [← HM1.out]; exact h1
    have l2 : other.length ≤ 4096 := by rw [← HM2.out]; exact h2
    have ha := nm_small (l := [102]) (by decide)
    have hg := nm_small (l := [103]) (by decide)
    obtain ⟨e5, X5, e6, X6, gd, sb, ac, f, k', hx5, hf5, hx6, hx8, he5⟩ := in_all (old := old) (now := now) (other := other) n k l0 l2 l1
    have hr := in_9 (if n = 1 then old else now) (other ++ gd) sb ac f k'
    rw [← hx8] at hr
    have HPL := Lib.hid (And.intro hx5 (And.intro hf5 (And.intro hx6 hr)))
    have HP1 := Lib.hid (in_1 l0)
    have HP2 := Lib.hid (in_2 l0 l2)
    have HP3 := Lib.hid (in_3 l0 l2)
    have HL := Lib.hid (And.intro l0 (And.intro l1 l2))
    clear hx5 hf5 hx6 hx8 hr l0 l1 l2
    obtain ⟨mg, hmg⟩ : ∃ m, m = (other ++ gd).length := ⟨_, rfl⟩
    have hmg2 : m2 ≤ mg := by rw [hmg, HM2.out, List.length_append]; omega
    have HMG := Lib.hid hmg
    obtain ⟨want, hwant⟩ : ∃ x, x = if n = 1 then old else now := ⟨_, rfl⟩
    rw [← hwant] at HPL
    obtain ⟨mw, hmw⟩ : ∃ m, m = want.length := ⟨_, rfl⟩
    have HMW := Lib.hid hmw
    have HW := Lib.hid hwant
    clear hmg hwant hmw
    go_enter Try.func4, Try.ntmps4
    go_upto_region 5 with (go_at_call 8; (with_reducible refine (HAL.out).mono ?_); rintro e w1 ⟨rfl, hb⟩; have HB := Lib.hid hb; clear hb)
    obtain ⟨base, hbase⟩ : ∃ base, base = w1.heap.size := ⟨_, rfl⟩
    have HN := Lib.hid (dknew_c w1 base hbase)
    have HT0 : Hid (Sees w1 base A0 (old.map bv)) := Lib.hid (by rw [hbase]; exact (HS0.out.below HB.out).more HB.out.size)
    have HT1 : Hid (Sees w1 base A1 (now.map bv)) := Lib.hid (by rw [hbase]; exact (HS1.out.below HB.out).more HB.out.size)
    have HT2 : Hid (Sees w1 base A2 (other.map bv)) := Lib.hid (by rw [hbase]; exact (HS2.out.below HB.out).more HB.out.size)
    have HBS := Lib.hid hbase
    clear hbase HS0 HS1 HS2
    go_upto_region 6 with (go_at_call 9; (with_reducible refine (HN.out).mono ?_); rintro e w2 ⟨p, rfl, hd⟩; have hA := dkinstall_c hd [102] old A0 m0 c0 HM0.out ha (by have := HL.out.1; omega) few_1 (hd.sees HT0.out); rw [HP1.out] at hA; have HA1 := Lib.hid hA; clear hA hd)
    go_upto_region 7 with (go_at_call 16; (with_reducible refine (HA1.out).mono ?_); rintro e w3 ⟨rfl, hd⟩; have hA := dkappend_c hd [103] other A2 m2 c2 HM2.out hg ⟨by show (0 : Int) ≤ 1 ∧ (1 : Int) < 1000000; decide, by show 1 < 1000000; decide⟩ (hd.sees HT2.out); rw [HP2.out] at hA; have HA2 := Lib.hid hA; clear hA hd)
    go_upto_region 8 with (go_at_call 11; (with_reducible refine (HA2.out).mono ?_); rintro e w4 ⟨rfl, hd⟩; have hA := dksync_c hd [103] hg (few_in _ _ _ _ _ _ _ (by decide)); rw [HP3.out] at hA; have HA3 := Lib.hid hA; clear hA hd)
    go_upto_region 9 with (go_at_call 12; (with_reducible refine (HA3.out).mono ?_); rintro e w5 ⟨rfl, hd⟩; have HA4 := Lib.hid (dkarm_c hd n k hn hk); clear hd)
    go_upto_region 10 with (go_at_call 10; (with_reducible refine (HA4.out).mono ?_); rintro e w6 ⟨rfl, hd⟩; have hA := dkinstall_c hd [102] now A1 m1 c1 HM1.out ha (by have := HL.out.2.1; omega) (few_in old other other.length false 3 (max 0 n) k (by decide)) (hd.sees HT1.out); rw [show (inX old other other.length false 3 0 0).arm n k = inX old other other.length false 3 (max 0 n) k from rfl, HPL.out.1] at hA; have HA5 := Lib.hid hA; clear hA hd)
    go_upto_region 11 with (go_at_call 16; (with_reducible refine (HA5.out).mono ?_); rintro e w7 ⟨rfl, hd⟩; have hA := dkappend_c hd [103] now A1 m1 c1 HM1.out hg HPL.out.2.1 (hd.sees HT1.out); rw [HPL.out.2.2.1] at hA; have HA6 := Lib.hid hA; clear hA hd)
    go_upto_region 12 with (go_at_call 11; (with_reducible refine (HA6.out).mono ?_); rintro e w8 ⟨rfl, hd⟩; have HA7 := Lib.hid (dkoff_c hd k hk); clear hd)
    go_upto_region 13 with (go_at_call 13; (with_reducible refine (HA7.out).mono ?_); rintro e w9 ⟨rfl, hd⟩; have HA8 := Lib.hid (dkon_c hd); clear hd)
    go_upto_region 14 with (go_at_call 14; (with_reducible refine (HA8.out).mono ?_); rintro e w10 ⟨rfl, hd⟩; have HA9 := Lib.hid (dkread_c hd [102] want mw 0 HMW.out HPL.out.2.2.2.1 ha); clear hd)
    go_upto_region 15 with (go_at_call 15; (with_reducible refine (HA9.out).mono ?_); rintro e w11 ⟨A3, c3, rfl, ho, hb, hd⟩; have HO1 := Lib.hid ho; have HAA := Lib.hid (dkread_c hd [103] (other ++ gd) mg 0 HMG.out HPL.out.2.2.2.2 hg); clear ho hb hd)
    go_upto_region 16 with (go_at_call 15; (with_reducible refine (HAA.out).mono ?_); rintro e w12 ⟨A4, c4, rfl, ho, hb, hd⟩; have HO2 := Lib.hid ho; have HO3 := Lib.hid (EK.Own.keep HO1.out hb); have HD := Lib.hid hd; clear ho hb hd)
    have hS0 := HD.out.sees HT0.out
    have hS1 := HD.out.sees HT1.out
    have hS2 := HD.out.sees HT2.out
    have k0 := convs16 hS0 m0 c0 HM0.out
    have k1 := convs16 hS1 m1 c1 HM1.out
    have k2 := convs16 hS2 m2 c2 HM2.out
    have j0 := conv0_16 hS0 m0 c0 HM0.out
    have j1 := conv0_16 hS1 m1 c1 HM1.out
    have q3 := convs16 (DB_sees (EK.Own.see HO3.out)) mw c3 HMW.out
    have hown := HO2.out
    rw [HMG.out] at hown
    have hmc : mg ≤ c4 := by rw [HMG.out]; exact hown.bounds.2.1
    have hcut := dk_cut hown (k := m2) (by rw [← HMG.out]; exact hmg2)
    have htk : (other ++ gd).take m2 = other := by rw [HM2.out, List.take_left']; rfl
    rw [htk] at hcut
    have q4 := convs16 (DB_sees (EK.Own.see hcut)) m2 c4 HM2.out
    have HB12 : Hid (Below w.heap.size w w12) := Lib.hid (HB.out.trans (HD.out.below.mono (by rw [HBS.out]; exact HB.out.size)))
    clear hS0 hS1 hS2 hown hcut htk HA9 HAA HA8 HA7 HA6 HA5 HA4 HA3 HA2 HA1 HN HT0 HT1 HT2 HO1 HO2 HO3 HD HPL HP1 HP2 HP3 HL
    by_cases h1n : n = 1
    · have hw2 := HW.out
      subst h1n
      rw [if_pos rfl] at hw2 he5
      subst hw2
      subst he5
      clear HW
      go_upto_region 19 with fail
      go_quiet (fail)
      go_wp2
      go_ret
      exact ⟨rfl, HB12.out.trans ⟨rfl, rfl, rfl, Nat.le_refl _, fun _ _ => rfl⟩⟩
    · have hw2 := HW.out
      rw [if_neg h1n] at hw2 he5
      subst hw2
      subst he5
      clear HW
      have hb1 : (n != 1) = true := by simpa using h1n
      have hb2 : (n == 1) = false := by simpa using h1n
      have hb3 : decide (n = 1) = false := decide_eq_false h1n
      go_upto_region 19 with fail
      go_quiet (fail)
      go_wp2
      go_ret
      exact ⟨rfl, HB12.out.trans ⟨rfl, rfl, rfl, Nat.le_refl _, fun _ _ => rfl⟩⟩
end Go.Proofs.Ytaobhkalnnmnhaa
