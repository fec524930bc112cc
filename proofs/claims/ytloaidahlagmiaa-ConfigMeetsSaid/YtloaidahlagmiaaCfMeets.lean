/-
  ConfigMeets: the walk.
-/
import Derived.Test.YtloaidahlagmiaaCfAlive
namespace Go.Proofs.Ytloaidahlagmiaa
open Go.RowKit Go.Sort

set_option maxRecDepth 100000 in
theorem meet_more {n : Nat} (h : 1 ≤ n) : 2 * faultsN n < quorumN n ∧ quorumN n + faultsN n ≤ n ∧ n + faultsN n < 2 * quorumN n ∧ quorumN n ≤ n + 1 ∧ faultsN n ≤ n := by
  unfold quorumN faultsN
  omega

set_option maxRecDepth 100000 in
set_option maxHeartbeats 8000000 in
theorem meets_walk (ep : Int) (ms : List MemX) (A : Option Addr) (c : Nat) (hn : ms.length ≤ maxLen) (a b : Int) (ha : 0 ≤ a ∧ a ≤ 18446744073709551615) (hb : 0 ≤ b ∧ b ≤ 18446744073709551615) (w : World) :
    Calls Try.prog 4 #[.agg (cfgV ep A ms.length c), .int .u64 a, .int .u64 b] w fun e w' => e = .returned (.bool true) ∧ Below w.heap.size w w' := by
  obtain ⟨w1, hw1⟩ : ∃ w1, w1 = w.alloc (.cells (cfgV ep A ms.length c) 24) := ⟨_, rfl⟩
  have HX : Hid (Box w1 w.heap.size 24 (cfgV ep A ms.length c)) := by
    rw [hw1]
    exact Box.made _ _ _
  have HF : Hid (Below w.heap.size w w1) := by
    rw [hw1]
    exact (Below.refl _ _).alloc (Nat.le_refl _) _
  have HN : Hid (ms.length ≤ 9223372036854775807) := Lib.hid (Nat.le_trans hn (by simp [maxLen]))
  have HA := Lib.hid ha
  have HB := Lib.hid hb
  clear hn ha hb
  go_enter Try.func4, Try.ntmps4
  go_upto_region 1 with fail
  change Code.wp _ _ _ _ (w.alloc (.cells (cfgV ep A ms.length c) 24))
  rw [← hw1]
  clear hw1
  go_upto_region 3 with (go_at_call 9; (with_reducible refine (alive_any8 _).mono ?_); rintro e w2 ⟨rfl, hb2⟩; have HB2 := Lib.hid hb2; clear hb2)
  have HX2 := Lib.hid (HX.out.below HB2.out HX.out.lt)
  have HF2 : Hid (Below w.heap.size w w2) := Lib.hid (HF.out.trans (HB2.out.mono HF.out.size))
  have c0 : w2.cell? ⟨w.heap.size, 0, none⟩ = some (.int .i64 ep) := HX2.out.cell 0
  have c1 : w2.cell? ⟨w.heap.size, 1, none⟩ = some (.slice A ms.length c) := HX2.out.cell 1
  clear HX HF HB2
  generalize hnn : ms.length = n at *
  clear hnn ms
  by_cases h1 : (n : Int) < 1
  · go_wp2
    go_ret
    exact ⟨rfl, HF2.out⟩
  by_cases h60 : (60 : Int) < (n : Int)
  · go_wp2
    go_ret
    exact ⟨rfl, HF2.out⟩
  have HM := Lib.hid (meet_more (n := n) (by omega))
  have HL : Hid (n ≤ 60) := Lib.hid (by omega)
  have HQU := Lib.hid (quorum_any ep A n c (by omega) w2)
  have HWE : Hid (∀ w', Calls Try.prog 18 #[.agg (cfgV ep A n c)] w' fun e w'' => e = .returned (.int .i64 ((faultsN n + 1 : Nat) : Int)) ∧ Below w'.heap.size w' w'') := Lib.hid (fun w' => weak_any ep A n c (by omega) w')
  have HFA : Hid (∀ w', Calls Try.prog 14 #[.agg (cfgV ep A n c)] w' fun e w'' => e = .returned (.int .i64 ((faultsN n : Nat) : Int)) ∧ Below w'.heap.size w' w'') := Lib.hid (fun w' => faults_any ep A n c (by omega) w')
  generalize faultsN n = f at *
  generalize quorumN n = q at *
  go_wp2
  clear c0 c1 h1 h60
  go_loop [8, 9, 10, 11] (fun x y z i => ∃ k p r s : Nat, k ≤ n ∧ i = .int .i64 (k : Int) ∧ x = .int .i64 (p : Int) ∧ y = .int .i64 (r : Int) ∧ z = .int .i64 (s : Int) ∧ p ≤ k ∧ r ≤ k ∧ s ≤ k ∧ p + r ≤ k + s) (fun _ _ _ i => n - (intOf i).toNat)
  case atStart => exact ⟨0, 0, 0, 0, Nat.zero_le _, rfl, rfl, rfl, rfl, by omega, by omega, by omega, by omega⟩
  case round =>
    obtain ⟨k, p, r, s, hk, rfl, rfl, rfl, rfl, hp, hr, hs, hprs⟩ := hrel
    have hl := HL.out
    by_cases hlt : k < n
    · go_wp2
      all_goals
        go_round
        case rel => first
          | exact ⟨k + 1, p + 1, r + 1, s + 1, by omega, by go_num, by go_num, by go_num, by go_num, by omega, by omega, by omega, by omega⟩
          | exact ⟨k + 1, p + 1, r, s, by omega, by go_num, by go_num, rfl, rfl, by omega, by omega, by omega, by omega⟩
          | exact ⟨k + 1, p, r + 1, s, by omega, by go_num, rfl, by go_num, rfl, by omega, by omega, by omega, by omega⟩
          | exact ⟨k + 1, p, r, s, by omega, by go_num, rfl, rfl, rfl, by omega, by omega, by omega, by omega⟩
        case measure => simp [intOf]; omega
    · obtain ⟨m1, m2, m3, m4, m5⟩ := HM.out
      have c0 : w2.cell? ⟨w.heap.size, 0, none⟩ = some (.int .i64 ep) := HX2.out.cell 0
      have c1 : w2.cell? ⟨w.heap.size, 1, none⟩ = some (.slice A n c) := HX2.out.cell 1
      have q1 : (q : Int) ≤ (n : Int) - (f : Int) := by omega
      have q2 : 2 * (f : Int) < (q : Int) := by omega
      have q3 : (f : Int) ≤ 60 := by omega
      have i1 : ¬ (k : Int) < (n : Int) := by omega
      have w1' : IntKind.i64.wrap ((n : Int) - (f : Int)) = (n : Int) - f := by rw [IntKind.wrap_i64]; omega
      have w2' : IntKind.i64.wrap (2 * (f : Int)) = 2 * (f : Int) := by rw [IntKind.wrap_i64]; omega
      by_cases hpq : p < q
      · have g1 : (p : Int) < (q : Int) := by omega
        go_wp2_with (first | (go_at_call 16; (with_reducible refine (HQU.out).mono ?_); rintro e w3 ⟨rfl, hb3⟩; have HB3 : Hid (Below w2.heap.size w2 w3) := Lib.hid hb3; have HX3 := Lib.hid (HX2.out.below hb3 HX2.out.lt); have d0 := HX3.out.cell 0; have d1 := HX3.out.cell 1; clear hb3) | (go_at_call 14; (with_reducible refine (HFA.out _).mono ?_); rintro e w4 ⟨rfl, hb4⟩; have HB3 := Lib.hid (HB3.out.trans (hb4.mono HB3.out.size)); have HX3 := Lib.hid (HX3.out.below hb4 HX3.out.lt); have d0 := HX3.out.cell 0; have d1 := HX3.out.cell 1; clear hb4) | (go_at_call 18; (with_reducible refine (HWE.out _).mono ?_); rintro e w4 ⟨rfl, hb4⟩; have HB3 := Lib.hid (HB3.out.trans (hb4.mono HB3.out.size)); have HX3 := Lib.hid (HX3.out.below hb4 HX3.out.lt); have d0 := HX3.out.cell 0; have d1 := HX3.out.cell 1; clear hb4))
        go_ret
        exact ⟨rfl, HF2.out.trans (HB3.out.mono HF2.out.size)⟩
      have g1 : ¬ (p : Int) < (q : Int) := by omega
      by_cases hrq : r < q
      · have g2 : (r : Int) < (q : Int) := by omega
        go_wp2_with (first | (go_at_call 16; (with_reducible refine (HQU.out).mono ?_); rintro e w3 ⟨rfl, hb3⟩; have HB3 : Hid (Below w2.heap.size w2 w3) := Lib.hid hb3; have HX3 := Lib.hid (HX2.out.below hb3 HX2.out.lt); have d0 := HX3.out.cell 0; have d1 := HX3.out.cell 1; clear hb3) | (go_at_call 14; (with_reducible refine (HFA.out _).mono ?_); rintro e w4 ⟨rfl, hb4⟩; have HB3 := Lib.hid (HB3.out.trans (hb4.mono HB3.out.size)); have HX3 := Lib.hid (HX3.out.below hb4 HX3.out.lt); have d0 := HX3.out.cell 0; have d1 := HX3.out.cell 1; clear hb4) | (go_at_call 18; (with_reducible refine (HWE.out _).mono ?_); rintro e w4 ⟨rfl, hb4⟩; have HB3 := Lib.hid (HB3.out.trans (hb4.mono HB3.out.size)); have HX3 := Lib.hid (HX3.out.below hb4 HX3.out.lt); have d0 := HX3.out.cell 0; have d1 := HX3.out.cell 1; clear hb4))
        go_ret
        exact ⟨rfl, HF2.out.trans (HB3.out.mono HF2.out.size)⟩
      have g2 : ¬ (r : Int) < (q : Int) := by omega
      have g3 : ((f + 1 : Nat) : Int) ≤ (s : Int) := by omega
      generalize (f + 1 : Nat) = f1 at *
      go_wp2_with (first | (go_at_call 16; (with_reducible refine (HQU.out).mono ?_); rintro e w3 ⟨rfl, hb3⟩; have HB3 : Hid (Below w2.heap.size w2 w3) := Lib.hid hb3; have HX3 := Lib.hid (HX2.out.below hb3 HX2.out.lt); have d0 := HX3.out.cell 0; have d1 := HX3.out.cell 1; clear hb3) | (go_at_call 14; (with_reducible refine (HFA.out _).mono ?_); rintro e w4 ⟨rfl, hb4⟩; have HB3 := Lib.hid (HB3.out.trans (hb4.mono HB3.out.size)); have HX3 := Lib.hid (HX3.out.below hb4 HX3.out.lt); have d0 := HX3.out.cell 0; have d1 := HX3.out.cell 1; clear hb4) | (go_at_call 18; (with_reducible refine (HWE.out _).mono ?_); rintro e w4 ⟨rfl, hb4⟩; have HB3 := Lib.hid (HB3.out.trans (hb4.mono HB3.out.size)); have HX3 := Lib.hid (HX3.out.below hb4 HX3.out.lt); have d0 := HX3.out.cell 0; have d1 := HX3.out.cell 1; clear hb4))
      go_ret
      exact ⟨rfl, HF2.out.trans (HB3.out.mono HF2.out.size)⟩
end Go.Proofs.Ytloaidahlagmiaa
