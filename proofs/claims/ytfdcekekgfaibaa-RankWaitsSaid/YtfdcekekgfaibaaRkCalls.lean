/-
  The calls of package rank that make no loop, and what the document's own answer is made of (Part, Parts).
-/
import Derived.Test.YtfdcekekgfaibaaRkMade
import Derived.Test.YtfdcekekgfaibaaChecked
import Derived.WalkKit
import Derived.Lib.Hide
import Derived.KernelRfl
namespace Go.Proofs.Ytfdcekekgfaibaa
open Go.RowKit

set_option maxRecDepth 100000 in
theorem conv_float (x : Nat) (n : Int) (h : floatToIntVal .f64 x .i64 = some n) (w : World) : (convert 22 3 (.float .f64 x)).run Try.prog w = .ok (.int .i64 n) w :=
  run_convert_float_int w _ _ _ _ _ _ (by kernel_rfl) Try.underlying3 h

set_option maxRecDepth 100000 in
theorem at_any (h r : Int) (w : World) : Calls Try.prog 8 #[.int .i64 h, .int .i64 r] w fun e w' => e = .returned (.complex .f64 (nF h) (nF r)) ∧ w = w' := by
  go_enter Try.func8, Try.ntmps8
  go_wp2
  go_ret
  exact ⟨rfl, rfl⟩
set_option maxRecDepth 100000 in
theorem within_any (x lo hi : Nat) (b : Bool) (hb : (fle lo x && fle x hi) = b) (w : World) : Calls Try.prog 20 #[.float .f64 x, .float .f64 lo, .float .f64 hi] w fun e w' => e = .returned (.bool b) ∧ w = w' := by
  subst hb
  go_enter Try.func20, Try.ntmps20
  go_wp2
  · go_ret
    exact ⟨rfl, rfl⟩
  · rename_i h
    have e : fle lo x = false := Bool.eq_false_iff.2 fun hh => h (by
      have h2 : (FloatKind.f64.format.order lo x == some .lt || FloatKind.f64.format.order lo x == some .eq) = true := hh
      simpa using h2)
    go_ret
    rw [e]
    exact ⟨rfl, rfl⟩

set_option maxRecDepth 100000 in
theorem nF_0 : nF 0 = 0 := by decide +kernel
set_option maxRecDepth 100000 in
theorem nF_1 : nF 1 = 4607182418800017408 := by decide +kernel
set_option maxRecDepth 100000 in
theorem nF_1024 : nF 1024 = 4652218415073722368 := by decide +kernel
set_option maxRecDepth 100000 in
theorem within_one (x : Nat) (b : Bool) (hb : inF 1 x = b) (w : World) : Calls Try.prog 20 #[.float .f64 x, .float .f64 4607182418800017408, .float .f64 4652218415073722368] w fun e w' => e = .returned (.bool b) ∧ w = w' := by
  refine within_any x _ _ b ?_ w
  rw [← nF_1, ← nF_1024]
  exact hb
set_option maxRecDepth 100000 in
theorem within_nought (x : Nat) (b : Bool) (hb : inF 0 x = b) (w : World) : Calls Try.prog 20 #[.float .f64 x, .float .f64 0, .float .f64 4652218415073722368] w fun e w' => e = .returned (.bool b) ∧ w = w' := by
  refine within_any x _ _ b ?_ w
  rw [← nF_0, ← nF_1024]
  exact hb

set_option maxRecDepth 100000 in
theorem good_any (a b : Nat) (w : World) : Calls Try.prog 9 #[.complex .f64 a b] w fun e w' => e = .returned (.bool (goodF a b)) ∧ w = w' := by
  by_cases ha : inF 1 a = true
  · by_cases hb : inF 0 b = true
    · obtain ⟨n, m, hn, hm, c1, c2, c3⟩ := good_in ha hb
      have HA := Lib.hid ha
      have HB := Lib.hid hb
      have d1 := conv_float a _ c1
      have d2 := conv_float b _ c2
      rw [c3]
      clear c1 c2 c3 ha hb
      have H3 : Hid (∀ x y u v : Nat, (feq x u && feq y v) = ((FloatKind.f64.format.order x u == some .eq) && (FloatKind.f64.format.order y v == some .eq))) := fun _ _ _ _ => rfl
      go_enter Try.func9, Try.ntmps9
      go_wp2_with (first
        | (with_reducible refine (within_one a true HA.out _).mono ?_; rintro e w' ⟨rfl, rfl⟩)
        | (with_reducible refine (within_nought b true HB.out _).mono ?_; rintro e w' ⟨rfl, rfl⟩)
        | (with_reducible refine (at_any _ _ _).mono ?_; rintro e w' ⟨rfl, rfl⟩))
      go_ret
      exact ⟨rfl, rfl⟩
    · have hb' : inF 0 b = false := by simpa using hb
      rw [good_out (by rw [ha, hb']; rfl)]
      have HA := Lib.hid ha
      have HB := Lib.hid hb'
      clear ha hb hb'
      go_enter Try.func9, Try.ntmps9
      go_wp2_with (first
        | (with_reducible refine (within_one a true HA.out _).mono ?_; rintro e w' ⟨rfl, rfl⟩)
        | (with_reducible refine (within_nought b false HB.out _).mono ?_; rintro e w' ⟨rfl, rfl⟩))
      go_ret
      exact ⟨rfl, rfl⟩
  · have ha' : inF 1 a = false := by simpa using ha
    rw [good_out (by rw [ha']; rfl)]
    have HA := Lib.hid ha'
    clear ha ha'
    go_enter Try.func9, Try.ntmps9
    go_wp2_with (with_reducible refine (within_one a false HA.out _).mono ?_; rintro e w' ⟨rfl, rfl⟩)
    go_ret
    exact ⟨rfl, rfl⟩

/-- Height and round, 0 of no place. -/
def hgtF (a b : Nat) : Nat := if goodF a b then (whF 1 a).getD 0 else 0
def rndF (a b : Nat) : Nat := if goodF a b then (whF 0 b).getD 0 else 0
set_option maxRecDepth 100000 in
theorem good_wh {a b : Nat} (h : goodF a b = true) : ∃ n m, whF 1 a = some n ∧ whF 0 b = some m := by
  unfold goodF at h
  simp only [Bool.and_eq_true, Option.isSome_iff_exists] at h
  obtain ⟨⟨n, hn⟩, ⟨m, hm⟩⟩ := h
  exact ⟨n, m, hn, hm⟩
set_option maxRecDepth 100000 in
theorem hgt_any (a b : Nat) (w : World) : Calls Try.prog 11 #[.complex .f64 a b] w fun e w' => e = .returned (.int .i64 (hgtF a b : Int)) ∧ w = w' := by
  have HG := Lib.hid (good_any a b)
  cases hg : goodF a b
  · have e : hgtF a b = 0 := by
      unfold hgtF
      rw [hg]
      rfl
    rw [e]
    rw [hg] at HG
    clear hg e
    go_enter Try.func11, Try.ntmps11
    go_wp2_with (with_reducible refine (HG.out _).mono ?_; rintro e w' ⟨rfl, rfl⟩)
    go_ret
    exact ⟨rfl, rfl⟩
  · obtain ⟨n, m, hn, hm⟩ := good_wh hg
    have e : hgtF a b = n := by
      unfold hgtF
      rw [hg, hn]
      rfl
    rw [e]
    rw [hg] at HG
    have d1 := conv_float a _ (inF_wh (by decide) hn).2
    clear hg e hn hm
    go_enter Try.func11, Try.ntmps11
    go_wp2_with (with_reducible refine (HG.out _).mono ?_; rintro e w' ⟨rfl, rfl⟩)
    go_ret
    exact ⟨rfl, rfl⟩
set_option maxRecDepth 100000 in
theorem rnd_any (a b : Nat) (w : World) : Calls Try.prog 12 #[.complex .f64 a b] w fun e w' => e = .returned (.int .i64 (rndF a b : Int)) ∧ w = w' := by
  have HG := Lib.hid (good_any a b)
  cases hg : goodF a b
  · have e : rndF a b = 0 := by
      unfold rndF
      rw [hg]
      rfl
    rw [e]
    rw [hg] at HG
    clear hg e
    go_enter Try.func12, Try.ntmps12
    go_wp2_with (with_reducible refine (HG.out _).mono ?_; rintro e w' ⟨rfl, rfl⟩)
    go_ret
    exact ⟨rfl, rfl⟩
  · obtain ⟨n, m, hn, hm⟩ := good_wh hg
    have e : rndF a b = m := by
      unfold rndF
      rw [hg, hm]
      rfl
    rw [e]
    rw [hg] at HG
    have d1 := conv_float b _ (inF_wh (by decide) hm).2
    clear hg e hn hm
    go_enter Try.func12, Try.ntmps12
    go_wp2_with (with_reducible refine (HG.out _).mono ?_; rintro e w' ⟨rfl, rfl⟩)
    go_ret
    exact ⟨rfl, rfl⟩

set_option maxRecDepth 100000 in
/-- Next and Rise of numbers whose parts are added so. -/
theorem next_any (a b a' b' : Nat) (ha : dbl.add a 0 = some a') (hb : dbl.add b (nF 1) = some b') (w : World) : Calls Try.prog 13 #[.complex .f64 a b] w fun e w' => e = .returned (.complex .f64 a' b') ∧ w = w' := by
  rw [nF_1] at hb
  have hs : ∀ w, (binOp .add 23 (.complex .f64 a b) (.complex .f64 0 4607182418800017408)).run Try.prog w = .ok (.complex .f64 a' b') w := fun w => by
    refine run_complex_sum w .add (.inl rfl) _ _ _ _ _ _ _ _ ?_
    unfold cSumBits
    rw [show floatBits .add .f64 a 0 = some a' from ha, show floatBits .add .f64 b 4607182418800017408 = some b' from hb]
    rfl
  clear ha hb
  go_enter Try.func13, Try.ntmps13
  go_wp2
  go_ret
  exact ⟨rfl, rfl⟩
set_option maxRecDepth 100000 in
theorem rise_any (a b a' : Nat) (ha : dbl.add a (nF 1) = some a') (w : World) : Calls Try.prog 14 #[.complex .f64 a b] w fun e w' => e = .returned (.complex .f64 a' 0) ∧ w = w' := by
  rw [nF_1] at ha
  have hs : ∀ w, (binOp .add 22 (.float .f64 a) (.float .f64 4607182418800017408)).run Try.prog w = .ok (.float .f64 a') w := fun w =>
    run_float_arith w .add _ _ _ _ _ ha
  clear ha
  go_enter Try.func14, Try.ntmps14
  go_wp2
  go_ret
  exact ⟨rfl, rfl⟩

/-- Ahead. -/
def lessF (a b c d : Nat) : Bool := goodF a b && goodF c d && (decide (hgtF a b < hgtF c d) || hgtF a b == hgtF c d && decide (rndF a b < rndF c d))
end Go.Proofs.Ytfdcekekgfaibaa
