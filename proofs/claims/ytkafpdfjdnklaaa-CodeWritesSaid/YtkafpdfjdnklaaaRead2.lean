/-
  The Reader of package code, on: Num, In, Text.
-/
import Derived.Test.YtkafpdfjdnklaaaRead
namespace Go.Proofs.Ytkafpdfjdnklaaa
open Go.RowKit

set_option maxHeartbeats 400000 in
theorem num_nil (w : World) : Calls Try.prog 20 #[.pointer none] w fun e w' => e = .returned (.int .i64 0) ∧ w = w' := by
  have hj := Lib.hid ((join_any w 0 none [] 0 (by simp) (.inl rfl)).mono (fun e w' (h : _ ∧ _) => (⟨h.1.trans rfl, h.2⟩ : e = .returned (.int .u64 0) ∧ w = w')))
  go_enter Try.func20, Try.ntmps20
  go_wp2_with (first
    | (go_at_call 34; refine (take_nil 8 _).mono ?_; rintro e w' ⟨rfl, rfl⟩)
    | (go_at_call 35; refine (hj.out).mono ?_; rintro e w' ⟨rfl, rfl⟩))
  go_ret
  exact ⟨rfl, rfl⟩

/-- The number that Num answers. -/
def numV (l : List UInt8) (bad : Bool) : Int := wrap64 (beNat (tk 8 l bad).1 : Int)
theorem numV_bounds (l : List UInt8) (bad : Bool) : -9223372036854775808 ≤ numV l bad ∧ numV l bad ≤ 9223372036854775807 := by
  unfold numV wrap64
  omega

theorem tk_len (n : Nat) (l : List UInt8) (bad : Bool) : (tk n l bad).1.length ≤ n := by
  unfold tk
  split
  · simp; omega
  · simp

set_option maxHeartbeats 400000 in
theorem num_any (a : Nat) (l : List UInt8) (bad : Bool) (w : World) (h : Rd w a l bad) :
    Calls Try.prog 20 #[.pointer (some ⟨a, 0, none⟩)] w fun e w' => e = .returned (.int .i64 (numV l bad)) ∧ Rd w' a (tk 8 l bad).2.1 (tk 8 l bad).2.2 ∧ w.grownBy w' (some a) := by
  have H := Lib.hid h
  clear h
  have HL := Lib.hid (tk_len 8 l bad)
  unfold numV
  generalize ht : tk 8 l bad = t at *
  have HT := Lib.hid ht
  clear ht
  go_enter Try.func20, Try.ntmps20
  go_wp2_with fail
  refine (take_any a 8 l bad w H.out (by decide)).mono ?_
  rw [HT.out]
  rintro e w1 ⟨A, c, rfl, hs, hr, ho⟩
  have HS := Lib.hid hs
  have HR := Lib.hid hr
  have HO := Lib.hid ho
  clear hs hr ho
  go_wp2_with fail
  refine (join_any w1 a A t.1 c HL.out HS.out).mono ?_
  rintro e w' ⟨rfl, rfl⟩
  go_wp2
  go_ret
  exact ⟨rfl, HR.out, HO.out⟩

set_option maxHeartbeats 400000 in
theorem in_nil (lo hi : Int) (w : World) : Calls Try.prog 26 #[.pointer none, .int .i64 lo, .int .i64 hi] w fun e w' => e = .returned (.int .i64 0) ∧ w = w' := by
  go_enter Try.func26, Try.ntmps26
  by_cases h1 : (0 : Int) < lo
  · go_wp2_with (first
      | (go_at_call 20; refine (num_nil _).mono ?_; rintro e w' ⟨rfl, rfl⟩)
      | (go_at_call 37; refine (fail_nil _).mono ?_; rintro e w' ⟨rfl, rfl⟩))
    go_ret
    exact ⟨rfl, rfl⟩
  · have h1' : decide ((0 : Int) < lo) = false := by simpa using h1
    by_cases h2 : hi < (0 : Int)
    · go_wp2_with (first
        | (go_at_call 20; refine (num_nil _).mono ?_; rintro e w' ⟨rfl, rfl⟩)
        | (go_at_call 37; refine (fail_nil _).mono ?_; rintro e w' ⟨rfl, rfl⟩))
      go_ret
      exact ⟨rfl, rfl⟩
    · have h2' : decide (hi < (0 : Int)) = false := by simpa using h2
      go_wp2_with (first
        | (go_at_call 20; refine (num_nil _).mono ?_; rintro e w' ⟨rfl, rfl⟩)
        | (go_at_call 37; refine (fail_nil _).mono ?_; rintro e w' ⟨rfl, rfl⟩))
      go_ret
      exact ⟨rfl, rfl⟩

/-- What In answers, and leaves. -/
def inV (lo hi : Int) (l : List UInt8) (bad : Bool) : Int × List UInt8 × Bool :=
  if numV l bad < lo ∨ hi < numV l bad then (0, [], true) else (numV l bad, (tk 8 l bad).2)

set_option maxHeartbeats 400000 in
theorem in_any (a : Nat) (lo hi : Int) (l : List UInt8) (bad : Bool) (w : World) (h : Rd w a l bad) :
    Calls Try.prog 26 #[.pointer (some ⟨a, 0, none⟩), .int .i64 lo, .int .i64 hi] w fun e w' =>
      e = .returned (.int .i64 (inV lo hi l bad).1) ∧ Rd w' a (inV lo hi l bad).2.1 (inV lo hi l bad).2.2 ∧ w.grownBy w' (some a) := by
  have H := Lib.hid h
  clear h
  have hn := Lib.hid (num_any a l bad w H.out)
  generalize hv : inV lo hi l bad = V
  have HV := Lib.hid hv
  clear hv
  unfold inV at HV
  generalize numV l bad = v at *
  generalize tk 8 l bad = t at *
  go_enter Try.func26, Try.ntmps26
  by_cases h1 : v < lo
  · go_wp2_with fail
    refine (hn.out).mono ?_
    rintro e w1 ⟨rfl, hr, ho⟩
    have HF := Lib.hid (fail_any a _ _ w1 hr)
    have HO := Lib.hid ho
    clear hr ho
    go_wp2_with (go_at_call 37; refine (HF.out).mono ?_; rintro e w2 ⟨rfl, hr2, ho2⟩)
    go_ret
    have e := HV.out
    rw [if_pos (.inl h1)] at e
    subst e
    exact ⟨rfl, hr2, only_trans HO.out ho2⟩
  · have h1' : decide (v < lo) = false := by simpa using h1
    by_cases h2 : hi < v
    · go_wp2_with fail
      refine (hn.out).mono ?_
      rintro e w1 ⟨rfl, hr, ho⟩
      have HF := Lib.hid (fail_any a _ _ w1 hr)
      have HO := Lib.hid ho
      clear hr ho
      go_wp2_with (go_at_call 37; refine (HF.out).mono ?_; rintro e w2 ⟨rfl, hr2, ho2⟩)
      go_ret
      have e := HV.out
      rw [if_pos (.inr h2)] at e
      subst e
      exact ⟨rfl, hr2, only_trans HO.out ho2⟩
    · have h2' : decide (hi < v) = false := by simpa using h2
      go_wp2_with fail
      refine (hn.out).mono ?_
      rintro e w1 ⟨rfl, hr, ho⟩
      have HR := Lib.hid hr
      have HO := Lib.hid ho
      clear hr ho
      go_wp2
      go_ret
      have e := HV.out
      rw [if_neg (by omega)] at e
      subst e
      exact ⟨rfl, HR.out, HO.out⟩

/-- What Text answers, and leaves. -/
def txtV (most : Int) (l : List UInt8) (bad : Bool) : List UInt8 × List UInt8 × Bool :=
  if (tk 4 l bad).2.2 = true ∨ most < (beNat (tk 4 l bad).1 : Int) then ([], [], true) else tk (beNat (tk 4 l bad).1) (tk 4 l bad).2.1 (tk 4 l bad).2.2

set_option maxHeartbeats 400000 in
theorem text_nil (most : Int) (w : World) : Calls Try.prog 22 #[.pointer none, .int .i64 most] w fun e w' => e = .returned (str []) ∧ w = w' := by
  go_enter Try.func22, Try.ntmps22
  go_wp2
  refine wp_scope_ahead 0 rfl ?_
  go_wp2_with (go_at_call 34; refine (take_nil 4 _).mono ?_; rintro e w' ⟨rfl, rfl⟩)
  go_step3
  refine ⟨rfl, ?_⟩
  go_wp2_with (go_at_call 37; refine (fail_nil _).mono ?_; rintro e w' ⟨rfl, rfl⟩)
  rw [Exit.noGoto_ret]
  go_ret
  exact ⟨rfl, rfl⟩

set_option maxHeartbeats 400000 in
theorem text_any (a : Nat) (most : Int) (l : List UInt8) (bad : Bool) (w : World) (h : Rd w a l bad) :
    Calls Try.prog 22 #[.pointer (some ⟨a, 0, none⟩), .int .i64 most] w fun e w' =>
      e = .returned (str (txtV most l bad).1) ∧ Rd w' a (txtV most l bad).2.1 (txtV most l bad).2.2 ∧ w.grownBy w' (some a) := by
  have H := Lib.hid h
  clear h
  have HL := Lib.hid (tk_len 4 l bad)
  generalize hv : txtV most l bad = V
  have HV := Lib.hid hv
  clear hv
  unfold txtV at HV
  generalize ht : tk 4 l bad = t at *
  have HT := Lib.hid ht
  clear ht
  obtain ⟨p, r, bad1⟩ := t
  simp only at HL HV
  have hn4 := beNat_lt4 p HL.out
  generalize hN : beNat p = N at *
  have HN := Lib.hid hN
  clear hN
  go_enter Try.func22, Try.ntmps22
  go_wp2
  cases bad1
  · by_cases hm : most < (N : Int)
    · refine wp_scope_ahead 0 rfl ?_
      go_wp2_with fail
      refine (take_any a 4 l bad w H.out (by decide)).mono ?_
      rw [HT.out]
      rintro e w1 ⟨A, c, rfl, hs, hr, ho⟩
      have HJ := Lib.hid (join_any w1 a A p c (Nat.le_trans HL.out (by decide)) hs)
      rw [HN.out] at HJ
      have HF := Lib.hid (fail_any a _ _ w1 hr)
      have HO := Lib.hid ho
      clear hs hr ho
      go_wp2_with (go_at_call 35; refine (HJ.out).mono ?_; rintro e w2 ⟨rfl, rfl⟩)
      go_step3
      refine ⟨rfl, ?_⟩
      go_wp2_with (go_at_call 37; refine (HF.out).mono ?_; rintro e w' ⟨rfl, hr, ho⟩)
      rw [Exit.noGoto_ret]
      go_ret
      have e := HV.out
      rw [if_pos (.inr hm)] at e
      subst e
      exact ⟨rfl, hr, only_trans HO.out ho⟩
    · generalize ht2 : tk N r false = t2 at *
      have HT2 := Lib.hid ht2
      clear ht2
      obtain ⟨p2, r2, bad2⟩ := t2
      have HV2 : Hid ((p2, r2, bad2) = V) := by
        have e := HV.out
        rw [if_neg (by simp; omega)] at e
        exact e
      clear HV
      cases bad2
      · go_step3
        go_wp2_with fail
        refine (take_any a 4 l bad w H.out (by decide)).mono ?_
        rw [HT.out]
        rintro e w1 ⟨A, c, rfl, hs, hr, ho⟩
        have HJ := Lib.hid (join_any w1 a A p c (Nat.le_trans HL.out (by decide)) hs)
        rw [HN.out] at HJ
        have HT3 := Lib.hid (take_any a N r false w1 hr (by omega))
        rw [HT2.out] at HT3
        have HO := Lib.hid ho
        clear hs hr ho
        go_wp2_with (go_at_call 35; refine (HJ.out).mono ?_; rintro e w2 ⟨rfl, rfl⟩)
        refine (HT3.out).mono ?_
        rintro e w3 ⟨A2, c2, rfl, hs, hr, ho⟩
        have HR := Lib.hid hr
        have HO2 := Lib.hid ho
        have hconv := convert_sees (P := Try.prog) 27 5 9 Try.underlying27 Try.underlying5 Try.underlying9 hs c2
        clear hs hr ho
        go_wp2
        rw [Exit.noGoto_ret]
        go_ret
        have e := HV2.out
        subst e
        exact ⟨rfl, HR.out, only_trans HO.out HO2.out⟩
      · refine wp_scope_ahead 0 rfl ?_
        go_wp2_with fail
        refine (take_any a 4 l bad w H.out (by decide)).mono ?_
        rw [HT.out]
        rintro e w1 ⟨A, c, rfl, hs, hr, ho⟩
        have HJ := Lib.hid (join_any w1 a A p c (Nat.le_trans HL.out (by decide)) hs)
        rw [HN.out] at HJ
        have HT3 := Lib.hid (take_any a N r false w1 hr (by omega))
        rw [HT2.out] at HT3
        have HO := Lib.hid ho
        clear hs hr ho
        go_wp2_with (go_at_call 35; refine (HJ.out).mono ?_; rintro e w2 ⟨rfl, rfl⟩)
        refine (HT3.out).mono ?_
        rintro e w3 ⟨A2, c2, rfl, hs, hr, ho⟩
        have HF := Lib.hid (fail_any a _ _ w3 hr)
        have HO2 := Lib.hid ho
        clear hs hr ho
        go_wp2
        go_step3
        refine ⟨rfl, ?_⟩
        go_wp2_with (go_at_call 37; refine (HF.out).mono ?_; rintro e w' ⟨rfl, hr, ho⟩)
        rw [Exit.noGoto_ret]
        go_ret
        have hV : V = ([], [], true) := by
          have e1 := HT2.out
          have e2 := HV2.out
          unfold tk at e1
          split at e1
          · simp at e1
          · rw [← e2, ← e1]
        subst hV
        exact ⟨rfl, hr, only_trans (only_trans HO.out HO2.out) ho⟩
  · refine wp_scope_ahead 0 rfl ?_
    go_wp2_with fail
    refine (take_any a 4 l bad w H.out (by decide)).mono ?_
    rw [HT.out]
    rintro e w1 ⟨A, c, rfl, hs, hr, ho⟩
    have HF := Lib.hid (fail_any a _ _ w1 hr)
    have HO := Lib.hid ho
    clear hs hr ho
    go_wp2
    go_step3
    refine ⟨rfl, ?_⟩
    go_wp2_with (go_at_call 37; refine (HF.out).mono ?_; rintro e w' ⟨rfl, hr, ho⟩)
    rw [Exit.noGoto_ret]
    go_ret
    have e := HV.out
    rw [if_pos (by simp)] at e
    subst e
    exact ⟨rfl, hr, only_trans HO.out ho⟩

end Go.Proofs.Ytkafpdfjdnklaaa
