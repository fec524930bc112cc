/-
  The document's Reader, on: Text.
-/
import Derived.Test.YtoamcdbemhbphaaRref
import Derived.Test.YtoamcdbemhbphaaRd
namespace Go.Proofs.Ytoamcdbemhbphaa
open Go.RowKit

theorem tk4_bad {l : List UInt8} {bad : Bool} (h : (tk 4 l bad).2.2 = true) : tk 4 l bad = ([], [], true) := by
  rcases Classical.em (bad = false ∧ 4 ≤ l.length) with ⟨rfl, hl⟩ | hn
  · rw [tk_yes hl] at h
    cases h
  · exact tk_no hn

set_option maxRecDepth 100000 in
set_option maxHeartbeats 800000 in
theorem rtext_any (a : Nat) (most : Int) (l : List UInt8) (bad : Bool) (w : World) (h : RRd w a l bad) :
    Calls Try.prog 32 #[.pointer (some ⟨a, 0, none⟩), .int .i64 most] w fun e w' => e = .returned (str (txtV most l bad).1) ∧ RRd w' a (txtV most l bad).2.1 (txtV most l bad).2.2 ∧ w.grownBy w' (some a) := by
  have HT := Lib.hid (rtake_any a 4 l bad w h)
  have HL := tk_len 4 l bad
  have hbad := tk4_bad (l := l) (bad := bad)
  unfold txtV
  rw [show rtk 4 l bad = tk 4 l bad from rfl] at HT
  generalize tk 4 l bad = t at *
  obtain ⟨p, l2, b2⟩ := t
  simp only at HL hbad ⊢
  clear h
  generalize hv : (if b2 = true ∨ most < (beNat p : Int) then (([] : List UInt8), ([] : List UInt8), true) else tk (beNat p) l2 b2) = v at *
  have HV := Lib.hid hv
  clear hv hbad
  obtain ⟨v1, v2, v3⟩ := v
  simp only
  go_enter Try.func32, Try.ntmps32
  go_wp2_with fail
  refine (HT.out).mono ?_
  rintro e w1 ⟨rfl, hR, hG⟩
  have HR := Lib.hid hR
  have HG := Lib.hid hG
  clear hR hG HT
  have hsz : (ByteArray.mk p.toArray).size = p.length := by show p.toArray.size = _; simp
  go_wp2
  go_loopw [6, 7] (fun n i wr => ∃ k : Nat, k ≤ p.length ∧ i = .int .i64 k ∧ n = .int .i64 (beNat (p.take k) : Int) ∧ wr = w1) (fun _ i _ => p.length - (intOf i).toNat)
  case atStart => exact ⟨0, Nat.zero_le _, rfl, rfl, rfl⟩
  case round =>
    obtain ⟨k, hk, rfl, rfl, rfl⟩ := hrel
    by_cases hlt : k < p.length
    · have h1 := beNat_lt3 (p.take k) (by rw [List.length_take]; omega)
      have h3 := take_snoc' p k hlt
      have h4 := beNat_snoc (p.take k) p[k]
      have h5 : (ByteArray.mk p.toArray)[k] = p[k] := rfl
      have h6 := p[k].toNat_lt
      have h7 : (beNat (p.take (k + 1)) : Int) = (beNat (p.take k) : Int) * 256 + p[k].toNat := by rw [h3, h4]; omega
      clear h3 h4
      go_wp2
      go_roundw
      case rel => exact ⟨k + 1, by omega, by go_num, congrArg (Value.int .i64) h7.symm, by trivial⟩
      case measure => simp [intOf]; omega
    · have e : p.take k = p := List.take_of_length_le (by omega)
      rw [e]
      have hF : Calls Try.prog 49 #[.pointer (some ⟨a, 0, none⟩), .int .i64 (-1)] wr fun e w' => e = .returned (str []) ∧ RRd w' a [] true ∧ wr.grownBy w' (some a) := rtake_any a (-1) l2 b2 wr HR.out
      have HF := Lib.hid hF
      have hF2 := rtake_any a (beNat p : Int) l2 b2 wr HR.out
      rw [show rtk (beNat p : Int) l2 b2 = tk (beNat p) l2 b2 from by unfold rtk; rw [if_neg (by omega), Int.toNat_natCast]] at hF2
      have HF2 := Lib.hid hF2
      clear hF hF2
      generalize beNat p = N at *
      by_cases h1 : most < (N : Int)
      · have e := HV.out
        rw [if_pos (.inr h1)] at e
        simp only [Prod.mk.injEq] at e
        obtain ⟨rfl, rfl, rfl⟩ := e
        clear HV HF2
        go_wp2_with fail
        refine (HF.out).mono ?_
        rintro e w2 ⟨rfl, hR2, hG2⟩
        have HR2 := Lib.hid hR2
        have HG2 := Lib.hid hG2
        clear hR2 hG2
        go_wp2
        go_ret
        exact ⟨rfl, HR2.out, only_trans HG.out HG2.out⟩
      · have h1' : decide (most < (N : Int)) = false := by simpa using h1
        have e : tk N l2 b2 = (v1, v2, v3) := by
          rw [← HV.out]
          by_cases hb : b2 = true
          · rw [if_pos (.inl hb), hb, tk_no (by simp)]
          · rw [if_neg (fun h => h.elim hb h1)]
        rw [e] at HF2
        clear HV HF e
        go_wp2_with fail
        refine (HF2.out).mono ?_
        rintro e w2 ⟨rfl, hR2, hG2⟩
        have HR2 := Lib.hid hR2
        have HG2 := Lib.hid hG2
        clear hR2 hG2
        go_wp2
        go_ret
        exact ⟨rfl, HR2.out, only_trans HG.out HG2.out⟩

end Go.Proofs.Ytoamcdbemhbphaa
