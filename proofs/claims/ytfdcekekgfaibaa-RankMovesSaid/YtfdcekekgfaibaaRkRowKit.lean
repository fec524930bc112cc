/-
  Opening the handed arguments of rank's laws: floats, pairs of floats.
-/
import Derived.Test.YtfdcekekgfaibaaRkCalls
import Derived.Carry
import Derived.ProofKit
import Derived.SizedLaws
import Derived.OpenShut
import Derived.ChangeAt
import Derived.JoinedOf
import Derived.ChangeShapes
import Derived.Laws.Cover2
namespace Go.Proofs.Ytfdcekekgfaibaa
open Go.ChangeShapes Go.WideShapes Go.RowKit

set_option maxRecDepth 100000 in
theorem Try.own : ownKnob Try.prog.godebug = none := by kernel_rfl
set_option maxRecDepth 100000 in
theorem Try.laidOut : laidOutB Try.prog = true := by kernel_rfl
set_option maxRecDepth 100000 in
theorem f64_lt {b : Nat} (h : (Lit.float .f64 b).wf = true) : b < 2 ^ 64 := by
  simpa [Lit.wf] using h
set_option maxRecDepth 100000 in
theorem float_cell {H : Type} {enc : TypeId × Value → H} {W : World} {base : Nat} {spare : Nat → Bool} {held : Bool} {n : Nat} {u : Value} {x : DataW H × List MemPlace} (h : DataW.trod enc Try.prog W base spare held n 22 [u] = some x) : ∃ a : Nat, u = .float .f64 a ∧ x.2 = [] := by
  cases n with
  | zero => simp [DataW.trod] at h
  | succ n =>
    simp only [DataW.trod, Try.underlying22] at h
    cases u <;> simp at h
    rename_i k b
    obtain ⟨⟨rfl, _⟩, rfl⟩ := h
    exact ⟨b, rfl, rfl⟩
set_option maxRecDepth 100000 in
theorem open_pair {H : Type} {enc : TypeId × Value → H} {W : World} {b0 base : Nat} {spare : Nat → Bool} {held : Bool} {r : Reach} {v : Value} {d : DataW H} {ps : List MemPlace} (hval : Value.okWide Try.prog W r b0 33 v) (h : DataW.Trod enc Try.prog W base spare held 33 v d ps) :
    ∃ a b : Nat, v = .agg #[.float .f64 a, .float .f64 b] ∧ ps = [] := by
  obtain ⟨cs, rfl⟩ : ∃ cs, v = .agg cs := by
    have h := hval
    unfold Value.okWide at h
    rw [Try.underlying33] at h
    obtain ⟨cs, h, _⟩ := h
    exact ⟨cs, h⟩
  obtain ⟨fuel, hf⟩ := h
  have hc : Try.prog.cellsOf 33 = 2 := by kernel_rfl
  have hc1 : Try.prog.cellsOf 22 = 1 := by kernel_rfl
  cases fuel with
  | zero => simp [DataW.trod] at hf
  | succ n =>
    simp only [DataW.trod, Try.underlying33, hc, hc1, Value.cells] at hf
    split at hf
    · rename_i hl
      obtain ⟨u, v, e⟩ : ∃ u v, cs.toList = [u, v] := by
        generalize cs.toList = l at hl
        match l, hl with
        | [u, v], _ => exact ⟨u, v, rfl⟩
      rw [e] at hf
      obtain rfl : cs = #[u, v] := by
        apply Array.ext'
        exact e
      have hr : List.range 2 = [0, 1] := rfl
      rw [hr] at hf
      simp only [List.mapM_cons, List.mapM_nil] at hf
      cases h0 : DataW.trod enc Try.prog W base spare held n 22 [u] with
      | none => simp [h0] at hf
      | some x =>
        cases h1 : DataW.trod enc Try.prog W base spare held n 22 [v] with
        | none => simp [h0, h1] at hf
        | some y =>
          obtain ⟨a, rfl, ex⟩ := float_cell h0
          obtain ⟨b, rfl, ey⟩ := float_cell h1
          simp [h0, h1] at hf
          refine ⟨a, b, rfl, ?_⟩
          rw [← hf.2, ex, ey]
          rfl
    · cases hf
end Go.Proofs.Ytfdcekekgfaibaa
