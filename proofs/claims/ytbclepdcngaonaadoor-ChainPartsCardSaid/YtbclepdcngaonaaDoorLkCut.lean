/-
  Parts of a row of links: its beginning, and what is behind it.
-/
import Derived.Test.YtbclepdcngaonaaDoorLkKit
namespace Go.Proofs.YtbclepdcngaonaaDoor
open Go.RowKit Go.Maps Go.Sort

set_option maxRecDepth 100000 in
theorem EK.See.take15 {α : Type} {K : EK α} {w : World} {B : Nat} {A : Option Addr} {xs : List α} (h : K.See w B A xs) (i : Nat) : K.See w B A (xs.take i) := by
  have e : K.flat xs = K.flat (xs.take i) ++ K.flat (xs.drop i) := K.flat_cut xs i
  rcases h with h0 | ⟨g, o, rfl, hg, hc⟩
  · rw [e] at h0
    exact .inl (List.append_eq_nil_iff.1 h0).1
  · refine .inr ⟨g, o, rfl, hg, fun j u hu => hc j u ?_⟩
    have hj : j < (K.flat (xs.take i)).length := (List.getElem?_eq_some_iff.1 hu).1
    rw [e, List.getElem?_append_left hj]
    exact hu
set_option maxRecDepth 100000 in
theorem EK.See.drop15 {α : Type} {K : EK α} {w : World} {B : Nat} {A : Option Addr} {xs : List α} (h : K.See w B A xs) {c i : Nat} (hi : i ≤ xs.length) (hc : xs.length ≤ c) : K.See w B (if c = i then A else A.map (·.add (i * K.k))) (xs.drop i) := by
  have e : K.flat xs = K.flat (xs.take i) ++ K.flat (xs.drop i) := K.flat_cut xs i
  by_cases hci : c = i
  · rw [if_pos hci, List.drop_of_length_le (by omega)]
    exact .inl rfl
  rw [if_neg hci]
  rcases h with h0 | ⟨g, o, rfl, hg, hc⟩
  · rw [e] at h0
    exact .inl (List.append_eq_nil_iff.1 h0).2
  · refine .inr ⟨g, o + i * K.k, by rw [Option.map_some, plain_add], hg, fun j u hu => ?_⟩
    have hl : (K.flat (xs.take i)).length = i * K.k := by rw [K.flat_len, List.length_take, Nat.min_eq_left hi]
    have h1 := hc (i * K.k + j) u (by
      rw [e, List.getElem?_append_right (by omega), hl, Nat.add_sub_cancel_left]
      exact hu)
    rw [Nat.add_assoc]
    exact h1
set_option maxRecDepth 100000 in
theorem links_upto {A : Option Addr} {n c i : Nat} (hi : i ≤ c) (w : World) :
    (Instr.slice 25 (.slice A n c) none (some (.int .i64 (i : Int))) none).run Tryd.prog w = .ok (.slice A i c) w := by
  have hu : Tryd.prog.underlying 25 = some (.slice (Tryd.prog.elem 25)) := by kernel_rfl
  have hs : (sizeOf (Tryd.prog.elem 25)).run Tryd.prog w = .ok 103 w := by kernel_rfl
  rw [run_slice_h w 25 A n c hu .i64 (i : Int) (by omega) (by omega), hs]
  rcases A with _ | a
  · simp [sliced]
  · simp [sliced, Addr.add_zero']
set_option maxRecDepth 100000 in
theorem links_from {A : Option Addr} {n c m : Nat} (hm : m ≤ n) (w : World) :
    (Instr.slice 25 (.slice A n c) (some (.int .i64 (m : Int))) none none).run Tryd.prog w = .ok (.slice (if c = m then A else A.map (·.add (m * 103))) (n - m) (c - m)) w := by
  have hu : Tryd.prog.underlying 25 = some (.slice (Tryd.prog.elem 25)) := by kernel_rfl
  have hs : (sizeOf (Tryd.prog.elem 25)).run Tryd.prog w = .ok 103 w := by kernel_rfl
  rw [run_slice_l w 25 A n c hu .i64 (m : Int) (by omega) (by omega), hs]
  simp [sliced]
noncomputable def slLk (a : Value) (l h m : Option Value) : Sem Value := Instr.slice 25 a l h m
set_option maxRecDepth 100000 in
theorem slLk_def (a : Value) (l h m : Option Value) : Instr.slice 25 a l h m = slLk a l h m := rfl
end Go.Proofs.YtbclepdcngaonaaDoor
