/-
  CodeWrites: for every input the law returns true, and its arguments read afterwards as they read before. No condition.
-/
import Derived.Test.YtkafpdfjdnklaaaRows
import Derived.Test.YtkafpdfjdnklaaaWrites
import Derived.Test.YtkafpdfjdnklaaaTexts
import Derived.Carry
namespace Go.Proofs.Ytkafpdfjdnklaaa
open Go.ChangeShapes Go.WideShapes Go.ChangeAt Go.RowKit

theorem writes_own : ownKnob Try.prog.godebug = none := by kernel_rfl
theorem writes_laidOut : laidOutB Try.prog = true := by kernel_rfl

set_option maxRecDepth 100000 in
theorem codeWrites_lifted (os : Os) (started : os.Started) (H : Type) (enc : TypeId × Value → H) :
    ReturnsInHanded {} Try.checked os 3 .any (Rows.codeWritesSpec.pre6 enc Try.prog Try.f3 Rows.codeWritesRow.domain false) (Rows.codeWritesSpec.post enc Try.prog Try.f3 false true false false) := by
  refine returnsInHanded_of_change_sized (C := Try.checked) writes_own started (by kernel_rfl) Try.func3
    (ChangeSpec.witness6 (enc := enc) (C := Try.checked) false ⟨#[], #[.slice none 0 0, .slice none 0 0, .slice none 0 0], []⟩ 8 (by kernel_rfl) (by kernel_rfl) (by kernel_rfl) (by kernel_rfl)) ?_
  intro W base args ds gs before hval0 hW _ hsz0 _
  have hval : ∀ (j : Nat) t v, Try.f3.params[j]? = some t → args[j]? = some v → Value.okWide Try.prog W .any base t v := hval0
  have hsz : (DataW.weightsEach Try.prog (Try.f3.params.toList ++ Rows.codeWritesSpec.plain.varTypes Try.prog) (ds ++ gs)).all (· ≤ reachBytes) = true := hsz0
  have hW' := hW
  obtain ⟨p, q, hA0, hV, rfl, hfz, hnd⟩ := hW
  have hA : DataW.TrodAll enc Try.prog W 0 (fun _ => true) true Try.f3.params.toList args.toList ds p := hA0
  rw [Try.params3] at hA hval hsz
  obtain ⟨v0, v1, v2, d0, d1, d2, p0, p1, p2, rfl, rfl, rfl, h0, h1, h2⟩ := trodAll_three hA
  obtain ⟨rfl, rfl⟩ := trodVars_none hV
  obtain ⟨a0, n0, c0, rfl⟩ := okWide_slice Try.underlying22 (hval 0 22 v0 rfl rfl)
  obtain ⟨a1, n1, c1, rfl⟩ := okWide_slice Try.underlying23 (hval 1 23 v1 rfl rfl)
  obtain ⟨a2, n2, c2, rfl⟩ := okWide_slice Try.underlying24 (hval 2 24 v2 rfl rfl)
  clear hA0 hval0 hsz0
  simp only [List.append_nil] at hW'
  have h0k := h0
  have h1k := h1
  have h2k := h2
  obtain ⟨fuel0, hf0⟩ := h0
  obtain ⟨fuel1, hf1⟩ := h1
  obtain ⟨fuel2, hf2⟩ := h2
  obtain ⟨C, ps, d, hc0, hl0, hm0, hs0, hps⟩ := open_parts hf0
  obtain ⟨N, ns, dn, hc1, hl1, hm1, hs1, hns⟩ := open_nums Try.underlying23 hf1
  obtain ⟨S, ss, dt, hc2, hl2, hm2, hs2, hts⟩ := open_strings hf2
  simp only [Value.cells, List.cons.injEq, and_true, Value.slice.injEq] at hc0 hc1 hc2
  obtain ⟨rfl, rfl, rfl⟩ := hc0
  obtain ⟨rfl, rfl, rfl⟩ := hc1
  obtain ⟨rfl, rfl, rfl⟩ := hc2
  have hlt0 : ∀ x ∈ p0, x.block < W.heap.size := fun x hx => hW'.lt x (by simp [hx])
  have hlt1 : ∀ x ∈ p1, x.block < W.heap.size := fun x hx => hW'.lt x (by simp [hx])
  have hlt2 : ∀ x ∈ p2, x.block < W.heap.size := fun x hx => hW'.lt x (by simp [hx])
  have hss : ∀ p ∈ ps, p.s.size ≤ 140737488351232 := fun p hp => by
    have h := List.all_eq_true.1 hsz _ (DataW.weights_mem_each (j := 0) (t := 22) rfl rfl _ (hps p hp).2.2.2.2.2)
    have h2 := of_decide_eq_true h
    exact h2
  have hst : ∀ s ∈ ss, s.size ≤ 140737488351232 := fun s hs => by
    have h := List.all_eq_true.1 hsz _ (DataW.weights_mem_each (j := 2) (t := 24) rfl rfl _ (hts s hs))
    have h2 := of_decide_eq_true h
    exact h2
  unfold maxLen at hm0 hm1 hm2
  refine (writes_walk _ _ _ ps ns ss _ _ _ W hs0 (by omega) (fun p hp => ⟨(hps p hp).1, (hps p hp).2.2.1⟩) hss hs1 (by omega) hns hs2 (by omega) hst).mono fun e W' ⟨he, hB⟩ => ?_
  subst he
  exact ⟨_, rfl, _, _, _, [], _, [], hW', trodAll_mk1 (shut_bool Try.underlying4 _),
    trodAll_mk3 (Below.trod writes_laidOut (by kernel_rfl) (of_decide_eq_true (by kernel_rfl)) h0k hB hlt0) (Below.trod writes_laidOut (by kernel_rfl) (of_decide_eq_true (by kernel_rfl)) h1k hB hlt1) (Below.trod writes_laidOut (by kernel_rfl) (of_decide_eq_true (by kernel_rfl)) h2k hB hlt2),
    rfl, hB.frame _, fun h => by cases h⟩

theorem codeWrites_holds : Rows.CodeWritesSaid :=
  OpenClaim.holds_of_wide 3 Try.f3 rfl rfl rfl rfl rfl rfl rfl ⟨rfl, rfl, rfl, rfl, rfl⟩ rfl rfl rfl rfl rfl (by kernel_rfl) Try.func3 (by kernel_rfl)
    (of_decide_eq_true (by kernel_rfl)) (by unfold Func.isWrapper; first | (rw [if_pos (by decide +kernel)]; kernel_rfl) | (rw [if_neg (by decide +kernel)]; exact ⟨rfl, rfl⟩))
    (fun os started H enc _ => codeWrites_lifted os started H enc)
#print axioms codeWrites_holds

end Go.Proofs.Ytkafpdfjdnklaaa
