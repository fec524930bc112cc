/-
  RequestAnswers: for every input the law returns true, and its arguments read afterwards as they read before. No condition.
-/
import Derived.Test.YtoamcdbemhbphaaRows
import Derived.Test.YtoamcdbemhbphaaRqRowKit
import Derived.Test.YtoamcdbemhbphaaRqAns
namespace Go.Proofs.Ytoamcdbemhbphaa
open Go.ChangeShapes Go.WideShapes Go.ChangeAt Go.RowKit Go.Deep

set_option maxRecDepth 100000 in
set_option maxHeartbeats 2000000 in
theorem requestAnswers_lifted (os : Os) (started : os.Started) (H : Type) (enc : TypeId × Value → H) :
    ReturnsInHanded {} Try.checked os 4 .any (Rows.requestAnswersSpec.pre6 enc Try.prog Try.f4 Rows.requestAnswersRow.domain false) (Rows.requestAnswersSpec.post enc Try.prog Try.f4 false true false false) := by
  refine returnsInHanded_of_change_sized (C := Try.checked) row_own9 started (by kernel_rfl) Try.func4
    (ChangeSpec.witness6 (enc := enc) (C := Try.checked) false ⟨#[], #[.agg #[.int .i64 0, .int .i64 0, .int .i64 0, .slice none 0 0], .agg #[.int .i64 0, .int .i64 0, .int .i64 0, .slice none 0 0], .slice none 0 0], []⟩ 8 (by kernel_rfl) (by kernel_rfl) (by kernel_rfl) (by kernel_rfl)) ?_
  intro W base args ds gs before hval0 hW _ hsz0 _
  have hval : ∀ (j : Nat) t v, Try.f4.params[j]? = some t → args[j]? = some v → Value.okWide Try.prog W .any base t v := hval0
  have hW' := hW
  obtain ⟨p, q, hA0, hV, rfl, hfz, hnd⟩ := hW
  have hA : DataW.TrodAll enc Try.prog W 0 (fun _ => true) true Try.f4.params.toList args.toList ds p := hA0
  have hsz : (DataW.weightsEach Try.prog (Try.f4.params.toList ++ Rows.requestAnswersSpec.plain.varTypes Try.prog) (ds ++ gs)).all (· ≤ reachBytes) = true := hsz0
  rw [Try.params4] at hA hval hsz
  obtain ⟨v0, v1, v2, d0, d1, d2, p0, p1, p2, rfl, rfl, rfl, h0, h1, h2⟩ := trodAll_three hA
  obtain ⟨rfl, rfl⟩ := trodVars_none hV
  clear hA0 hval0
  simp only [List.append_nil] at hW'
  have h0k := h0
  obtain ⟨g0, rfl⟩ : ∃ cs, v0 = .agg cs := by
    have h := hval 0 51 v0 rfl rfl
    unfold Value.okWide at h
    rw [Try.underlying51] at h
    obtain ⟨cs, h, _⟩ := h
    exact ⟨cs, h⟩
  obtain ⟨fuel0, hf0⟩ := h0
  obtain ⟨c0, n0, k0, A0, l0, z0, hc0, hn0, hk0, e0, hl0, hs0, ht0⟩ := open_reply9 hf0
  obtain rfl : g0 = repV c0 n0 k0 A0 l0.length z0 := by
    apply Array.ext'
    simpa [Value.cells] using e0
  have hw0 : ∀ s ∈ l0, s.size ≤ 140737488351232 := fun s hs => by
    have h := List.all_eq_true.1 hsz _ (DataW.weights_mem_each (j := 0) (t := 51) rfl rfl _ (ht0 s hs))
    exact of_decide_eq_true h
  have h1k := h1
  obtain ⟨g1, rfl⟩ : ∃ cs, v1 = .agg cs := by
    have h := hval 1 51 v1 rfl rfl
    unfold Value.okWide at h
    rw [Try.underlying51] at h
    obtain ⟨cs, h, _⟩ := h
    exact ⟨cs, h⟩
  obtain ⟨fuel1, hf1⟩ := h1
  obtain ⟨c1, n1, k1, A1, l1, z1, hc1, hn1, hk1, e1, hl1, hs1, ht1⟩ := open_reply9 hf1
  obtain rfl : g1 = repV c1 n1 k1 A1 l1.length z1 := by
    apply Array.ext'
    simpa [Value.cells] using e1
  have hw1 : ∀ s ∈ l1, s.size ≤ 140737488351232 := fun s hs => by
    have h := List.all_eq_true.1 hsz _ (DataW.weights_mem_each (j := 1) (t := 51) rfl rfl _ (ht1 s hs))
    exact of_decide_eq_true h
  have h2k := h2
  obtain ⟨a2, m2, y2, rfl⟩ := okWide_slice Try.underlying32 (hval 2 32 v2 rfl rfl)
  obtain ⟨fuel2, hf2⟩ := h2
  obtain ⟨A2, l2, z2, e2, hl2, hm2, hs2⟩ := open_bytes9 hf2
  simp only [Value.cells, List.cons.injEq, and_true, Value.slice.injEq] at e2
  obtain ⟨rfl, rfl, rfl⟩ := e2
  have hlt : ∀ x ∈ p0 ++ p1 ++ p2, x.block < W.heap.size := fun x hx => by simpa using hW'.lt x hx
  refine (answers_walk c0 n0 k0 hc0 hn0 hk0 A0 l0 z0 hl0 hw0 c1 n1 k1 A1 l1 z1 hl1 hw1 l2 a2 y2 W hs0 hs1 hs2).mono fun e W' ⟨he, hB⟩ => ?_
  subst he
  rw [List.append_assoc] at hW'
  exact ⟨_, rfl, _, _, _, [], p0 ++ (p1 ++ p2), [], hW', trodAll_mk1 (shut_bool Try.underlying4 _),
    trodAll_mk3 (Below.trod row_laidOut9 (by kernel_rfl) (of_decide_eq_true (by kernel_rfl)) h0k hB (fun x hx => hlt x (List.mem_append_left _ (List.mem_append_left _ hx)))) (Below.trod row_laidOut9 (by kernel_rfl) (of_decide_eq_true (by kernel_rfl)) h1k hB (fun x hx => hlt x (List.mem_append_left _ (List.mem_append_right _ hx)))) (Below.trod row_laidOut9 (by kernel_rfl) (of_decide_eq_true (by kernel_rfl)) h2k hB (fun x hx => hlt x (List.mem_append_right _ hx))),
    rfl, hB.frame _, fun h => by cases h⟩

set_option maxRecDepth 100000 in
theorem requestAnswers_holds : Rows.RequestAnswersSaid :=
  OpenClaim.holds_of_wide 4 Try.f4 rfl rfl rfl rfl rfl rfl rfl ⟨rfl, rfl, rfl, rfl, rfl⟩ rfl rfl rfl rfl rfl (by kernel_rfl) Try.func4 (by kernel_rfl)
    (of_decide_eq_true (by kernel_rfl)) (by unfold Func.isWrapper; first | (rw [if_pos (by decide +kernel)]; kernel_rfl) | (rw [if_neg (by decide +kernel)]; exact ⟨rfl, rfl⟩))
    (fun os started H enc _ => requestAnswers_lifted os started H enc)
#print axioms requestAnswers_holds

end Go.Proofs.Ytoamcdbemhbphaa
