/-
  VoteBoxes: for every input the law returns true, and its arguments read afterwards as they read before. No condition; the card ties the table of roots to the program's text.
-/
import Derived.Test.YtadnnnbdlkjnkaaGreatDoorRows
import Derived.Test.YtadnnnbdlkjnkaaGreatDoorTyKit
import Derived.Test.YtadnnnbdlkjnkaaGreatDoorRX
import Derived.Test.YtadnnnbdlkjnkaaGreatDoorVoRowKit
import Derived.Test.YtadnnnbdlkjnkaaGreatDoorFive
import Derived.Test.YtadnnnbdlkjnkaaGreatDoorVoBoxes
namespace Go.Proofs.YtadnnnbdlkjnkaaGreatDoor
open Go.ChangeShapes Go.WideShapes Go.ChangeAt Go.RowKit Go.Deep

abbrev voteBoxesArgs : Array Value := #[.slice none 0 0, .int .i64 0, .int .i64 0, .agg (List.replicate 32 (Value.int .u8 0)).toArray, .int .i64 0]
set_option maxRecDepth 100000 in
theorem voteBoxes_met (os : Os) : laidMet Tryz.prog Rows.voteBoxesRow.laid ((tyWorld os voteBoxesArgs).forCall (fun _ _ => 0) ⟨#[], voteBoxesArgs, []⟩).memory :=
  laidMet_of_run' 8 (by kernel_rfl) (by kernel_rfl)
set_option maxRecDepth 100000 in
theorem voteBoxes_reads (os : Os) {H : Type} (enc : TypeId × Value → H) : ∃ places, DataW.whole enc Tryz.prog ((tyWorld os voteBoxesArgs).forCall (fun _ _ => 0) ⟨#[], voteBoxesArgs, []⟩).memory Tryz.f3.params.toList Rows.voteBoxesSpec.vars false voteBoxesArgs.toList 8 = some ([.nil, .lit (.int .i64 0), .lit (.int .i64 0), .agg (List.replicate 32 (.lit (.int .u8 0))), .lit (.int .i64 0)], [], places) :=
  ⟨[], by kernel_rfl⟩
set_option maxRecDepth 100000 in
set_option maxHeartbeats 4000000 in
theorem voteBoxes_lifted (os : Os) (started : os.Started) (H : Type) (enc : TypeId × Value → H) (F : Stop.Interp) :
    ReturnsInHanded {} Tryz.checked os 3 .any ((OpenSpec.ofChange Rows.voteBoxesSpec).preRow enc Tryz.prog Tryz.f3 Rows.voteBoxesRow.domain false Rows.voteBoxesRow.laid) (((OpenSpec.ofChange Rows.voteBoxesSpec).at F).post enc Tryz.prog Tryz.f3 false true false false) := by
  obtain ⟨places, hx⟩ := voteBoxes_reads os enc
  refine returnsInHanded_of_row (C := Tryz.checked) (s := OpenSpec.ofChange Rows.voteBoxesSpec) row_own9 started (by kernel_rfl) Tryz.func3
    (witness_row_at (enc := enc) (C := Tryz.checked) false (tyWorld os voteBoxesArgs) voteBoxesArgs rfl (by kernel_rfl) (by kernel_rfl) (by kernel_rfl)
      (OpenSpec.preRow_of_cond 8 hx (by kernel_rfl) (fun k hk => by cases hk) (by kernel_rfl) (voteBoxes_met os))) ?_
  intro W base args ds gs before hval0 hW _ _ hsz0 hL _ _
  have hval : ∀ (j : Nat) t v, Tryz.f3.params[j]? = some t → args[j]? = some v → Value.okWide Tryz.prog W .any base t v := hval0
  have hR : Roots W := tyTable hL
  have hW' := hW
  obtain ⟨p, q, hA0, hV, rfl, hfz, hnd⟩ := hW
  have hA : DataW.TrodAll enc Tryz.prog W 0 (fun _ => true) true Tryz.f3.params.toList args.toList ds p := hA0
  have hsz : (DataW.weightsEach Tryz.prog (Tryz.f3.params.toList ++ Rows.voteBoxesSpec.plain.varTypes Tryz.prog) (ds ++ gs)).all (· ≤ reachBytes) = true := hsz0
  rw [Tryz.params3] at hA hval hsz
  obtain ⟨v0, v1, v2, v3, v4, d0, d1, d2, d3, d4, p0, p1, p2, p3, p4, rfl, rfl, rfl, h0, h1, h2, h3, h4⟩ := trodAll_five' hA
  obtain ⟨rfl, rfl⟩ := trodVars_none hV
  clear hA0 hval0
  simp only [List.append_nil] at hW'
  have h0k := h0
  obtain ⟨a0, m0, y0, rfl⟩ := okWide_slice Tryz.underlying22 (hval 0 22 v0 rfl rfl)
  obtain ⟨fuel0, hf0⟩ := h0
  obtain ⟨A0, l0, z0, e0, hl0, hs0, hq0⟩ := open_votes13 (b := 140737488351232) (fun u hu => of_decide_eq_true (List.all_eq_true.1 hsz _ (DataW.weights_mem_each (j := 0) (t := 22) rfl rfl _ hu))) hf0
  simp only [Value.cells, List.cons.injEq, and_true, Value.slice.injEq] at e0
  obtain ⟨rfl, rfl, rfl⟩ := e0
  have h1k := h1
  obtain ⟨n1, rfl⟩ := okWide_int Tryz.underlying3 (hval 1 3 v1 rfl rfl)
  obtain ⟨fuel1, hf1⟩ := h1
  obtain ⟨m1', hc1, _, hw1⟩ := DataW.trod_int Tryz.underlying3 hf1
  simp only [Value.cells, List.cons.injEq, and_true, Value.int.injEq, true_and] at hc1
  subst hc1
  have hb1 := i64_wf9 hw1
  have h2k := h2
  obtain ⟨n2, rfl⟩ := okWide_int Tryz.underlying3 (hval 2 3 v2 rfl rfl)
  obtain ⟨fuel2, hf2⟩ := h2
  obtain ⟨m2', hc2, _, hw2⟩ := DataW.trod_int Tryz.underlying3 hf2
  simp only [Value.cells, List.cons.injEq, and_true, Value.int.injEq, true_and] at hc2
  subst hc2
  have hb2 := i64_wf9 hw2
  have h3k := h3
  obtain ⟨g3, rfl⟩ : ∃ cs, v3 = .agg cs := by
    have h := hval 3 24 v3 rfl rfl
    unfold Value.okWide at h
    rw [Tryz.underlying24] at h
    obtain ⟨cs, h, _⟩ := h
    exact ⟨cs, h⟩
  obtain ⟨fuel3, hf3⟩ := h3
  obtain ⟨l3, hl3, hc3⟩ := open_digest8 hf3
  obtain rfl : g3 = (l3.map bv).toArray := by
    apply Array.ext'
    simpa [Value.cells] using hc3
  have h4k := h4
  obtain ⟨n4, rfl⟩ := okWide_int Tryz.underlying3 (hval 4 3 v4 rfl rfl)
  obtain ⟨fuel4, hf4⟩ := h4
  obtain ⟨m4', hc4, _, hw4⟩ := DataW.trod_int Tryz.underlying3 hf4
  simp only [Value.cells, List.cons.injEq, and_true, Value.int.injEq, true_and] at hc4
  subst hc4
  have hb4 := i64_wf9 hw4
  have hlt : ∀ x ∈ p0 ++ (p1 ++ (p2 ++ (p3 ++ p4))), x.block < W.heap.size := fun x hx => by simpa using hW'.lt x hx
  refine (boxes_walk l0 _ _ n1 n2 n4 l3 hl3 W hs0 (fun m hm => ⟨wf_of13 (hq0 m hm).kind, wf_of13 (hq0 m hm).round, wf_of13 (hq0 m hm).frm, (hq0 m hm).see⟩) (by omega) hR).mono fun e W' ⟨he, hB⟩ => ?_
  subst he
  exact ⟨_, rfl, _, _, _, [], p0 ++ (p1 ++ (p2 ++ (p3 ++ p4))), [], hW', trodAll_mk1 (shut_bool Tryz.underlying4 _),
    trodAll_mk5' (Below.trod row_laidOut9 (by kernel_rfl) (of_decide_eq_true (by kernel_rfl)) h0k hB (fun x hx => hlt x (List.mem_append_left _ hx))) (Below.trod row_laidOut9 (by kernel_rfl) (of_decide_eq_true (by kernel_rfl)) h1k hB (fun x hx => hlt x (List.mem_append_right _ (List.mem_append_left _ hx)))) (Below.trod row_laidOut9 (by kernel_rfl) (of_decide_eq_true (by kernel_rfl)) h2k hB (fun x hx => hlt x (List.mem_append_right _ (List.mem_append_right _ (List.mem_append_left _ hx))))) (Below.trod row_laidOut9 (by kernel_rfl) (of_decide_eq_true (by kernel_rfl)) h3k hB (fun x hx => hlt x (List.mem_append_right _ (List.mem_append_right _ (List.mem_append_right _ (List.mem_append_left _ hx)))))) (Below.trod row_laidOut9 (by kernel_rfl) (of_decide_eq_true (by kernel_rfl)) h4k hB (fun x hx => hlt x (List.mem_append_right _ (List.mem_append_right _ (List.mem_append_right _ (List.mem_append_right _ hx)))))),
    rfl, hB.frame _, fun h => by cases h⟩

set_option maxRecDepth 100000 in
theorem voteBoxes_said : Rows.VoteBoxesSaid :=
  OpenClaim.holds_of_cond 3 Tryz.f3 rfl rfl rfl rfl rfl rfl rfl ⟨rfl, rfl, rfl, rfl, rfl⟩ rfl rfl rfl rfl rfl (by kernel_rfl) Tryz.func3 (by kernel_rfl)
    (of_decide_eq_true (by kernel_rfl)) (by unfold Func.isWrapper; first | (rw [if_pos (by decide +kernel)]; kernel_rfl) | (rw [if_neg (by decide +kernel)]; exact ⟨rfl, rfl⟩))
    (fun os started H enc _ F => by rw [OpenClaim.pre_eq_preRow]; exact voteBoxes_lifted os started H enc F)

set_option maxRecDepth 100000 in
theorem voteBoxes_plain (f : FuncId) (fn : Func) (hf : Tryz.pinned.checked.prog.funcNamed "wapentake/wapentakelaw13.VoteBoxes" = some f) (hfn : Tryz.pinned.checked.prog.funcs[f]? = some fn) :
    false = Tryz.pinned.checked.prog.looks [] ∧ ∀ (j : Nat) t, fn.params[j]? = some t → Tryz.pinned.checked.prog.wantsStandIn t = false := by
  obtain rfl : f = 3 := Option.some.inj ((show Tryz.prog.funcNamed "wapentake/wapentakelaw13.VoteBoxes" = some 3 by kernel_rfl).symm.trans hf) |>.symm
  obtain rfl : fn = Tryz.f3 := (Option.some.inj (Tryz.func3.symm.trans hfn)).symm
  refine ⟨by kernel_rfl, fun j t ht => ?_⟩
  rw [Tryz.params3] at ht
  have hm := Array.mem_of_getElem? ht
  simp only [List.mem_toArray, List.mem_cons, List.not_mem_nil, or_false] at hm
  rcases hm with rfl | rfl | rfl | rfl | rfl
  · exact (show Tryz.prog.wantsStandIn 22 = false by kernel_rfl)
  · exact (show Tryz.prog.wantsStandIn 3 = false by kernel_rfl)
  · exact (show Tryz.prog.wantsStandIn 3 = false by kernel_rfl)
  · exact (show Tryz.prog.wantsStandIn 24 = false by kernel_rfl)
  · exact (show Tryz.prog.wantsStandIn 3 = false by kernel_rfl)

set_option maxRecDepth 100000 in
theorem voteBoxes_holds : Rows.VoteBoxesCardSaid :=
  Claim7.holds_tied_plain_at .later [] _ _ _ _ voteBoxes_said (fun _ h => by cases h) (by kernel_rfl) (fun _ h => by cases h) voteBoxes_row_tie rfl ⟨rfl, rfl⟩ (by kernel_rfl) rfl voteBoxes_plain (by kernel_rfl)
#print axioms voteBoxes_holds
end Go.Proofs.YtadnnnbdlkjnkaaGreatDoor
