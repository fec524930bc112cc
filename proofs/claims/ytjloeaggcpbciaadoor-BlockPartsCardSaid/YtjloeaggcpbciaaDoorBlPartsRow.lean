/-
  BlockParts: for every input the law returns true, and its arguments read afterwards as they read before. No condition; the card ties the table of roots to the program's text.
-/
import Derived.Test.YtjloeaggcpbciaaDoorRows
import Derived.Test.YtjloeaggcpbciaaDoorTyKit
import Derived.Test.YtjloeaggcpbciaaDoorRX
import Derived.Test.YtjloeaggcpbciaaDoorBlRowKit
import Derived.Test.YtjloeaggcpbciaaDoorBlParts
namespace Go.Proofs.YtjloeaggcpbciaaDoor
open Go.ChangeShapes Go.WideShapes Go.ChangeAt Go.RowKit Go.Deep

abbrev blockPartsArgs : Array Value := #[.agg ([Value.int .i64 0, .int .i64 0] ++ List.replicate 96 (Value.int .u8 0) ++ [Value.slice none 0 0]).toArray, .agg ([Value.int .i64 0, .int .i64 0] ++ List.replicate 96 (Value.int .u8 0) ++ [Value.slice none 0 0]).toArray]
set_option maxRecDepth 100000 in
theorem blockParts_met (os : Os) : laidMet Tryd.prog Rows.blockPartsRow.laid ((tyWorld os blockPartsArgs).forCall (fun _ _ => 0) ⟨#[], blockPartsArgs, []⟩).memory :=
  laidMet_of_run' 8 (by kernel_rfl) (by kernel_rfl)
set_option maxRecDepth 100000 in
theorem blockParts_reads (os : Os) {H : Type} (enc : TypeId × Value → H) : ∃ places, DataW.whole enc Tryd.prog ((tyWorld os blockPartsArgs).forCall (fun _ _ => 0) ⟨#[], blockPartsArgs, []⟩).memory Tryd.f3.params.toList Rows.blockPartsSpec.vars false blockPartsArgs.toList 8 = some ([.agg [.lit (.int .i64 0), .lit (.int .i64 0), .agg (List.replicate 32 (.lit (.int .u8 0))), .agg (List.replicate 32 (.lit (.int .u8 0))), .agg (List.replicate 32 (.lit (.int .u8 0))), .nil], .agg [.lit (.int .i64 0), .lit (.int .i64 0), .agg (List.replicate 32 (.lit (.int .u8 0))), .agg (List.replicate 32 (.lit (.int .u8 0))), .agg (List.replicate 32 (.lit (.int .u8 0))), .nil]], [], places) :=
  ⟨[], by kernel_rfl⟩
set_option maxRecDepth 100000 in
set_option maxHeartbeats 4000000 in
theorem blockParts_lifted (os : Os) (started : os.Started) (H : Type) (enc : TypeId × Value → H) (F : Stop.Interp) :
    ReturnsInHanded {} Tryd.checked os 3 .any ((OpenSpec.ofChange Rows.blockPartsSpec).preRow enc Tryd.prog Tryd.f3 Rows.blockPartsRow.domain false Rows.blockPartsRow.laid) (((OpenSpec.ofChange Rows.blockPartsSpec).at F).post enc Tryd.prog Tryd.f3 false true false false) := by
  obtain ⟨places, hx⟩ := blockParts_reads os enc
  refine returnsInHanded_of_row (C := Tryd.checked) (s := OpenSpec.ofChange Rows.blockPartsSpec) row_own9 started (by kernel_rfl) Tryd.func3
    (witness_row_at (enc := enc) (C := Tryd.checked) false (tyWorld os blockPartsArgs) blockPartsArgs rfl (by kernel_rfl) (by kernel_rfl) (by kernel_rfl)
      (OpenSpec.preRow_of_cond 8 hx (by kernel_rfl) (fun k hk => by cases hk) (by kernel_rfl) (blockParts_met os))) ?_
  intro W base args ds gs before hval0 hW _ _ hsz0 hL _ _
  have hval : ∀ (j : Nat) t v, Tryd.f3.params[j]? = some t → args[j]? = some v → Value.okWide Tryd.prog W .any base t v := hval0
  have hR : Roots W := tyTable hL
  have hW' := hW
  obtain ⟨p, q, hA0, hV, rfl, hfz, hnd⟩ := hW
  have hA : DataW.TrodAll enc Tryd.prog W 0 (fun _ => true) true Tryd.f3.params.toList args.toList ds p := hA0
  have hsz : (DataW.weightsEach Tryd.prog (Tryd.f3.params.toList ++ Rows.blockPartsSpec.plain.varTypes Tryd.prog) (ds ++ gs)).all (· ≤ reachBytes) = true := hsz0
  rw [Tryd.params3] at hA hval hsz
  obtain ⟨v0, v1, d0, d1, p0, p1, rfl, rfl, rfl, h0, h1⟩ := trodAll_two hA
  obtain ⟨rfl, rfl⟩ := trodVars_none hV
  clear hA0 hval0
  simp only [List.append_nil] at hW'
  have h0k := h0
  obtain ⟨g0, rfl⟩ : ∃ cs, v0 = .agg cs := by
    have h := hval 0 26 v0 rfl rfl
    unfold Value.okWide at h
    rw [Tryd.underlying26] at h
    obtain ⟨cs, h, _⟩ := h
    exact ⟨cs, h⟩
  obtain ⟨fuel0, hf0⟩ := h0
  obtain ⟨x0, e0, hI0⟩ := open_blk12 (b := 140737488351232) (fun u hu => of_decide_eq_true (List.all_eq_true.1 hsz _ (DataW.weights_mem_each (j := 0) (t := 26) rfl rfl _ hu))) hf0
  obtain rfl : g0 = x0.cells.toArray := by
    apply Array.ext'
    simpa [Value.cells] using e0
  have h1k := h1
  obtain ⟨g1, rfl⟩ : ∃ cs, v1 = .agg cs := by
    have h := hval 1 26 v1 rfl rfl
    unfold Value.okWide at h
    rw [Tryd.underlying26] at h
    obtain ⟨cs, h, _⟩ := h
    exact ⟨cs, h⟩
  obtain ⟨fuel1, hf1⟩ := h1
  obtain ⟨x1, e1, hI1⟩ := open_blk12 (b := 140737488351232) (fun u hu => of_decide_eq_true (List.all_eq_true.1 hsz _ (DataW.weights_mem_each (j := 1) (t := 26) rfl rfl _ hu))) hf1
  obtain rfl : g1 = x1.cells.toArray := by
    apply Array.ext'
    simpa [Value.cells] using e1
  have hlt : ∀ x ∈ p0 ++ p1, x.block < W.heap.size := fun x hx => by simpa using hW'.lt x hx
  refine (blparts_walk x0 x1 ⟨hI0.epoch, hI0.height, hI0.len, hI0.num, hI0.txt⟩ ⟨hI1.epoch, hI1.height, hI1.len, hI1.num, hI1.txt⟩ W hI0.see hI1.see hR).mono fun e W' ⟨he, hB⟩ => ?_
  subst he
  exact ⟨_, rfl, _, _, _, [], p0 ++ p1, [], hW', trodAll_mk1 (shut_bool Tryd.underlying4 _),
    trodAll_mk2 (Below.trod row_laidOut9 (by kernel_rfl) (of_decide_eq_true (by kernel_rfl)) h0k hB (fun x hx => hlt x (List.mem_append_left _ hx))) (Below.trod row_laidOut9 (by kernel_rfl) (of_decide_eq_true (by kernel_rfl)) h1k hB (fun x hx => hlt x (List.mem_append_right _ hx))),
    rfl, hB.frame _, fun h => by cases h⟩

set_option maxRecDepth 100000 in
theorem blockParts_said : Rows.BlockPartsSaid :=
  OpenClaim.holds_of_cond 3 Tryd.f3 rfl rfl rfl rfl rfl rfl rfl ⟨rfl, rfl, rfl, rfl, rfl⟩ rfl rfl rfl rfl rfl (by kernel_rfl) Tryd.func3 (by kernel_rfl)
    (of_decide_eq_true (by kernel_rfl)) (by unfold Func.isWrapper; first | (rw [if_pos (by decide +kernel)]; kernel_rfl) | (rw [if_neg (by decide +kernel)]; exact ⟨rfl, rfl⟩))
    (fun os started H enc _ F => by rw [OpenClaim.pre_eq_preRow]; exact blockParts_lifted os started H enc F)

set_option maxRecDepth 100000 in
theorem blockParts_plain (f : FuncId) (fn : Func) (hf : Tryd.pinned.checked.prog.funcNamed "wapentake/wapentakelaw12.BlockParts" = some f) (hfn : Tryd.pinned.checked.prog.funcs[f]? = some fn) :
    false = Tryd.pinned.checked.prog.looks [] ∧ ∀ (j : Nat) t, fn.params[j]? = some t → Tryd.pinned.checked.prog.wantsStandIn t = false := by
  obtain rfl : f = 3 := Option.some.inj ((show Tryd.prog.funcNamed "wapentake/wapentakelaw12.BlockParts" = some 3 by kernel_rfl).symm.trans hf) |>.symm
  obtain rfl : fn = Tryd.f3 := (Option.some.inj (Tryd.func3.symm.trans hfn)).symm
  refine ⟨by kernel_rfl, fun j t ht => ?_⟩
  rw [Tryd.params3] at ht
  have hm := Array.mem_of_getElem? ht
  simp only [List.mem_toArray, List.mem_cons, List.not_mem_nil, or_false] at hm
  rcases hm with rfl | rfl
  · exact (show Tryd.prog.wantsStandIn 26 = false by kernel_rfl)
  · exact (show Tryd.prog.wantsStandIn 26 = false by kernel_rfl)

set_option maxRecDepth 100000 in
theorem blockParts_holds : Rows.BlockPartsCardSaid :=
  Claim7.holds_tied_plain_at .later [] _ _ _ _ blockParts_said (fun _ h => by cases h) (by kernel_rfl) (fun _ h => by cases h) blockParts_row_tie rfl ⟨rfl, rfl⟩ (by kernel_rfl) rfl blockParts_plain (by kernel_rfl)
#print axioms blockParts_holds
end Go.Proofs.YtjloeaggcpbciaaDoor
