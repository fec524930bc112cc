/-
  StateOnce: for every input the law returns true, and its arguments read afterwards as they read before. No condition; the card ties the table of roots to the program's text.
-/
import Derived.Test.YtbgbidgggjkmmaaGreatDoorRows
import Derived.Test.YtbgbidgggjkmmaaGreatDoorStTyKit
import Derived.Test.YtbgbidgggjkmmaaGreatDoorRqRowKit
import Derived.Test.YtbgbidgggjkmmaaGreatDoorStRowKit
import Derived.Test.YtbgbidgggjkmmaaGreatDoorNJ
import Derived.Test.YtbgbidgggjkmmaaGreatDoorStOnce
namespace Go.Proofs.YtbgbidgggjkmmaaGreatDoor
open Go.ChangeShapes Go.WideShapes Go.ChangeAt Go.RowKit Go.Deep

abbrev stateOnceArgs : Array Value := #[.agg #[.slice none 0 0, .slice none 0 0, .int .i64 0, .slice none 0 0], .agg ([Value.int .i64 0, .int .i64 0, .int .i64 0, .string ⟨#[]⟩, .string ⟨#[]⟩, .string ⟨#[]⟩, .int .i64 0, .int .i64 0, .int .i64 0] ++ List.replicate 32 (Value.int .u8 0) ++ [Value.int .i64 0]).toArray, .slice none 0 0, .agg ([Value.int .i64 0, .int .i64 0, .int .i64 0, .string ⟨#[]⟩, .string ⟨#[]⟩, .string ⟨#[]⟩, .int .i64 0, .int .i64 0, .int .i64 0] ++ List.replicate 32 (Value.int .u8 0) ++ [Value.int .i64 0]).toArray]
set_option maxRecDepth 100000 in
theorem stateOnce_met (os : Os) : laidMet Tryz.prog Rows.stateOnceRow.laid ((stWorld os stateOnceArgs).forCall (fun _ _ => 0) ⟨#[], stateOnceArgs, []⟩).memory :=
  laidMet_of_run' 8 (by kernel_rfl) (by kernel_rfl)
set_option maxRecDepth 100000 in
theorem stateOnce_reads (os : Os) {H : Type} (enc : TypeId × Value → H) : ∃ places, DataW.whole enc Tryz.prog ((stWorld os stateOnceArgs).forCall (fun _ _ => 0) ⟨#[], stateOnceArgs, []⟩).memory Tryz.f4.params.toList Rows.stateOnceSpec.vars false stateOnceArgs.toList 8 = some ([.agg [.nil, .nil, .agg [.lit (.int .i64 0), .nil]], .agg [.lit (.int .i64 0), .lit (.int .i64 0), .agg [.lit (.int .i64 0), .lit (.string []), .lit (.string []), .lit (.string []), .agg [.lit (.int .i64 0), .lit (.int .i64 0), .lit (.int .i64 0), .agg [.agg (List.replicate 32 (.lit (.int .u8 0))), .lit (.int .i64 0)]]]], .nil, .agg [.lit (.int .i64 0), .lit (.int .i64 0), .agg [.lit (.int .i64 0), .lit (.string []), .lit (.string []), .lit (.string []), .agg [.lit (.int .i64 0), .lit (.int .i64 0), .lit (.int .i64 0), .agg [.agg (List.replicate 32 (.lit (.int .u8 0))), .lit (.int .i64 0)]]]]], [], places) :=
  ⟨[], by kernel_rfl⟩
set_option maxRecDepth 100000 in
set_option maxHeartbeats 4000000 in
theorem stateOnce_lifted (os : Os) (started : os.Started) (H : Type) (enc : TypeId × Value → H) (F : Stop.Interp) :
    ReturnsInHanded {} Tryz.checked os 4 .any ((OpenSpec.ofChange Rows.stateOnceSpec).preRow enc Tryz.prog Tryz.f4 Rows.stateOnceRow.domain false Rows.stateOnceRow.laid) (((OpenSpec.ofChange Rows.stateOnceSpec).at F).post enc Tryz.prog Tryz.f4 false true false false) := by
  obtain ⟨places, hx⟩ := stateOnce_reads os enc
  refine returnsInHanded_of_row (C := Tryz.checked) (s := OpenSpec.ofChange Rows.stateOnceSpec) row_own9 started (by kernel_rfl) Tryz.func4
    (witness_row_at (enc := enc) (C := Tryz.checked) false (stWorld os stateOnceArgs) stateOnceArgs rfl (by kernel_rfl) (by kernel_rfl) (by kernel_rfl)
      (OpenSpec.preRow_of_cond 8 hx (by kernel_rfl) (fun k hk => by cases hk) (by kernel_rfl) (stateOnce_met os))) ?_
  intro W base args ds gs before hval0 hW _ _ hsz0 hL _ _
  have hval : ∀ (j : Nat) t v, Tryz.f4.params[j]? = some t → args[j]? = some v → Value.okWide Tryz.prog W .any base t v := hval0
  have hW' := hW
  obtain ⟨p, q, hA0, hV, rfl, hfz, hnd⟩ := hW
  have hA : DataW.TrodAll enc Tryz.prog W 0 (fun _ => true) true Tryz.f4.params.toList args.toList ds p := hA0
  have hsz : (DataW.weightsEach Tryz.prog (Tryz.f4.params.toList ++ Rows.stateOnceSpec.plain.varTypes Tryz.prog) (ds ++ gs)).all (· ≤ reachBytes) = true := hsz0
  rw [Tryz.params4] at hA hval hsz
  obtain ⟨v0, v1, v2, v3, d0, d1, d2, d3, p0, p1, p2, p3, rfl, rfl, rfl, h0, h1, h2, h3⟩ := trodAll_four hA
  obtain ⟨rfl, rfl⟩ := trodVars_none hV
  clear hA0 hval0
  simp only [List.append_nil] at hW'
  have h0k := h0
  obtain ⟨g0, rfl⟩ : ∃ cs, v0 = .agg cs := by
    have h := hval 0 28 v0 rfl rfl
    unfold Value.okWide at h
    rw [Tryz.underlying28] at h
    obtain ⟨cs, h, _⟩ := h
    exact ⟨cs, h⟩
  obtain ⟨fuel0, hf0⟩ := h0
  obtain ⟨x0, e0, hz0, hr0, hp0, hs0⟩ := open_state10 (b := 140737488351232) (Nat.le_refl _) (fun u hu => of_decide_eq_true (List.all_eq_true.1 hsz _ (DataW.weights_mem_each (j := 0) (t := 28) rfl rfl _ hu))) hf0
  obtain rfl : g0 = x0.cells := by
    apply Array.ext'
    simpa [Value.cells] using e0
  have h1k := h1
  obtain ⟨g1, rfl⟩ : ∃ cs, v1 = .agg cs := by
    have h := hval 1 56 v1 rfl rfl
    unfold Value.okWide at h
    rw [Tryz.underlying56] at h
    obtain ⟨cs, h, _⟩ := h
    exact ⟨cs, h⟩
  obtain ⟨fuel1, hf1⟩ := h1
  obtain ⟨x1, e1, hI1, hq1⟩ := open_req10 (b := 140737488351232) (fun u hu => of_decide_eq_true (List.all_eq_true.1 hsz _ (DataW.weights_mem_each (j := 1) (t := 56) rfl rfl _ hu))) hf1
  obtain rfl : g1 = x1.cells.toArray := by
    apply Array.ext'
    simpa [Value.cells] using e1
  have h2k := h2
  obtain ⟨a2, m2, y2, rfl⟩ := okWide_slice Tryz.underlying57 (hval 2 57 v2 rfl rfl)
  obtain ⟨fuel2, hf2⟩ := h2
  obtain ⟨A2, l2, z2, e2, hl2, hs2, hq2⟩ := open_reqs10 (b := 140737488351232) (fun u hu => of_decide_eq_true (List.all_eq_true.1 hsz _ (DataW.weights_mem_each (j := 2) (t := 57) rfl rfl _ hu))) hf2
  simp only [Value.cells, List.cons.injEq, and_true, Value.slice.injEq] at e2
  obtain ⟨rfl, rfl, rfl⟩ := e2
  have h3k := h3
  obtain ⟨g3, rfl⟩ : ∃ cs, v3 = .agg cs := by
    have h := hval 3 56 v3 rfl rfl
    unfold Value.okWide at h
    rw [Tryz.underlying56] at h
    obtain ⟨cs, h, _⟩ := h
    exact ⟨cs, h⟩
  obtain ⟨fuel3, hf3⟩ := h3
  obtain ⟨x3, e3, hI3, hq3⟩ := open_req10 (b := 140737488351232) (fun u hu => of_decide_eq_true (List.all_eq_true.1 hsz _ (DataW.weights_mem_each (j := 3) (t := 56) rfl rfl _ hu))) hf3
  obtain rfl : g3 = x3.cells.toArray := by
    apply Array.ext'
    simpa [Value.cells] using e3
  have hlt : ∀ x ∈ p0 ++ p1 ++ p2 ++ p3, x.block < W.heap.size := fun x hx => by simpa using hW'.lt x hx
  refine (once10_walk x0 x1 x3 l2 _ _ W hz0 hq1 hq3 (by omega) (fun q hq => (hq2 q hq).2) Tab10 (fun w' hb => (stTable hL).below hb) (fun o ho => hop_all o (hq2 o ho).1.2.2.2.2.1 (hq2 o ho).1.2.2.2.2.2.1) (hop_all x1 hI1.2.2.2.2.1 hI1.2.2.2.2.2.1) (hop_all (asC x3 x1.client) hI3.2.2.2.2.1 hI3.2.2.2.2.2.1) hs0 hs2).mono fun e W' ⟨he, hB⟩ => ?_
  subst he
  rw [List.append_assoc, List.append_assoc] at hW'
  exact ⟨_, rfl, _, _, _, [], p0 ++ (p1 ++ (p2 ++ p3)), [], hW', trodAll_mk1 (shut_bool Tryz.underlying4 _),
    trodAll_mk4 (Below.trod row_laidOut9 (by kernel_rfl) (of_decide_eq_true (by kernel_rfl)) h0k hB (fun x hx => hlt x (List.mem_append_left _ (List.mem_append_left _ (List.mem_append_left _ hx))))) (Below.trod row_laidOut9 (by kernel_rfl) (of_decide_eq_true (by kernel_rfl)) h1k hB (fun x hx => hlt x (List.mem_append_left _ (List.mem_append_left _ (List.mem_append_right _ hx))))) (Below.trod row_laidOut9 (by kernel_rfl) (of_decide_eq_true (by kernel_rfl)) h2k hB (fun x hx => hlt x (List.mem_append_left _ (List.mem_append_right _ hx)))) (Below.trod row_laidOut9 (by kernel_rfl) (of_decide_eq_true (by kernel_rfl)) h3k hB (fun x hx => hlt x (List.mem_append_right _ hx))),
    rfl, hB.frame _, fun h => by cases h⟩

set_option maxRecDepth 100000 in
theorem stateOnce_said : Rows.StateOnceSaid :=
  OpenClaim.holds_of_cond 4 Tryz.f4 rfl rfl rfl rfl rfl rfl rfl ⟨rfl, rfl, rfl, rfl, rfl⟩ rfl rfl rfl rfl rfl (by kernel_rfl) Tryz.func4 (by kernel_rfl)
    (of_decide_eq_true (by kernel_rfl)) (by unfold Func.isWrapper; first | (rw [if_pos (by decide +kernel)]; kernel_rfl) | (rw [if_neg (by decide +kernel)]; exact ⟨rfl, rfl⟩))
    (fun os started H enc _ F => by rw [OpenClaim.pre_eq_preRow]; exact stateOnce_lifted os started H enc F)

set_option maxRecDepth 100000 in
theorem stateOnce_plain (f : FuncId) (fn : Func) (hf : Tryz.pinned.checked.prog.funcNamed "wapentake/wapentakelaw10.StateOnce" = some f) (hfn : Tryz.pinned.checked.prog.funcs[f]? = some fn) :
    false = Tryz.pinned.checked.prog.looks [] ∧ ∀ (j : Nat) t, fn.params[j]? = some t → Tryz.pinned.checked.prog.wantsStandIn t = false := by
  obtain rfl : f = 4 := Option.some.inj ((show Tryz.prog.funcNamed "wapentake/wapentakelaw10.StateOnce" = some 4 by kernel_rfl).symm.trans hf) |>.symm
  obtain rfl : fn = Tryz.f4 := (Option.some.inj (Tryz.func4.symm.trans hfn)).symm
  refine ⟨by kernel_rfl, fun j t ht => ?_⟩
  rw [Tryz.params4] at ht
  have hm := Array.mem_of_getElem? ht
  simp only [List.mem_toArray, List.mem_cons, List.not_mem_nil, or_false] at hm
  rcases hm with rfl | rfl | rfl | rfl
  · exact (show Tryz.prog.wantsStandIn 28 = false by kernel_rfl)
  · exact (show Tryz.prog.wantsStandIn 56 = false by kernel_rfl)
  · exact (show Tryz.prog.wantsStandIn 57 = false by kernel_rfl)
  · exact (show Tryz.prog.wantsStandIn 56 = false by kernel_rfl)

set_option maxRecDepth 100000 in
theorem stateOnce_holds : Rows.StateOnceCardSaid :=
  Claim7.holds_tied_plain_at .later [] _ _ _ _ stateOnce_said (fun _ h => by cases h) (by kernel_rfl) (fun _ h => by cases h) stateOnce_row_tie rfl ⟨rfl, rfl⟩ (by kernel_rfl) rfl stateOnce_plain (by kernel_rfl)
#print axioms stateOnce_holds
end Go.Proofs.YtbgbidgggjkmmaaGreatDoor
