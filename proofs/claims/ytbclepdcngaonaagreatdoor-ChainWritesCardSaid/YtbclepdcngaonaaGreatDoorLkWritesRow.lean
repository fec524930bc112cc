/-
  ChainWrites: for every input the law returns true, and its arguments read afterwards as they read before. No condition; the card ties the table of roots to the program's text.
-/
import Derived.Test.YtbclepdcngaonaaGreatDoorRows
import Derived.Test.YtbclepdcngaonaaGreatDoorTyKit
import Derived.Test.YtbclepdcngaonaaGreatDoorRX
import Derived.Test.YtbclepdcngaonaaGreatDoorRY
import Derived.Test.YtbclepdcngaonaaGreatDoorLkWrites
namespace Go.Proofs.YtbclepdcngaonaaGreatDoor
open Go.ChangeShapes Go.WideShapes Go.ChangeAt Go.RowKit Go.Deep

abbrev chainWritesArgs : Array Value := #[.agg #[.int .i64 0, .slice none 0 0], .agg ([Value.int .i64 0, .int .i64 0] ++ List.replicate 96 (Value.int .u8 0) ++ [Value.slice none 0 0, .int .i64 0, .slice none 0 0, .int .i64 0, .slice none 0 0]).toArray, .slice none 0 0]
set_option maxRecDepth 100000 in
theorem chainWrites_met (os : Os) : laidMet Tryz.prog Rows.chainWritesRow.laid ((tyWorld os chainWritesArgs).forCall (fun _ _ => 0) ⟨#[], chainWritesArgs, []⟩).memory :=
  laidMet_of_run' 8 (by kernel_rfl) (by kernel_rfl)
set_option maxRecDepth 100000 in
theorem chainWrites_reads (os : Os) {H : Type} (enc : TypeId × Value → H) : ∃ places, DataW.whole enc Tryz.prog ((tyWorld os chainWritesArgs).forCall (fun _ _ => 0) ⟨#[], chainWritesArgs, []⟩).memory Tryz.f4.params.toList Rows.chainWritesSpec.vars false chainWritesArgs.toList 8 = some ([.agg [.lit (.int .i64 0), .nil], .agg [.agg [.lit (.int .i64 0), .lit (.int .i64 0), .agg (List.replicate 32 (.lit (.int .u8 0))), .agg (List.replicate 32 (.lit (.int .u8 0))), .agg (List.replicate 32 (.lit (.int .u8 0))), .nil], .agg [.lit (.int .i64 0), .nil], .agg [.lit (.int .i64 0), .nil]], .nil], [], places) :=
  ⟨[], by kernel_rfl⟩
set_option maxRecDepth 100000 in
set_option maxHeartbeats 4000000 in
theorem chainWrites_lifted (os : Os) (started : os.Started) (H : Type) (enc : TypeId × Value → H) (F : Stop.Interp) :
    ReturnsInHanded {} Tryz.checked os 4 .any ((OpenSpec.ofChange Rows.chainWritesSpec).preRow enc Tryz.prog Tryz.f4 Rows.chainWritesRow.domain false Rows.chainWritesRow.laid) (((OpenSpec.ofChange Rows.chainWritesSpec).at F).post enc Tryz.prog Tryz.f4 false true false false) := by
  obtain ⟨places, hx⟩ := chainWrites_reads os enc
  refine returnsInHanded_of_row (C := Tryz.checked) (s := OpenSpec.ofChange Rows.chainWritesSpec) row_own9 started (by kernel_rfl) Tryz.func4
    (witness_row_at (enc := enc) (C := Tryz.checked) false (tyWorld os chainWritesArgs) chainWritesArgs rfl (by kernel_rfl) (by kernel_rfl) (by kernel_rfl)
      (OpenSpec.preRow_of_cond 8 hx (by kernel_rfl) (fun k hk => by cases hk) (by kernel_rfl) (chainWrites_met os))) ?_
  intro W base args ds gs before hval0 hW _ _ hsz0 hL _ _
  have hval : ∀ (j : Nat) t v, Tryz.f4.params[j]? = some t → args[j]? = some v → Value.okWide Tryz.prog W .any base t v := hval0
  have hR : Roots W := tyTable hL
  have hW' := hW
  obtain ⟨p, q, hA0, hV, rfl, hfz, hnd⟩ := hW
  have hA : DataW.TrodAll enc Tryz.prog W 0 (fun _ => true) true Tryz.f4.params.toList args.toList ds p := hA0
  have hsz : (DataW.weightsEach Tryz.prog (Tryz.f4.params.toList ++ Rows.chainWritesSpec.plain.varTypes Tryz.prog) (ds ++ gs)).all (· ≤ reachBytes) = true := hsz0
  rw [Tryz.params4] at hA hval hsz
  obtain ⟨v0, v1, v2, d0, d1, d2, p0, p1, p2, rfl, rfl, rfl, h0, h1, h2⟩ := trodAll_three hA
  obtain ⟨rfl, rfl⟩ := trodVars_none hV
  clear hA0 hval0
  simp only [List.append_nil] at hW'
  have h0k := h0
  obtain ⟨g0, rfl⟩ : ∃ cs, v0 = .agg cs := by
    have h := hval 0 24 v0 rfl rfl
    unfold Value.okWide at h
    rw [Tryz.underlying24] at h
    obtain ⟨cs, h, _⟩ := h
    exact ⟨cs, h⟩
  obtain ⟨fuel0, hf0⟩ := h0
  obtain ⟨ep0, A0, ms0, c0, e0, hn0, hM0⟩ := open_cfg8 hf0
  obtain rfl : g0 = cfgV ep0 A0 ms0.length c0 := by
    apply Array.ext'
    simpa [Value.cells] using e0
  have h1k := h1
  obtain ⟨g1, rfl⟩ : ∃ cs, v1 = .agg cs := by
    have h := hval 1 37 v1 rfl rfl
    unfold Value.okWide at h
    rw [Tryz.underlying37] at h
    obtain ⟨cs, h, _⟩ := h
    exact ⟨cs, h⟩
  obtain ⟨fuel1, hf1⟩ := h1
  obtain ⟨x1, e1, hI1⟩ := open_link15 (b := 140737488351232) (fun u hu => of_decide_eq_true (List.all_eq_true.1 hsz _ (DataW.weights_mem_each (j := 1) (t := 37) rfl rfl _ hu))) hf1
  obtain rfl : g1 = x1.cells.toArray := by
    apply Array.ext'
    simpa [Value.cells] using e1
  have h2k := h2
  obtain ⟨a2, m2, y2, rfl⟩ := okWide_slice Tryz.underlying45 (hval 2 45 v2 rfl rfl)
  obtain ⟨fuel2, hf2⟩ := h2
  obtain ⟨A2, l2, z2, e2, hl2, hm2, hs2⟩ := open_bytes9 hf2
  simp only [Value.cells, List.cons.injEq, and_true, Value.slice.injEq] at e2
  obtain ⟨rfl, rfl, rfl⟩ := e2
  have hlt : ∀ x ∈ p0 ++ p1 ++ p2, x.block < W.heap.size := fun x hx => by simpa using hW'.lt x hx
  refine (writes_walk15 ms0 ep0 A0 c0 x1 ⟨hI1.blk.len, hI1.blk.txt⟩ ⟨hI1.blk.epoch, hI1.blk.height, hI1.blk.num, fun m hm => ⟨⟨(hI1.crt.votes m hm).kind, (hI1.crt.votes m hm).epoch, (hI1.crt.votes m hm).height, (hI1.crt.votes m hm).round, (hI1.crt.votes m hm).frm⟩, (hI1.crt.votes m hm).leaf⟩, hI1.ep, hI1.mem⟩ hI1.crt.round l2 a2 y2 W hM0 hI1.lk hs2 hR).mono fun e W' ⟨he, hB⟩ => ?_
  subst he
  rw [List.append_assoc] at hW'
  exact ⟨_, rfl, _, _, _, [], p0 ++ (p1 ++ p2), [], hW', trodAll_mk1 (shut_bool Tryz.underlying4 _),
    trodAll_mk3 (Below.trod row_laidOut9 (by kernel_rfl) (of_decide_eq_true (by kernel_rfl)) h0k hB (fun x hx => hlt x (List.mem_append_left _ (List.mem_append_left _ hx)))) (Below.trod row_laidOut9 (by kernel_rfl) (of_decide_eq_true (by kernel_rfl)) h1k hB (fun x hx => hlt x (List.mem_append_left _ (List.mem_append_right _ hx)))) (Below.trod row_laidOut9 (by kernel_rfl) (of_decide_eq_true (by kernel_rfl)) h2k hB (fun x hx => hlt x (List.mem_append_right _ hx))),
    rfl, hB.frame _, fun h => by cases h⟩

set_option maxRecDepth 100000 in
theorem chainWrites_said : Rows.ChainWritesSaid :=
  OpenClaim.holds_of_cond 4 Tryz.f4 rfl rfl rfl rfl rfl rfl rfl ⟨rfl, rfl, rfl, rfl, rfl⟩ rfl rfl rfl rfl rfl (by kernel_rfl) Tryz.func4 (by kernel_rfl)
    (of_decide_eq_true (by kernel_rfl)) (by unfold Func.isWrapper; first | (rw [if_pos (by decide +kernel)]; kernel_rfl) | (rw [if_neg (by decide +kernel)]; exact ⟨rfl, rfl⟩))
    (fun os started H enc _ F => by rw [OpenClaim.pre_eq_preRow]; exact chainWrites_lifted os started H enc F)

set_option maxRecDepth 100000 in
theorem chainWrites_plain (f : FuncId) (fn : Func) (hf : Tryz.pinned.checked.prog.funcNamed "wapentake/wapentakelaw15.ChainWrites" = some f) (hfn : Tryz.pinned.checked.prog.funcs[f]? = some fn) :
    false = Tryz.pinned.checked.prog.looks [] ∧ ∀ (j : Nat) t, fn.params[j]? = some t → Tryz.pinned.checked.prog.wantsStandIn t = false := by
  obtain rfl : f = 4 := Option.some.inj ((show Tryz.prog.funcNamed "wapentake/wapentakelaw15.ChainWrites" = some 4 by kernel_rfl).symm.trans hf) |>.symm
  obtain rfl : fn = Tryz.f4 := (Option.some.inj (Tryz.func4.symm.trans hfn)).symm
  refine ⟨by kernel_rfl, fun j t ht => ?_⟩
  rw [Tryz.params4] at ht
  have hm := Array.mem_of_getElem? ht
  simp only [List.mem_toArray, List.mem_cons, List.not_mem_nil, or_false] at hm
  rcases hm with rfl | rfl | rfl
  · exact (show Tryz.prog.wantsStandIn 24 = false by kernel_rfl)
  · exact (show Tryz.prog.wantsStandIn 37 = false by kernel_rfl)
  · exact (show Tryz.prog.wantsStandIn 45 = false by kernel_rfl)

set_option maxRecDepth 100000 in
theorem chainWrites_holds : Rows.ChainWritesCardSaid :=
  Claim7.holds_tied_plain_at .later [] _ _ _ _ chainWrites_said (fun _ h => by cases h) (by kernel_rfl) (fun _ h => by cases h) chainWrites_row_tie rfl ⟨rfl, rfl⟩ (by kernel_rfl) rfl chainWrites_plain (by kernel_rfl)
#print axioms chainWrites_holds
end Go.Proofs.YtbclepdcngaonaaGreatDoor
