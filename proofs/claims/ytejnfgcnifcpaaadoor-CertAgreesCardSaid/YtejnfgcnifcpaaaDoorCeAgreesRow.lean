/-
  CertAgrees: for every input the law returns true, and its arguments read afterwards as they read before. No condition; the card ties the table of roots to the program's text.
-/
import Derived.Test.YtejnfgcnifcpaaaDoorRows
import Derived.Test.YtejnfgcnifcpaaaDoorTyKit
import Derived.Test.YtejnfgcnifcpaaaDoorRX
import Derived.Test.YtejnfgcnifcpaaaDoorCeRowKit
import Derived.Test.YtejnfgcnifcpaaaDoorFive
import Derived.Test.YtejnfgcnifcpaaaDoorCeAgrees
namespace Go.Proofs.YtejnfgcnifcpaaaDoor
open Go.ChangeShapes Go.WideShapes Go.ChangeAt Go.RowKit Go.Deep

abbrev certAgreesArgs : Array Value := #[.agg #[.int .i64 0, .slice none 0 0], .agg ([Value.int .i64 0, .int .i64 0] ++ List.replicate 96 (Value.int .u8 0) ++ [Value.slice none 0 0]).toArray, .agg #[.int .i64 0, .slice none 0 0], .agg ([Value.int .i64 0, .int .i64 0] ++ List.replicate 96 (Value.int .u8 0) ++ [Value.slice none 0 0]).toArray, .agg #[.int .i64 0, .slice none 0 0]]
set_option maxRecDepth 100000 in
theorem certAgrees_met (os : Os) : laidMet Tryd.prog Rows.certAgreesRow.laid ((tyWorld os certAgreesArgs).forCall (fun _ _ => 0) ⟨#[], certAgreesArgs, []⟩).memory :=
  laidMet_of_run' 8 (by kernel_rfl) (by kernel_rfl)
set_option maxRecDepth 100000 in
theorem certAgrees_reads (os : Os) {H : Type} (enc : TypeId × Value → H) : ∃ places, DataW.whole enc Tryd.prog ((tyWorld os certAgreesArgs).forCall (fun _ _ => 0) ⟨#[], certAgreesArgs, []⟩).memory Tryd.f4.params.toList Rows.certAgreesSpec.vars false certAgreesArgs.toList 8 = some ([.agg [.lit (.int .i64 0), .nil], .agg [.lit (.int .i64 0), .lit (.int .i64 0), .agg (List.replicate 32 (.lit (.int .u8 0))), .agg (List.replicate 32 (.lit (.int .u8 0))), .agg (List.replicate 32 (.lit (.int .u8 0))), .nil], .agg [.lit (.int .i64 0), .nil], .agg [.lit (.int .i64 0), .lit (.int .i64 0), .agg (List.replicate 32 (.lit (.int .u8 0))), .agg (List.replicate 32 (.lit (.int .u8 0))), .agg (List.replicate 32 (.lit (.int .u8 0))), .nil], .agg [.lit (.int .i64 0), .nil]], [], places) :=
  ⟨[], by kernel_rfl⟩
set_option maxRecDepth 100000 in
set_option maxHeartbeats 4000000 in
theorem certAgrees_lifted (os : Os) (started : os.Started) (H : Type) (enc : TypeId × Value → H) (F : Stop.Interp) :
    ReturnsInHanded {} Tryd.checked os 4 .any ((OpenSpec.ofChange Rows.certAgreesSpec).preRow enc Tryd.prog Tryd.f4 Rows.certAgreesRow.domain false Rows.certAgreesRow.laid) (((OpenSpec.ofChange Rows.certAgreesSpec).at F).post enc Tryd.prog Tryd.f4 false true false false) := by
  obtain ⟨places, hx⟩ := certAgrees_reads os enc
  refine returnsInHanded_of_row (C := Tryd.checked) (s := OpenSpec.ofChange Rows.certAgreesSpec) row_own9 started (by kernel_rfl) Tryd.func4
    (witness_row_at (enc := enc) (C := Tryd.checked) false (tyWorld os certAgreesArgs) certAgreesArgs rfl (by kernel_rfl) (by kernel_rfl) (by kernel_rfl)
      (OpenSpec.preRow_of_cond 8 hx (by kernel_rfl) (fun k hk => by cases hk) (by kernel_rfl) (certAgrees_met os))) ?_
  intro W base args ds gs before hval0 hW _ _ hsz0 hL _ _
  have hval : ∀ (j : Nat) t v, Tryd.f4.params[j]? = some t → args[j]? = some v → Value.okWide Tryd.prog W .any base t v := hval0
  have hR : Roots W := tyTable hL
  have hW' := hW
  obtain ⟨p, q, hA0, hV, rfl, hfz, hnd⟩ := hW
  have hA : DataW.TrodAll enc Tryd.prog W 0 (fun _ => true) true Tryd.f4.params.toList args.toList ds p := hA0
  have hsz : (DataW.weightsEach Tryd.prog (Tryd.f4.params.toList ++ Rows.certAgreesSpec.plain.varTypes Tryd.prog) (ds ++ gs)).all (· ≤ reachBytes) = true := hsz0
  rw [Tryd.params4] at hA hval hsz
  obtain ⟨v0, v1, v2, v3, v4, d0, d1, d2, d3, d4, p0, p1, p2, p3, p4, rfl, rfl, rfl, h0, h1, h2, h3, h4⟩ := trodAll_five' hA
  obtain ⟨rfl, rfl⟩ := trodVars_none hV
  clear hA0 hval0
  simp only [List.append_nil] at hW'
  have h0k := h0
  obtain ⟨g0, rfl⟩ : ∃ cs, v0 = .agg cs := by
    have h := hval 0 24 v0 rfl rfl
    unfold Value.okWide at h
    rw [Tryd.underlying24] at h
    obtain ⟨cs, h, _⟩ := h
    exact ⟨cs, h⟩
  obtain ⟨fuel0, hf0⟩ := h0
  obtain ⟨ep0, A0, ms0, c0, e0, hn0, hM0⟩ := open_cfg8 hf0
  obtain rfl : g0 = cfgV ep0 A0 ms0.length c0 := by
    apply Array.ext'
    simpa [Value.cells] using e0
  have h1k := h1
  obtain ⟨g1, rfl⟩ : ∃ cs, v1 = .agg cs := by
    have h := hval 1 29 v1 rfl rfl
    unfold Value.okWide at h
    rw [Tryd.underlying29] at h
    obtain ⟨cs, h, _⟩ := h
    exact ⟨cs, h⟩
  obtain ⟨fuel1, hf1⟩ := h1
  obtain ⟨x1, e1, hI1⟩ := open_blk12 (b := 140737488351232) (fun u hu => of_decide_eq_true (List.all_eq_true.1 hsz _ (DataW.weights_mem_each (j := 1) (t := 29) rfl rfl _ hu))) hf1
  obtain rfl : g1 = x1.cells.toArray := by
    apply Array.ext'
    simpa [Value.cells] using e1
  have h2k := h2
  obtain ⟨g2, rfl⟩ : ∃ cs, v2 = .agg cs := by
    have h := hval 2 32 v2 rfl rfl
    unfold Value.okWide at h
    rw [Tryd.underlying32] at h
    obtain ⟨cs, h, _⟩ := h
    exact ⟨cs, h⟩
  obtain ⟨fuel2, hf2⟩ := h2
  obtain ⟨r2, A2, vs2, c2, e2, hI2⟩ := open_cert14 (b := 140737488351232) (fun u hu => of_decide_eq_true (List.all_eq_true.1 hsz _ (DataW.weights_mem_each (j := 2) (t := 32) rfl rfl _ hu))) hf2
  obtain rfl : g2 = crtV r2 A2 vs2.length c2 := by
    apply Array.ext'
    simpa [Value.cells] using e2
  have h3k := h3
  obtain ⟨g3, rfl⟩ : ∃ cs, v3 = .agg cs := by
    have h := hval 3 29 v3 rfl rfl
    unfold Value.okWide at h
    rw [Tryd.underlying29] at h
    obtain ⟨cs, h, _⟩ := h
    exact ⟨cs, h⟩
  obtain ⟨fuel3, hf3⟩ := h3
  obtain ⟨x3, e3, hI3⟩ := open_blk12 (b := 140737488351232) (fun u hu => of_decide_eq_true (List.all_eq_true.1 hsz _ (DataW.weights_mem_each (j := 3) (t := 29) rfl rfl _ hu))) hf3
  obtain rfl : g3 = x3.cells.toArray := by
    apply Array.ext'
    simpa [Value.cells] using e3
  have h4k := h4
  obtain ⟨g4, rfl⟩ : ∃ cs, v4 = .agg cs := by
    have h := hval 4 32 v4 rfl rfl
    unfold Value.okWide at h
    rw [Tryd.underlying32] at h
    obtain ⟨cs, h, _⟩ := h
    exact ⟨cs, h⟩
  obtain ⟨fuel4, hf4⟩ := h4
  obtain ⟨r4, A4, vs4, c4, e4, hI4⟩ := open_cert14 (b := 140737488351232) (fun u hu => of_decide_eq_true (List.all_eq_true.1 hsz _ (DataW.weights_mem_each (j := 4) (t := 32) rfl rfl _ hu))) hf4
  obtain rfl : g4 = crtV r4 A4 vs4.length c4 := by
    apply Array.ext'
    simpa [Value.cells] using e4
  have hlt : ∀ x ∈ p0 ++ (p1 ++ (p2 ++ (p3 ++ p4))), x.block < W.heap.size := fun x hx => by simpa using hW'.lt x hx
  refine (agrees_walk14 ms0 ep0 A0 c0 x1 x3 hI1.len hI1.txt hI3.len hI3.txt r2 r4 vs2 vs4 A2 A4 c2 c4 W hM0 hI1.see hI3.see hI2.see hI4.see hI2.sg hI4.sg hR).mono fun e W' ⟨he, hB⟩ => ?_
  subst he
  exact ⟨_, rfl, _, _, _, [], p0 ++ (p1 ++ (p2 ++ (p3 ++ p4))), [], hW', trodAll_mk1 (shut_bool Tryd.underlying4 _),
    trodAll_mk5' (Below.trod row_laidOut9 (by kernel_rfl) (of_decide_eq_true (by kernel_rfl)) h0k hB (fun x hx => hlt x (List.mem_append_left _ hx))) (Below.trod row_laidOut9 (by kernel_rfl) (of_decide_eq_true (by kernel_rfl)) h1k hB (fun x hx => hlt x (List.mem_append_right _ (List.mem_append_left _ hx)))) (Below.trod row_laidOut9 (by kernel_rfl) (of_decide_eq_true (by kernel_rfl)) h2k hB (fun x hx => hlt x (List.mem_append_right _ (List.mem_append_right _ (List.mem_append_left _ hx))))) (Below.trod row_laidOut9 (by kernel_rfl) (of_decide_eq_true (by kernel_rfl)) h3k hB (fun x hx => hlt x (List.mem_append_right _ (List.mem_append_right _ (List.mem_append_right _ (List.mem_append_left _ hx)))))) (Below.trod row_laidOut9 (by kernel_rfl) (of_decide_eq_true (by kernel_rfl)) h4k hB (fun x hx => hlt x (List.mem_append_right _ (List.mem_append_right _ (List.mem_append_right _ (List.mem_append_right _ hx)))))),
    rfl, hB.frame _, fun h => by cases h⟩

set_option maxRecDepth 100000 in
theorem certAgrees_said : Rows.CertAgreesSaid :=
  OpenClaim.holds_of_cond 4 Tryd.f4 rfl rfl rfl rfl rfl rfl rfl ⟨rfl, rfl, rfl, rfl, rfl⟩ rfl rfl rfl rfl rfl (by kernel_rfl) Tryd.func4 (by kernel_rfl)
    (of_decide_eq_true (by kernel_rfl)) (by unfold Func.isWrapper; first | (rw [if_pos (by decide +kernel)]; kernel_rfl) | (rw [if_neg (by decide +kernel)]; exact ⟨rfl, rfl⟩))
    (fun os started H enc _ F => by rw [OpenClaim.pre_eq_preRow]; exact certAgrees_lifted os started H enc F)

set_option maxRecDepth 100000 in
theorem certAgrees_plain (f : FuncId) (fn : Func) (hf : Tryd.pinned.checked.prog.funcNamed "wapentake/wapentakelaw14.CertAgrees" = some f) (hfn : Tryd.pinned.checked.prog.funcs[f]? = some fn) :
    false = Tryd.pinned.checked.prog.looks [] ∧ ∀ (j : Nat) t, fn.params[j]? = some t → Tryd.pinned.checked.prog.wantsStandIn t = false := by
  obtain rfl : f = 4 := Option.some.inj ((show Tryd.prog.funcNamed "wapentake/wapentakelaw14.CertAgrees" = some 4 by kernel_rfl).symm.trans hf) |>.symm
  obtain rfl : fn = Tryd.f4 := (Option.some.inj (Tryd.func4.symm.trans hfn)).symm
  refine ⟨by kernel_rfl, fun j t ht => ?_⟩
  rw [Tryd.params4] at ht
  have hm := Array.mem_of_getElem? ht
  simp only [List.mem_toArray, List.mem_cons, List.not_mem_nil, or_false] at hm
  rcases hm with rfl | rfl | rfl | rfl | rfl
  · exact (show Tryd.prog.wantsStandIn 24 = false by kernel_rfl)
  · exact (show Tryd.prog.wantsStandIn 29 = false by kernel_rfl)
  · exact (show Tryd.prog.wantsStandIn 32 = false by kernel_rfl)
  · exact (show Tryd.prog.wantsStandIn 29 = false by kernel_rfl)
  · exact (show Tryd.prog.wantsStandIn 32 = false by kernel_rfl)

set_option maxRecDepth 100000 in
theorem certAgrees_holds : Rows.CertAgreesCardSaid :=
  Claim7.holds_tied_plain_at .later [] _ _ _ _ certAgrees_said (fun _ h => by cases h) (by kernel_rfl) (fun _ h => by cases h) certAgrees_row_tie rfl ⟨rfl, rfl⟩ (by kernel_rfl) rfl certAgrees_plain (by kernel_rfl)
#print axioms certAgrees_holds
end Go.Proofs.YtejnfgcnifcpaaaDoor
