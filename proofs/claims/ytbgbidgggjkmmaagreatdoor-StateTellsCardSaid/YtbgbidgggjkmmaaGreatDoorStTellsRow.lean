/-
  StateTells: for every input the law returns true, and its arguments read afterwards as they read before. No condition; the card ties the table of roots to the program's text.
-/
import Derived.Test.YtbgbidgggjkmmaaGreatDoorRows
import Derived.Test.YtbgbidgggjkmmaaGreatDoorStTyKit
import Derived.Test.YtbgbidgggjkmmaaGreatDoorRqRowKit
import Derived.Test.YtbgbidgggjkmmaaGreatDoorStRowKit
import Derived.Test.YtbgbidgggjkmmaaGreatDoorStTells
namespace Go.Proofs.YtbgbidgggjkmmaaGreatDoor
open Go.ChangeShapes Go.WideShapes Go.ChangeAt Go.RowKit Go.Deep

abbrev stateTellsArgs : Array Value := #[.agg #[.slice none 0 0, .slice none 0 0, .int .i64 0, .slice none 0 0], .string ⟨#[]⟩, .int .i64 0]
set_option maxRecDepth 100000 in
theorem stateTells_met (os : Os) : laidMet Tryz.prog Rows.stateTellsRow.laid ((stWorld os stateTellsArgs).forCall (fun _ _ => 0) ⟨#[], stateTellsArgs, []⟩).memory :=
  laidMet_of_run' 8 (by kernel_rfl) (by kernel_rfl)
set_option maxRecDepth 100000 in
theorem stateTells_reads (os : Os) {H : Type} (enc : TypeId × Value → H) : ∃ places, DataW.whole enc Tryz.prog ((stWorld os stateTellsArgs).forCall (fun _ _ => 0) ⟨#[], stateTellsArgs, []⟩).memory Tryz.f3.params.toList Rows.stateTellsSpec.vars false stateTellsArgs.toList 8 = some ([.agg [.nil, .nil, .agg [.lit (.int .i64 0), .nil]], .lit (.string []), .lit (.int .i64 0)], [], places) :=
  ⟨[], by kernel_rfl⟩
set_option maxRecDepth 100000 in
set_option maxHeartbeats 4000000 in
theorem stateTells_lifted (os : Os) (started : os.Started) (H : Type) (enc : TypeId × Value → H) (F : Stop.Interp) :
    ReturnsInHanded {} Tryz.checked os 3 .any ((OpenSpec.ofChange Rows.stateTellsSpec).preRow enc Tryz.prog Tryz.f3 Rows.stateTellsRow.domain false Rows.stateTellsRow.laid) (((OpenSpec.ofChange Rows.stateTellsSpec).at F).post enc Tryz.prog Tryz.f3 false true false false) := by
  obtain ⟨places, hx⟩ := stateTells_reads os enc
  refine returnsInHanded_of_row (C := Tryz.checked) (s := OpenSpec.ofChange Rows.stateTellsSpec) row_own9 started (by kernel_rfl) Tryz.func3
    (witness_row_at (enc := enc) (C := Tryz.checked) false (stWorld os stateTellsArgs) stateTellsArgs rfl (by kernel_rfl) (by kernel_rfl) (by kernel_rfl)
      (OpenSpec.preRow_of_cond 8 hx (by kernel_rfl) (fun k hk => by cases hk) (by kernel_rfl) (stateTells_met os))) ?_
  intro W base args ds gs before hval0 hW _ _ hsz0 hL _ _
  have hval : ∀ (j : Nat) t v, Tryz.f3.params[j]? = some t → args[j]? = some v → Value.okWide Tryz.prog W .any base t v := hval0
  have hW' := hW
  obtain ⟨p, q, hA0, hV, rfl, hfz, hnd⟩ := hW
  have hA : DataW.TrodAll enc Tryz.prog W 0 (fun _ => true) true Tryz.f3.params.toList args.toList ds p := hA0
  have hsz : (DataW.weightsEach Tryz.prog (Tryz.f3.params.toList ++ Rows.stateTellsSpec.plain.varTypes Tryz.prog) (ds ++ gs)).all (· ≤ reachBytes) = true := hsz0
  rw [Tryz.params3] at hA hval hsz
  obtain ⟨v0, v1, v2, d0, d1, d2, p0, p1, p2, rfl, rfl, rfl, h0, h1, h2⟩ := trodAll_three hA
  obtain ⟨rfl, rfl⟩ := trodVars_none hV
  clear hA0 hval0
  simp only [List.append_nil] at hW'
  have h0k := h0
  obtain ⟨g0, rfl⟩ : ∃ cs, v0 = .agg cs := by
    have h := hval 0 28 v0 rfl rfl
    unfold Value.okWide at h
    rw [Tryz.underlying28] at h
    obtain ⟨cs, h, _⟩ := h
    exact ⟨cs, h⟩
  obtain ⟨fuel0, hf0⟩ := h0
  obtain ⟨x0, e0, hz0, hr0, hp0, hs0⟩ := open_state10 (b := 140737488351232) (Nat.le_refl _) (fun u hu => of_decide_eq_true (List.all_eq_true.1 hsz _ (DataW.weights_mem_each (j := 0) (t := 28) rfl rfl _ hu))) hf0
  obtain rfl : g0 = x0.cells := by
    apply Array.ext'
    simpa [Value.cells] using e0
  have h1k := h1
  obtain ⟨s1, rfl⟩ : ∃ s, v1 = .string s := okWide_string Tryz.underlying9 (hval 1 9 v1 rfl rfl)
  obtain ⟨fuel1, hf1⟩ := h1
  obtain ⟨t1, e1, hz1⟩ := open_str10 (b := 140737488351232) (fun u hu => of_decide_eq_true (List.all_eq_true.1 hsz _ (DataW.weights_mem_each (j := 1) (t := 9) rfl rfl _ hu))) hf1
  simp only [Value.cells, List.cons.injEq, and_true, Value.string.injEq] at e1
  subst e1
  have h2k := h2
  obtain ⟨n2, rfl⟩ := okWide_int Tryz.underlying3 (hval 2 3 v2 rfl rfl)
  obtain ⟨fuel2, hf2⟩ := h2
  obtain ⟨m2', hc2, _, hw2⟩ := DataW.trod_int Tryz.underlying3 hf2
  simp only [Value.cells, List.cons.injEq, and_true, Value.int.injEq, true_and] at hc2
  subst hc2
  have hb2 := i64_wf9 hw2
  have hlt : ∀ x ∈ p0 ++ p1 ++ p2, x.block < W.heap.size := fun x hx => by simpa using hW'.lt x hx
  refine (tells_walk x0 s1 n2 W hz0 hs0).mono fun e W' ⟨he, hB⟩ => ?_
  subst he
  rw [List.append_assoc] at hW'
  exact ⟨_, rfl, _, _, _, [], p0 ++ (p1 ++ p2), [], hW', trodAll_mk1 (shut_bool Tryz.underlying4 _),
    trodAll_mk3 (Below.trod row_laidOut9 (by kernel_rfl) (of_decide_eq_true (by kernel_rfl)) h0k hB (fun x hx => hlt x (List.mem_append_left _ (List.mem_append_left _ hx)))) (Below.trod row_laidOut9 (by kernel_rfl) (of_decide_eq_true (by kernel_rfl)) h1k hB (fun x hx => hlt x (List.mem_append_left _ (List.mem_append_right _ hx)))) (Below.trod row_laidOut9 (by kernel_rfl) (of_decide_eq_true (by kernel_rfl)) h2k hB (fun x hx => hlt x (List.mem_append_right _ hx))),
    rfl, hB.frame _, fun h => by cases h⟩

set_option maxRecDepth 100000 in
theorem stateTells_said : Rows.StateTellsSaid :=
  OpenClaim.holds_of_cond 3 Tryz.f3 rfl rfl rfl rfl rfl rfl rfl ⟨rfl, rfl, rfl, rfl, rfl⟩ rfl rfl rfl rfl rfl (by kernel_rfl) Tryz.func3 (by kernel_rfl)
    (of_decide_eq_true (by kernel_rfl)) (by unfold Func.isWrapper; first | (rw [if_pos (by decide +kernel)]; kernel_rfl) | (rw [if_neg (by decide +kernel)]; exact ⟨rfl, rfl⟩))
    (fun os started H enc _ F => by rw [OpenClaim.pre_eq_preRow]; exact stateTells_lifted os started H enc F)

set_option maxRecDepth 100000 in
theorem stateTells_plain (f : FuncId) (fn : Func) (hf : Tryz.pinned.checked.prog.funcNamed "wapentake/wapentakelaw10.StateTells" = some f) (hfn : Tryz.pinned.checked.prog.funcs[f]? = some fn) :
    false = Tryz.pinned.checked.prog.looks [] ∧ ∀ (j : Nat) t, fn.params[j]? = some t → Tryz.pinned.checked.prog.wantsStandIn t = false := by
  obtain rfl : f = 3 := Option.some.inj ((show Tryz.prog.funcNamed "wapentake/wapentakelaw10.StateTells" = some 3 by kernel_rfl).symm.trans hf) |>.symm
  obtain rfl : fn = Tryz.f3 := (Option.some.inj (Tryz.func3.symm.trans hfn)).symm
  refine ⟨by kernel_rfl, fun j t ht => ?_⟩
  rw [Tryz.params3] at ht
  have hm := Array.mem_of_getElem? ht
  simp only [List.mem_toArray, List.mem_cons, List.not_mem_nil, or_false] at hm
  rcases hm with rfl | rfl | rfl
  · exact (show Tryz.prog.wantsStandIn 28 = false by kernel_rfl)
  · exact (show Tryz.prog.wantsStandIn 9 = false by kernel_rfl)
  · exact (show Tryz.prog.wantsStandIn 3 = false by kernel_rfl)

set_option maxRecDepth 100000 in
theorem stateTells_holds : Rows.StateTellsCardSaid :=
  Claim7.holds_tied_plain_at .later [] _ _ _ _ stateTells_said (fun _ h => by cases h) (by kernel_rfl) (fun _ h => by cases h) stateTells_row_tie rfl ⟨rfl, rfl⟩ (by kernel_rfl) rfl stateTells_plain (by kernel_rfl)
#print axioms stateTells_holds
end Go.Proofs.YtbgbidgggjkmmaaGreatDoor
