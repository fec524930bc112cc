/-
  KeysKeep: for every input the law returns true, and its arguments read afterwards as they read before. No condition; the card ties the table of roots to the program's text.
-/
import Derived.Test.YtkmmhkoommbkpaaDoorKRowKit
import Derived.Test.YtkmmhkoommbkpaaDoorKKeeps
namespace Go.Proofs.YtkmmhkoommbkpaaDoor
open Go.ChangeShapes Go.WideShapes Go.ChangeAt Go.RowKit Go.Deep

abbrev keysKeepArgs : Array Value := #[.agg (List.replicate 32 (Value.int .u8 0)).toArray, .agg (List.replicate 32 (Value.int .u8 0)).toArray, .agg #[.int .i64 0, .slice none 0 0, .slice none 0 0, .slice none 0 0]]
theorem keysKeep_met (os : Os) : laidMet Tryd.prog Rows.keysKeepRow.laid ((laidWorld os keysKeepArgs).forCall (fun _ _ => 0) ⟨#[], keysKeepArgs, []⟩).memory :=
  laidMet_of_run' 8 (by kernel_rfl) (by kernel_rfl)
theorem keysKeep_reads (os : Os) {H : Type} (enc : TypeId × Value → H) : ∃ places, DataW.whole enc Tryd.prog ((laidWorld os keysKeepArgs).forCall (fun _ _ => 0) ⟨#[], keysKeepArgs, []⟩).memory Tryd.f6.params.toList Rows.keysKeepSpec.vars false keysKeepArgs.toList 8 = some ([.agg (List.replicate 32 (.lit (.int .u8 0))), .agg (List.replicate 32 (.lit (.int .u8 0))), .agg [.lit (.int .i64 0), .agg [.nil, .nil], .nil]], [], places) :=
  ⟨[], by kernel_rfl⟩
set_option maxRecDepth 100000 in
theorem keysKeep_lifted (os : Os) (started : os.Started) (H : Type) (enc : TypeId × Value → H) (F : Stop.Interp) :
    ReturnsInHanded {} Tryd.checked os 6 .any ((OpenSpec.ofChange Rows.keysKeepSpec).preRow enc Tryd.prog Tryd.f6 Rows.keysKeepRow.domain false Rows.keysKeepRow.laid) (((OpenSpec.ofChange Rows.keysKeepSpec).at F).post enc Tryd.prog Tryd.f6 false true false false) := by
  obtain ⟨places, hx⟩ := keysKeep_reads os enc
  refine returnsInHanded_of_row (C := Tryd.checked) (s := OpenSpec.ofChange Rows.keysKeepSpec) row_own started (by kernel_rfl) Tryd.func6
    (witness_row_at (enc := enc) (C := Tryd.checked) false (laidWorld os keysKeepArgs) keysKeepArgs rfl (by kernel_rfl) (by kernel_rfl) (by kernel_rfl)
      (OpenSpec.preRow_of_cond 8 hx (by kernel_rfl) (fun k hk => by cases hk) (by kernel_rfl) (keysKeep_met os))) ?_
  intro W base args ds gs before hval0 hW _ _ hsz0 hL _ _
  have hval : ∀ (j : Nat) t v, Tryd.f6.params[j]? = some t → args[j]? = some v → Value.okWide Tryd.prog W .any base t v := hval0
  have hR : Roots W := table hL
  have hW' := hW
  obtain ⟨p, q, hA0, hV, rfl, hfz, hnd⟩ := hW
  have hA : DataW.TrodAll enc Tryd.prog W 0 (fun _ => true) true Tryd.f6.params.toList args.toList ds p := hA0
  rw [Tryd.params6] at hA hval
  obtain ⟨v0, v1, v2, d0, d1, d2, p0, p1, p2, rfl, rfl, rfl, h0, h1, h2⟩ := trodAll_three hA
  obtain ⟨rfl, rfl⟩ := trodVars_none hV
  clear hA0 hval0
  simp only [List.append_nil] at hW'
  have h0k := h0
  obtain ⟨g0, rfl⟩ : ∃ cs, v0 = .agg cs := by
    have h := hval 0 23 v0 rfl rfl
    unfold Value.okWide at h
    rw [Tryd.underlying23] at h
    obtain ⟨cs, h, _⟩ := h
    exact ⟨cs, h⟩
  obtain ⟨fuel0, hf0⟩ := h0
  obtain ⟨l0, hl0, hc0⟩ := open_digest hf0
  obtain rfl : g0 = (l0.map bv).toArray := by
    apply Array.ext'
    simpa [Value.cells] using hc0
  have h1k := h1
  obtain ⟨g1, rfl⟩ : ∃ cs, v1 = .agg cs := by
    have h := hval 1 23 v1 rfl rfl
    unfold Value.okWide at h
    rw [Tryd.underlying23] at h
    obtain ⟨cs, h, _⟩ := h
    exact ⟨cs, h⟩
  obtain ⟨fuel1, hf1⟩ := h1
  obtain ⟨l1, hl1, hc1⟩ := open_digest hf1
  obtain rfl : g1 = (l1.map bv).toArray := by
    apply Array.ext'
    simpa [Value.cells] using hc1
  have h2k := h2
  obtain ⟨g2, rfl⟩ : ∃ cs, v2 = .agg cs := by
    have h := hval 2 30 v2 rfl rfl
    unfold Value.okWide at h
    rw [Tryd.underlying30] at h
    obtain ⟨cs, h, _⟩ := h
    exact ⟨cs, h⟩
  obtain ⟨fuel2, hf2⟩ := h2
  obtain ⟨n2, A2, B2, C2, X2, Y2, Z2, a2, b2, c2, hc2, hb2, hD2, hE2, hF2, hL2⟩ := open_sig hf2
  obtain rfl : g2 = sigV n2 A2 X2.length a2 B2 Y2.length b2 C2 Z2.length c2 := by
    apply Array.ext'
    simpa [Value.cells] using hc2
  have hlt : ∀ x ∈ p0 ++ p1 ++ p2, x.block < W.heap.size := fun x hx => by simpa using hW'.lt x hx
  refine (kkeeps_walk l0 hl0 l1 hl1 n2 X2 Y2 Z2 A2 B2 C2 a2 b2 c2 _ hD2 hE2 hF2 hR).mono fun e W' ⟨he, hB⟩ => ?_
  subst he
  rw [List.append_assoc] at hW'
  exact ⟨_, rfl, _, _, _, [], p0 ++ (p1 ++ p2), [], hW', trodAll_mk1 (shut_bool Tryd.underlying4 _),
    trodAll_mk3 (Below.trod row_laidOut (by kernel_rfl) (of_decide_eq_true (by kernel_rfl)) h0k hB (fun x hx => hlt x (List.mem_append_left _ (List.mem_append_left _ hx)))) (Below.trod row_laidOut (by kernel_rfl) (of_decide_eq_true (by kernel_rfl)) h1k hB (fun x hx => hlt x (List.mem_append_left _ (List.mem_append_right _ hx)))) (Below.trod row_laidOut (by kernel_rfl) (of_decide_eq_true (by kernel_rfl)) h2k hB (fun x hx => hlt x (List.mem_append_right _ hx))),
    rfl, hB.frame _, fun h => by cases h⟩

theorem keysKeep_said : Rows.KeysKeepSaid :=
  OpenClaim.holds_of_cond 6 Tryd.f6 rfl rfl rfl rfl rfl rfl rfl ⟨rfl, rfl, rfl, rfl, rfl⟩ rfl rfl rfl rfl rfl (by kernel_rfl) Tryd.func6 (by kernel_rfl)
    (of_decide_eq_true (by kernel_rfl)) (by unfold Func.isWrapper; first | (rw [if_pos (by decide +kernel)]; kernel_rfl) | (rw [if_neg (by decide +kernel)]; exact ⟨rfl, rfl⟩))
    (fun os started H enc _ F => by rw [OpenClaim.pre_eq_preRow]; exact keysKeep_lifted os started H enc F)

theorem keysKeep_plain (f : FuncId) (fn : Func) (hf : Tryd.pinned.checked.prog.funcNamed "wapentake/wapentakelaw05.KeysKeep" = some f) (hfn : Tryd.pinned.checked.prog.funcs[f]? = some fn) :
    false = Tryd.pinned.checked.prog.looks [] ∧ ∀ (j : Nat) t, fn.params[j]? = some t → Tryd.pinned.checked.prog.wantsStandIn t = false := by
  obtain rfl : f = 6 := Option.some.inj ((show Tryd.prog.funcNamed "wapentake/wapentakelaw05.KeysKeep" = some 6 by kernel_rfl).symm.trans hf) |>.symm
  obtain rfl : fn = Tryd.f6 := (Option.some.inj (Tryd.func6.symm.trans hfn)).symm
  refine ⟨by kernel_rfl, fun j t ht => ?_⟩
  rw [Tryd.params6] at ht
  have hm := Array.mem_of_getElem? ht
  simp only [List.mem_toArray, List.mem_cons, List.not_mem_nil, or_false] at hm
  rcases hm with rfl | rfl | rfl
  · exact (show Tryd.prog.wantsStandIn 23 = false by kernel_rfl)
  · exact (show Tryd.prog.wantsStandIn 23 = false by kernel_rfl)
  · exact (show Tryd.prog.wantsStandIn 30 = false by kernel_rfl)

theorem keysKeep_holds : Rows.KeysKeepCardSaid :=
  Claim7.holds_tied_plain_at .later [] _ _ _ _ keysKeep_said (fun _ h => by cases h) (by kernel_rfl) (fun _ h => by cases h) keysKeep_row_tie rfl ⟨rfl, rfl⟩ (by kernel_rfl) rfl keysKeep_plain (by kernel_rfl)
#print axioms keysKeep_holds
end Go.Proofs.YtkmmhkoommbkpaaDoor
