/-
  RequestSames: the walk.
-/
import Derived.Test.YtoamcdbemhbphaaRqTwo
namespace Go.Proofs.Ytoamcdbemhbphaa
open Go.RowKit

attribute [local go_sem ↓] ldRep_def stRep_def bdRep_def

/-! ### Two writers side by side -/
set_option maxRecDepth 100000 in
theorem Wr.other9 {w w' : World} {base a r : Nat} {bs : List UInt8} {cs : Array Value} (h : Wr w base a bs) (hr : Box w r 44 cs) (hne : a ≠ r) (hg : w.grownBy w' (some r)) : Wr w' base a bs := by
  obtain ⟨hb, hs, v, hx, ho⟩ := h
  exact ⟨hb, Nat.le_trans hs hg.size, v, hx.grown hg (fun e => hne (by injection e)), World.ownsRow.kept ho hg (.inr (Box.own_ne hr ho (by decide)))⟩
set_option maxRecDepth 100000 in
theorem WF.grown9 {w w' : World} {a : Nat} (hf : WF a w w') (hx : Box w a 44 #[.slice none 0 0]) : w.grownBy w' (some a) :=
  ⟨hf.os, hf.tape, hf.output, hf.size, fun k hk hne => hf.block k hk (by
    rintro (rfl | ⟨v, hv, ho⟩)
    · exact hne rfl
    · have e := hx.cell 0
      simp only [List.getElem?_toArray, List.getElem?_cons_zero] at e
      rw [e] at hv
      injection hv with hv
      subst hv
      simp [Value.ownBlock] at ho)⟩

set_option maxRecDepth 100000 in
theorem sameB_comm (c n k : Int) (vs : List ByteArray) (c' n' k' : Int) (vs' : List ByteArray) : sameB c' n' k' vs' c n k vs = sameB c n k vs c' n' k' vs' := by
  unfold sameB
  rw [Bool.eq_iff_iff]
  simp only [Bool.and_eq_true, decide_eq_true_eq]
  constructor <;> (rintro ⟨rfl, rfl, rfl, rfl⟩; exact ⟨rfl, rfl, rfl, rfl⟩)
set_option maxRecDepth 100000 in
theorem sameB_self (c n k : Int) (vs : List ByteArray) : sameB c n k vs c n k vs = true := by
  unfold sameB
  simp
set_option maxRecDepth 100000 in
theorem sameB_bytes {c n k c' n' k' : Int} {vs vs' : List ByteArray} (h1 : R64 c) (h2 : R64 n) (h3 : R64 k) (h1' : R64 c') (h2' : R64 n') (h3' : R64 k') (hl : largeB vs = false) (hl' : largeB vs' = false) :
    (repB c n k vs = repB c' n' k' vs') ↔ sameB c n k vs c' n' k' vs' = true := by
  unfold largeB at hl hl'
  simp only [Bool.or_eq_false_iff, decide_eq_false_iff_not] at hl hl'
  have h := rep_one h1 h2 h3 h1' h2' h3' (vs := vs) (vs' := vs') (by omega) (by omega) (fun s hs => by have := tot_mem hs; omega) (fun s hs => by have := tot_mem hs; omega)
  unfold sameB
  simp only [Bool.and_eq_true, decide_eq_true_eq]
  exact h
set_option maxRecDepth 100000 in
theorem large_small {vs : List ByteArray} (c n k : Int) (h : largeB vs = false) : vs.length ≤ 400 ∧ totT vs ≤ 16384 ∧ (repB c n k vs).length ≤ 20000 := by
  unfold largeB at h
  simp only [Bool.or_eq_false_iff, decide_eq_false_iff_not] at h
  have := repB_len c n k vs
  omega

set_option maxRecDepth 100000 in
set_option maxHeartbeats 4000000 in
theorem sames_walk (c n k : Int) (h1 : R64 c) (h2 : R64 n) (h3 : R64 k) (A : Option Addr) (vs : List ByteArray) (z : Nat) (hl : vs.length ≤ maxLen) (hs : ∀ s ∈ vs, s.size ≤ 140737488351232) (c' n' k' : Int) (h1' : R64 c') (h2' : R64 n') (h3' : R64 k') (A' : Option Addr) (vs' : List ByteArray) (z' : Nat) (hl' : vs'.length ≤ maxLen) (hs' : ∀ s ∈ vs', s.size ≤ 140737488351232) (w : World) (hA : Sees w w.heap.size A (vs.map Value.string)) (hB : Sees w w.heap.size A' (vs'.map Value.string)) :
    Calls Try.prog 5 #[.agg (repV c n k A vs.length z), .agg (repV c' n' k' A' vs'.length z')] w fun e w' => e = .returned (.bool true) ∧ Below w.heap.size w w' := by
  obtain ⟨w2, hw2⟩ : ∃ w2, w2 = (w.alloc (.cells (repV c n k A vs.length z) 51)).alloc (.cells (repV c' n' k' A' vs'.length z') 51) := ⟨_, rfl⟩
  have HX : Hid (Box w2 w.heap.size 51 (repV c n k A vs.length z)) := by rw [hw2]; exact (Box.made w _ _).alloc _
  have HY : Hid (Box w2 (w.heap.size + 1) 51 (repV c' n' k' A' vs'.length z')) := by rw [hw2]; exact Box.made_at (by simp) _ _
  have HF : Hid (Below w.heap.size w w2) := by rw [hw2]; exact ((Below.refl _ _).alloc (Nat.le_refl _) _).alloc (by simp) _
  have HAL := Lib.hid (alive_any9 w2)
  have HSA : Hid (∀ w', Below w2.heap.size w2 w' → Sees w' w'.heap.size A (vs.map Value.string)) := Lib.hid (fun w' hb => ((hA.below HF.out).below (hb.mono HF.out.size)).more (Nat.le_trans HF.out.size hb.size))
  have HSB : Hid (∀ w', Below w2.heap.size w2 w' → Sees w' w'.heap.size A' (vs'.map Value.string)) := Lib.hid (fun w' hb => ((hB.below HF.out).below (hb.mono HF.out.size)).more (Nat.le_trans HF.out.size hb.size))
  have HRA : Hid (∀ w' base, w2.heap.size ≤ base → Below w2.heap.size w2 w' → Sees w' base A (vs.map Value.string)) := Lib.hid (fun w' base h hb => ((hA.below HF.out).below (hb.mono HF.out.size)).more (Nat.le_trans HF.out.size h))
  have HRB : Hid (∀ w' base, w2.heap.size ≤ base → Below w2.heap.size w2 w' → Sees w' base A' (vs'.map Value.string)) := Lib.hid (fun w' base h hb => ((hB.below HF.out).below (hb.mono HF.out.size)).more (Nat.le_trans HF.out.size h))
  have HLX : Hid (∀ w', Below w2.heap.size w2 w' → (ldRep (.pointer (some ⟨w.heap.size, 0, none⟩))).run Try.prog w' = .ok (.agg (repV c n k A vs.length z)) w') := Lib.hid (fun w' hb => (HX.out.below hb HX.out.lt).ld_rep)
  have HLY : Hid (∀ w', Below w2.heap.size w2 w' → (ldRep (.pointer (some ⟨w.heap.size + 1, 0, none⟩))).run Try.prog w' = .ok (.agg (repV c' n' k' A' vs'.length z')) w') := Lib.hid (fun w' hb => (HY.out.below hb HY.out.lt).ld_rep)
  have HLA : Hid (∀ w', Below w2.heap.size w2 w' → Calls Try.prog 18 #[.agg (repV c n k A vs.length z)] w' fun e w'' => e = .returned (.bool (largeB vs)) ∧ Below w'.heap.size w' w'') := Lib.hid (fun w' hb => large_any9 c n k A vs z hs w' (HSA.out w' hb))
  have HLB : Hid (∀ w', Below w2.heap.size w2 w' → Calls Try.prog 18 #[.agg (repV c' n' k' A' vs'.length z')] w' fun e w'' => e = .returned (.bool (largeB vs')) ∧ Below w'.heap.size w' w'') := Lib.hid (fun w' hb => large_any9 c' n' k' A' vs' z' hs' w' (HSB.out w' hb))
  have HS1 : Hid (∀ w', Below w2.heap.size w2 w' → Calls Try.prog 21 #[.agg (repV c n k A vs.length z), .agg (repV c' n' k' A' vs'.length z')] w' fun e w'' => e = .returned (.bool (sameB c n k vs c' n' k' vs')) ∧ Below w'.heap.size w' w'') := Lib.hid (fun w' hb => same_any9 c n k A vs z c' n' k' A' vs' z' hl hl' w' (HSA.out w' hb) (HSB.out w' hb))
  have HS2 : Hid (∀ w', Below w2.heap.size w2 w' → Calls Try.prog 21 #[.agg (repV c' n' k' A' vs'.length z'), .agg (repV c n k A vs.length z)] w' fun e w'' => e = .returned (.bool (sameB c n k vs c' n' k' vs')) ∧ Below w'.heap.size w' w'') := Lib.hid (fun w' hb => by rw [← sameB_comm]; exact same_any9 c' n' k' A' vs' z' c n k A vs z hl' hl w' (HSB.out w' hb) (HSA.out w' hb))
  have HS3 : Hid (∀ w', Below w2.heap.size w2 w' → Calls Try.prog 21 #[.agg (repV c' n' k' A' vs'.length z'), .agg (repV c' n' k' A' vs'.length z')] w' fun e w'' => e = .returned (.bool true) ∧ Below w'.heap.size w' w'') := Lib.hid (fun w' hb => by
    have h := same_any9 c' n' k' A' vs' z' c' n' k' A' vs' z' hl' hl' w' (HSB.out w' hb) (HSB.out w' hb)
    rw [sameB_self] at h
    exact h)
  have HEQ : Hid (largeB vs = false → largeB vs' = false → ((repB c n k vs = repB c' n' k' vs') ↔ sameB c n k vs c' n' k' vs' = true)) := Lib.hid (sameB_bytes h1 h2 h3 h1' h2' h3')
  have HGA : Hid (largeB vs = false → vs.length ≤ 400 ∧ totT vs ≤ 16384 ∧ (repB c n k vs).length ≤ 20000) := Lib.hid (large_small c n k)
  have HGB : Hid (largeB vs' = false → vs'.length ≤ 400 ∧ totT vs' ≤ 16384 ∧ (repB c' n' k' vs').length ≤ 20000) := Lib.hid (large_small c' n' k')
  generalize hsm : sameB c n k vs c' n' k' vs' = sm at *
  clear hsm hA hB hl hl' hs hs' h1 h2 h3 h1' h2' h3' HSA HSB
  go_enter Try.func5, Try.ntmps5
  go_upto_region 1 with fail
  change Code.wp _ _ _ _ ((w.alloc (.cells (repV c n k A vs.length z) 51)).alloc (.cells (repV c' n' k' A' vs'.length z') 51))
  rw [← hw2]
  have HW0 : Hid (Below w.heap.size w w2) := HF.out
  clear hw2
  obtain ⟨lg, hlg⟩ : ∃ lg, largeB vs = lg := ⟨_, rfl⟩
  obtain ⟨lh, hlh⟩ : ∃ lh, largeB vs' = lh := ⟨_, rfl⟩
  rw [hlg] at HLA HEQ HGA
  rw [hlh] at HLB HEQ HGB
  clear hlg hlh
  rcases lg with _ | _
  case true =>
    go_wp2_with (first
      | (go_at_call 6; (with_reducible refine (HAL.out).mono ?_); rintro e w3 ⟨rfl, hb⟩; have HB3 := Lib.hid hb; have l3 := HLX.out w3 hb; clear hb)
      | (go_at_call 18; (with_reducible refine (HLA.out _ HB3.out).mono ?_); rintro e w4 ⟨rfl, hb⟩; have HB4 := Lib.hid (HB3.out.trans (hb.mono HB3.out.size)); have l4 := HLY.out w4 HB4.out; clear hb))
    go_ret
    exact ⟨rfl, HF.out.trans (HB4.out.mono HF.out.size)⟩
  rcases lh with _ | _
  case true =>
    go_wp2_with (first
      | (go_at_call 6; (with_reducible refine (HAL.out).mono ?_); rintro e w3 ⟨rfl, hb⟩; have HB3 := Lib.hid hb; have l3 := HLX.out w3 hb; clear hb)
      | (go_at_call 18; (with_reducible refine (HLA.out _ HB3.out).mono ?_); rintro e w4 ⟨rfl, hb⟩; have HB4 := Lib.hid (HB3.out.trans (hb.mono HB3.out.size)); have l4 := HLY.out w4 HB4.out; clear hb)
      | (go_at_call 18; (with_reducible refine (HLB.out _ HB4.out).mono ?_); rintro e w5 ⟨rfl, hb⟩; have HB5 := Lib.hid (HB4.out.trans (hb.mono HB4.out.size)); clear hb))
    go_ret
    exact ⟨rfl, HF.out.trans (HB5.out.mono HF.out.size)⟩
  have HE := Lib.hid (HEQ.out rfl rfl)
  have HG1 := Lib.hid (HGA.out rfl)
  have HG2 := Lib.hid (HGB.out rfl)
  clear HEQ HGA HGB
  go_upto_region 5 with (first
    | (go_at_call 6; (with_reducible refine (HAL.out).mono ?_); rintro e w3 ⟨rfl, hb⟩; have HB3 := Lib.hid hb; have l3 := HLX.out w3 hb; clear hb)
    | (go_at_call 18; (with_reducible refine (HLA.out _ HB3.out).mono ?_); rintro e w4 ⟨rfl, hb⟩; have HB4 := Lib.hid (HB3.out.trans (hb.mono HB3.out.size)); have l4 := HLY.out w4 HB4.out; clear hb)
    | (go_at_call 18; (with_reducible refine (HLB.out _ HB4.out).mono ?_); rintro e w5 ⟨rfl, hb⟩; have HB5 := Lib.hid (HB4.out.trans (hb.mono HB4.out.size)); clear hb))
  clear HLA HLB HAL HB3 HB4 l3 l4
  have HSZ : Hid (w2.heap.size ≤ w5.heap.size) := HB5.out.size
  have HX1 : Hid (Box ((w5.alloc (.cells #[.slice none 0 0] 44)).alloc (.cells #[.slice none 0 0] 44)) w5.heap.size 44 #[.slice none 0 0]) := (Box.made w5 _ _).alloc _
  have HX2 : Hid (Box ((w5.alloc (.cells #[.slice none 0 0] 44)).alloc (.cells #[.slice none 0 0] 44)) (w5.heap.size + 1) 44 #[.slice none 0 0]) := Box.made_at (by simp) _ _
  have HB6 : Hid (Below w2.heap.size w2 ((w5.alloc (.cells #[.slice none 0 0] 44)).alloc (.cells #[.slice none 0 0] 44))) := (HB5.out.alloc HSZ.out _).alloc (by have := HSZ.out; simp; omega) _
  clear HB5
  go_upto_region 6 with fail
  generalize (w5.alloc (.cells #[.slice none 0 0] 44)).alloc (.cells #[.slice none 0 0] 44) = w6 at *
  generalize w5.heap.size = a1 at *
  have l6 := HLX.out w6 HB6.out
  have HR1 : Hid (Wr w6 a1 a1 []) := wr_new HX1.out (Nat.le_refl _)
  have HC6 : Hid (Calls Try.prog 19 #[.pointer (some ⟨a1, 0, none⟩), .agg (repV c n k A vs.length z)] w6 fun e w' => e = .returned (.tuple #[]) ∧ Wr w' a1 a1 (repB c n k vs) ∧ WF a1 w6 w') := Lib.hid (by obtain ⟨k1, k2, k3⟩ := HG1.out; exact wreply_any a1 a1 [] c n k A vs z w6 HR1.out (by simp) (by omega) (by omega) (HRA.out w6 a1 HSZ.out HB6.out))
  obtain ⟨B1, hB1⟩ : ∃ B1, repB c n k vs = B1 := ⟨_, rfl⟩
  rw [hB1] at HC6 HE HG1
  clear hB1
  go_upto_region 7 with (go_at_call 19; (with_reducible refine (HC6.out).mono ?_); rintro e w7 ⟨rfl, hw, hf⟩; have HB7 : Hid (Below w2.heap.size w2 w7) := Lib.hid (HB6.out.trans ((hf.below HR1.out).mono HSZ.out)); have HG67 := Lib.hid (hf.grown9 HX1.out); have HR7 := Lib.hid hw; clear hw hf)
  have HX27 : Hid (Box w7 (a1 + 1) 44 #[.slice none 0 0]) := HX2.out.grown HG67.out (by simp)
  have HR2 : Hid (Wr w7 (a1 + 1) (a1 + 1) []) := wr_new HX27.out (Nat.le_refl _)
  have l7 := HLY.out w7 HB7.out
  have HC7 : Hid (Calls Try.prog 19 #[.pointer (some ⟨a1 + 1, 0, none⟩), .agg (repV c' n' k' A' vs'.length z')] w7 fun e w' => e = .returned (.tuple #[]) ∧ Wr w' (a1 + 1) (a1 + 1) (repB c' n' k' vs') ∧ WF (a1 + 1) w7 w') := Lib.hid (by obtain ⟨k1, k2, k3⟩ := HG2.out; exact wreply_any (a1 + 1) (a1 + 1) [] c' n' k' A' vs' z' w7 HR2.out (by simp) (by omega) (by omega) (HRB.out w7 (a1 + 1) (by have := HSZ.out; omega) HB7.out))
  obtain ⟨B2, hB2⟩ : ∃ B2, repB c' n' k' vs' = B2 := ⟨_, rfl⟩
  rw [hB2] at HC7 HE HG2
  clear hB2 HC6 HG67 HX1 HX2 HR1 l6 HB6
  go_upto_region 8 with (go_at_call 19; (with_reducible refine (HC7.out).mono ?_); rintro e w8 ⟨rfl, hw, hf⟩; have HB8 : Hid (Below w2.heap.size w2 w8) := Lib.hid (HB7.out.trans ((hf.below HR2.out).mono (by have := HSZ.out; omega))); have HR82 := Lib.hid hw; have HR81 := Lib.hid (HR7.out.other9 HX27.out (by omega) (hf.grown9 HX27.out)); clear hw hf)
  clear HC7 HX27 HR2 HR7 l7 HB7 HRA HRB HLX HLY
  have HB8d : Hid (Below w8.heap.size w8 w8.drew) := (Below.refl _ _).drew
  have HT : Hid (∀ w', Below w8.heap.size w8 w' → Below w2.heap.size w2 w') := Lib.hid (fun w' hb => HB8.out.trans (hb.mono HB8.out.size))
  have HSX : Hid (∀ w', Below w8.heap.size w8 w' → w'.rangeAt w.heap.size 0 (repV c n k A vs.length z).toList) := Lib.hid (fun w' hb => Box.range (HX.out.below (HT.out w' hb) HX.out.lt))
  have HSY : Hid (∀ w', Below w8.heap.size w8 w' → w'.rangeAt (w.heap.size + 1) 0 (repV c' n' k' A' vs'.length z').toList) := Lib.hid (fun w' hb => Box.range (HY.out.below (HT.out w' hb) HY.out.lt))
  have HY1 : Hid (∀ w', Below w8.heap.size w8 w' → Calls Try.prog 16 #[.pointer (some ⟨a1, 0, none⟩)] w' (BytesIs w' B1)) := Lib.hid (fun w' hb => bytes_any a1 a1 B1 w' (HR81.out.below_size hb) (by have := HG1.out; omega))
  have HY2 : Hid (∀ w', Below w8.heap.size w8 w' → Calls Try.prog 16 #[.pointer (some ⟨a1 + 1, 0, none⟩)] w' (BytesIs w' B2)) := Lib.hid (fun w' hb => bytes_any (a1 + 1) (a1 + 1) B2 w' (HR82.out.below_size hb) (by have := HG2.out; omega))
  have hu3 := Try.underlying51
  have HZX := rep_list c n k A vs.length z
  have HZY := rep_list c' n' k' A' vs'.length z'
  clear HG1 HG2 HR81 HR82 HX HY HB8
  refine wp_region_held_drew (S := fun w' => Below w8.heap.size w8 w') (by kernel_rfl) HB8d.out (fun hS => ?_)
  clear HB8d
  rcases sm with _ | _
  · have HN : Hid (¬ (B1 = B2)) := Lib.hid (fun e => by have := HE.out.1 e; cases this)
    clear HE
    (refine wpAnyH_take (i := 0) (v := .agg (repV c n k A vs.length z)) rfl (by kernel_rfl) (by kernel_rfl) (by kernel_rfl) (fun _ _ _ h => h) (yieldsIf_load_mid (by kernel_rfl) 51 (.tmp 2) rfl w.heap.size (0) (by kernel_rfl) ((repV c n k A vs.length z).toList) _ (fun w h => HSX.out w h) hu3 rfl HZX) hS ?_)
    (try simp only [Act.put])
    (refine wpAnyH_take (i := 1) (v := .agg (repV c' n' k' A' vs'.length z')) rfl (by kernel_rfl) (by kernel_rfl) (by kernel_rfl) (fun _ _ _ h => h) (yieldsIf_load_mid (by kernel_rfl) 51 (.tmp 3) rfl (w.heap.size + 1) (0) (by kernel_rfl) ((repV c' n' k' A' vs'.length z').toList) _ (fun w h => HSY.out w h) hu3 rfl HZY) hS ?_)
    (try simp only [Act.put])
    (refine wpAnyH_take (i := 3) (v := .pointer (some ⟨a1, 0, none⟩)) rfl (by kernel_rfl) (by kernel_rfl) (by kernel_rfl) (fun _ _ _ h => h) (Or.inl ⟨by kernel_rfl, fun w hSw => by go_simp⟩) hS ?_)
    (try simp only [Act.put])
    (refine wpAnyH_take (i := 6) (v := .pointer (some ⟨a1 + 1, 0, none⟩)) rfl (by kernel_rfl) (by kernel_rfl) (by kernel_rfl) (fun _ _ _ h => h) (Or.inl ⟨by kernel_rfl, fun w hSw => by go_simp⟩) hS ?_)
    (try simp only [Act.put])
    refine wpAnyH_ready (rs := [2]) (by decide +kernel) (by simp) (AllReadyH.cons rfl (fun K hK => ?_) AllReadyH.nil)
    go_simp
    (go_at_call 21; (with_reducible refine (HS1.out _ (HT.out _ hS)).mono ?_); rintro e u2 ⟨rfl, hb⟩)
    refine hK.out _ _ (hS.trans (hb.mono hS.size)) (fun hS => ?_)
    clear hK K
    (try simp only [Act.put])
    clear hb
    refine wpAnyH_ready (rs := [4]) (by decide +kernel) (by simp) (AllReadyH.cons rfl (fun K hK => ?_) AllReadyH.nil)
    go_simp
    (go_at_call 16; (with_reducible refine (HY1.out _ hS).mono ?_); rintro e u4 ⟨A4, c4, rfl, _, _, hsee, hb⟩)
    have HV4 := Lib.hid hsee
    clear hsee
    refine hK.out _ _ (hS.trans (hb.mono hS.size)) (fun hS => ?_)
    clear hK K
    (try simp only [Act.put])
    clear hb
    refine wpAnyH_ready (rs := [5, 7]) (by decide +kernel) (by simp) (AllReadyH.cons rfl (fun K hK => ?_) (AllReadyH.cons rfl (fun K hK => ?_) AllReadyH.nil))
    · have hcv5 := convert_sees (P := Try.prog) 32 5 9 Try.underlying32 Try.underlying5 Try.underlying9 HV4.out c4
      go_simp
      refine hK.out _ _ (hS) (fun hS => ?_)
      clear hK K
      (try simp only [Act.put])
      refine wpAnyH_ready (rs := [7]) (by decide +kernel) (by simp) (AllReadyH.cons rfl (fun K hK => ?_) AllReadyH.nil)
      go_simp
      (go_at_call 16; (with_reducible refine (HY2.out _ hS).mono ?_); rintro e u7 ⟨A7, c7, rfl, _, _, hsee, hb⟩)
      have HV7 := Lib.hid hsee
      clear hsee
      refine hK.out _ _ (hS.trans (hb.mono hS.size)) (fun hS => ?_)
      clear hK K
      (try simp only [Act.put])
      clear hb
      refine wpAnyH_ready (rs := [8]) (by decide +kernel) (by simp) (AllReadyH.cons rfl (fun K hK => ?_) AllReadyH.nil)
      have hcv8 := convert_sees (P := Try.prog) 32 5 9 Try.underlying32 Try.underlying5 Try.underlying9 HV7.out c7
      go_simp
      refine hK.out _ _ (hS) (fun hS => ?_)
      clear hK K
      (try simp only [Act.put])
      (refine wpAnyH_take (i := 9) (v := .bool false) rfl (by kernel_rfl) (by kernel_rfl) (by kernel_rfl) (fun _ _ _ h => h) (Or.inl ⟨by kernel_rfl, fun w hSw => by have hc := HN.out; go_simp⟩) hS ?_)
      (try simp only [Act.put])
      (refine wpAnyH_take (i := 10) (v := .bool true) rfl (by kernel_rfl) (by kernel_rfl) (by kernel_rfl) (fun _ _ _ h => h) (Or.inl ⟨by kernel_rfl, fun w hSw => by go_simp⟩) hS ?_)
      (try simp only [Act.put])
      (refine wpAnyH_take (i := 11) (v := .bool true) rfl (by kernel_rfl) (by kernel_rfl) (by kernel_rfl) (fun _ _ _ h => h) (Or.inl ⟨by kernel_rfl, fun w hSw => by go_simp⟩) hS ?_)
      (try simp only [Act.put])
      (refine wpAnyH_take (i := 12) (v := .agg (repV c n k A vs.length z)) rfl (by kernel_rfl) (by kernel_rfl) (by kernel_rfl) (fun _ _ _ h => h) (yieldsIf_load_mid (by kernel_rfl) 51 (.tmp 2) rfl w.heap.size (0) (by kernel_rfl) ((repV c n k A vs.length z).toList) _ (fun w h => HSX.out w h) hu3 rfl HZX) hS ?_)
      (try simp only [Act.put])
      (refine wpAnyH_take (i := 13) (v := .agg (repV c' n' k' A' vs'.length z')) rfl (by kernel_rfl) (by kernel_rfl) (by kernel_rfl) (fun _ _ _ h => h) (yieldsIf_load_mid (by kernel_rfl) 51 (.tmp 3) rfl (w.heap.size + 1) (0) (by kernel_rfl) ((repV c' n' k' A' vs'.length z').toList) _ (fun w h => HSY.out w h) hu3 rfl HZY) hS ?_)
      (try simp only [Act.put])
      (refine wpAnyH_take (i := 15) (v := .agg (repV c' n' k' A' vs'.length z')) rfl (by kernel_rfl) (by kernel_rfl) (by kernel_rfl) (fun _ _ _ h => h) (yieldsIf_load_mid (by kernel_rfl) 51 (.tmp 3) rfl (w.heap.size + 1) (0) (by kernel_rfl) ((repV c' n' k' A' vs'.length z').toList) _ (fun w h => HSY.out w h) hu3 rfl HZY) hS ?_)
      (try simp only [Act.put])
      (refine wpAnyH_take (i := 16) (v := .agg (repV c n k A vs.length z)) rfl (by kernel_rfl) (by kernel_rfl) (by kernel_rfl) (fun _ _ _ h => h) (yieldsIf_load_mid (by kernel_rfl) 51 (.tmp 2) rfl w.heap.size (0) (by kernel_rfl) ((repV c n k A vs.length z).toList) _ (fun w h => HSX.out w h) hu3 rfl HZX) hS ?_)
      (try simp only [Act.put])
      refine wpAnyH_ready (rs := [14]) (by decide +kernel) (by simp) (AllReadyH.cons rfl (fun K hK => ?_) AllReadyH.nil)
      go_simp
      (go_at_call 21; (with_reducible refine (HS1.out _ (HT.out _ hS)).mono ?_); rintro e u14 ⟨rfl, hb⟩)
      refine hK.out _ _ (hS.trans (hb.mono hS.size)) (fun hS => ?_)
      clear hK K
      (try simp only [Act.put])
      clear hb
      refine wpAnyH_ready (rs := [17]) (by decide +kernel) (by simp) (AllReadyH.cons rfl (fun K hK => ?_) AllReadyH.nil)
      go_simp
      (go_at_call 21; (with_reducible refine (HS2.out _ (HT.out _ hS)).mono ?_); rintro e u17 ⟨rfl, hb⟩)
      refine hK.out _ _ (hS.trans (hb.mono hS.size)) (fun hS => ?_)
      clear hK K
      (try simp only [Act.put])
      clear hb
      (refine wpAnyH_take (i := 18) (v := .bool true) rfl (by kernel_rfl) (by kernel_rfl) (by kernel_rfl) (fun _ _ _ h => h) (Or.inl ⟨by kernel_rfl, fun w hSw => by go_simp⟩) hS ?_)
      (try simp only [Act.put])
      (refine wpAnyH_take (i := 19) (v := .bool true) rfl (by kernel_rfl) (by kernel_rfl) (by kernel_rfl) (fun _ _ _ h => h) (Or.inl ⟨by kernel_rfl, fun w hSw => by go_simp⟩) hS ?_)
      (try simp only [Act.put])
      (refine wpAnyH_take (i := 20) (v := .bool true) rfl (by kernel_rfl) (by kernel_rfl) (by kernel_rfl) (fun _ _ _ h => h) (Or.inl ⟨by kernel_rfl, fun w hSw => by go_simp⟩) hS ?_)
      (try simp only [Act.put])
      (refine wpAnyH_take (i := 21) (v := .agg (repV c' n' k' A' vs'.length z')) rfl (by kernel_rfl) (by kernel_rfl) (by kernel_rfl) (fun _ _ _ h => h) (yieldsIf_load_mid (by kernel_rfl) 51 (.tmp 3) rfl (w.heap.size + 1) (0) (by kernel_rfl) ((repV c' n' k' A' vs'.length z').toList) _ (fun w h => HSY.out w h) hu3 rfl HZY) hS ?_)
      (try simp only [Act.put])
      (refine wpAnyH_take (i := 22) (v := .agg (repV c' n' k' A' vs'.length z')) rfl (by kernel_rfl) (by kernel_rfl) (by kernel_rfl) (fun _ _ _ h => h) (yieldsIf_load_mid (by kernel_rfl) 51 (.tmp 3) rfl (w.heap.size + 1) (0) (by kernel_rfl) ((repV c' n' k' A' vs'.length z').toList) _ (fun w h => HSY.out w h) hu3 rfl HZY) hS ?_)
      (try simp only [Act.put])
      refine wpAnyH_ready (rs := [23]) (by decide +kernel) (by simp) (AllReadyH.cons rfl (fun K hK => ?_) AllReadyH.nil)
      go_simp
      (go_at_call 21; (with_reducible refine (HS3.out _ (HT.out _ hS)).mono ?_); rintro e u23 ⟨rfl, hb⟩)
      refine hK.out _ _ (hS.trans (hb.mono hS.size)) (fun hS => ?_)
      clear hK K
      (try simp only [Act.put])
      clear hb
      (refine wpAnyH_take (i := 24) (v := .bool true) rfl (by kernel_rfl) (by kernel_rfl) (by kernel_rfl) (fun _ _ _ h => h) (Or.inl ⟨by kernel_rfl, fun w hSw => by go_simp⟩) hS ?_)
      (try simp only [Act.put])
      refine wpAnyH_ready (rs := [25]) (by decide +kernel) (by simp) (AllReadyH.cons rfl (fun K hK => ?_) AllReadyH.nil)
      go_simp
      refine hK.out _ _ (hS) (fun hS => ?_)
      clear hK K
      (try simp only [Act.put])
      refine wpAnyH_done (by kernel_rfl) ?_ _
      have HFG := Lib.hid (HF.out.trans ((HT.out _ hS).mono HF.out.size))
      clear hS
      go_wp2
      go_ret
      exact ⟨rfl, HFG.out⟩
    · go_simp
      (go_at_call 16; (with_reducible refine (HY2.out _ hS).mono ?_); rintro e u7 ⟨A7, c7, rfl, _, _, hsee, hb⟩)
      have HV7 := Lib.hid hsee
      clear hsee
      have HV4 := Lib.hid ((HV4.out.below hb).more hb.size)
      refine hK.out _ _ (hS.trans (hb.mono hS.size)) (fun hS => ?_)
      clear hK K
      (try simp only [Act.put])
      clear hb
      refine wpAnyH_ready (rs := [5, 8]) (by decide +kernel) (by simp) (AllReadyH.cons rfl (fun K hK => ?_) (AllReadyH.cons rfl (fun K hK => ?_) AllReadyH.nil))
      · have hcv5 := convert_sees (P := Try.prog) 32 5 9 Try.underlying32 Try.underlying5 Try.underlying9 HV4.out c4
        go_simp
        refine hK.out _ _ (hS) (fun hS => ?_)
        clear hK K
        (try simp only [Act.put])
        refine wpAnyH_ready (rs := [8]) (by decide +kernel) (by simp) (AllReadyH.cons rfl (fun K hK => ?_) AllReadyH.nil)
        have hcv8 := convert_sees (P := Try.prog) 32 5 9 Try.underlying32 Try.underlying5 Try.underlying9 HV7.out c7
        go_simp
        refine hK.out _ _ (hS) (fun hS => ?_)
        clear hK K
        (try simp only [Act.put])
        (refine wpAnyH_take (i := 9) (v := .bool false) rfl (by kernel_rfl) (by kernel_rfl) (by kernel_rfl) (fun _ _ _ h => h) (Or.inl ⟨by kernel_rfl, fun w hSw => by have hc := HN.out; go_simp⟩) hS ?_)
        (try simp only [Act.put])
        (refine wpAnyH_take (i := 10) (v := .bool true) rfl (by kernel_rfl) (by kernel_rfl) (by kernel_rfl) (fun _ _ _ h => h) (Or.inl ⟨by kernel_rfl, fun w hSw => by go_simp⟩) hS ?_)
        (try simp only [Act.put])
        (refine wpAnyH_take (i := 11) (v := .bool true) rfl (by kernel_rfl) (by kernel_rfl) (by kernel_rfl) (fun _ _ _ h => h) (Or.inl ⟨by kernel_rfl, fun w hSw => by go_simp⟩) hS ?_)
        (try simp only [Act.put])
        (refine wpAnyH_take (i := 12) (v := .agg (repV c n k A vs.length z)) rfl (by kernel_rfl) (by kernel_rfl) (by kernel_rfl) (fun _ _ _ h => h) (yieldsIf_load_mid (by kernel_rfl) 51 (.tmp 2) rfl w.heap.size (0) (by kernel_rfl) ((repV c n k A vs.length z).toList) _ (fun w h => HSX.out w h) hu3 rfl HZX) hS ?_)
        (try simp only [Act.put])
        (refine wpAnyH_take (i := 13) (v := .agg (repV c' n' k' A' vs'.length z')) rfl (by kernel_rfl) (by kernel_rfl) (by kernel_rfl) (fun _ _ _ h => h) (yieldsIf_load_mid (by kernel_rfl) 51 (.tmp 3) rfl (w.heap.size + 1) (0) (by kernel_rfl) ((repV c' n' k' A' vs'.length z').toList) _ (fun w h => HSY.out w h) hu3 rfl HZY) hS ?_)
        (try simp only [Act.put])
        (refine wpAnyH_take (i := 15) (v := .agg (repV c' n' k' A' vs'.length z')) rfl (by kernel_rfl) (by kernel_rfl) (by kernel_rfl) (fun _ _ _ h => h) (yieldsIf_load_mid (by kernel_rfl) 51 (.tmp 3) rfl (w.heap.size + 1) (0) (by kernel_rfl) ((repV c' n' k' A' vs'.length z').toList) _ (fun w h => HSY.out w h) hu3 rfl HZY) hS ?_)
        (try simp only [Act.put])
        (refine wpAnyH_take (i := 16) (v := .agg (repV c n k A vs.length z)) rfl (by kernel_rfl) (by kernel_rfl) (by kernel_rfl) (fun _ _ _ h => h) (yieldsIf_load_mid (by kernel_rfl) 51 (.tmp 2) rfl w.heap.size (0) (by kernel_rfl) ((repV c n k A vs.length z).toList) _ (fun w h => HSX.out w h) hu3 rfl HZX) hS ?_)
        (try simp only [Act.put])
        refine wpAnyH_ready (rs := [14]) (by decide +kernel) (by simp) (AllReadyH.cons rfl (fun K hK => ?_) AllReadyH.nil)
        go_simp
        (go_at_call 21; (with_reducible refine (HS1.out _ (HT.out _ hS)).mono ?_); rintro e u14 ⟨rfl, hb⟩)
        refine hK.out _ _ (hS.trans (hb.mono hS.size)) (fun hS => ?_)
        clear hK K
        (try simp only [Act.put])
        clear hb
        refine wpAnyH_ready (rs := [17]) (by decide +kernel) (by simp) (AllReadyH.cons rfl (fun K hK => ?_) AllReadyH.nil)
        go_simp
        (go_at_call 21; (with_reducible refine (HS2.out _ (HT.out _ hS)).mono ?_); rintro e u17 ⟨rfl, hb⟩)
        refine hK.out _ _ (hS.trans (hb.mono hS.size)) (fun hS => ?_)
        clear hK K
        (try simp only [Act.put])
        clear hb
        (refine wpAnyH_take (i := 18) (v := .bool true) rfl (by kernel_rfl) (by kernel_rfl) (by kernel_rfl) (fun _ _ _ h => h) (Or.inl ⟨by kernel_rfl, fun w hSw => by go_simp⟩) hS ?_)
        (try simp only [Act.put])
        (refine wpAnyH_take (i := 19) (v := .bool true) rfl (by kernel_rfl) (by kernel_rfl) (by kernel_rfl) (fun _ _ _ h => h) (Or.inl ⟨by kernel_rfl, fun w hSw => by go_simp⟩) hS ?_)
        (try simp only [Act.put])
        (refine wpAnyH_take (i := 20) (v := .bool true) rfl (by kernel_rfl) (by kernel_rfl) (by kernel_rfl) (fun _ _ _ h => h) (Or.inl ⟨by kernel_rfl, fun w hSw => by go_simp⟩) hS ?_)
        (try simp only [Act.put])
        (refine wpAnyH_take (i := 21) (v := .agg (repV c' n' k' A' vs'.length z')) rfl (by kernel_rfl) (by kernel_rfl) (by kernel_rfl) (fun _ _ _ h => h) (yieldsIf_load_mid (by kernel_rfl) 51 (.tmp 3) rfl (w.heap.size + 1) (0) (by kernel_rfl) ((repV c' n' k' A' vs'.length z').toList) _ (fun w h => HSY.out w h) hu3 rfl HZY) hS ?_)
        (try simp only [Act.put])
        (refine wpAnyH_take (i := 22) (v := .agg (repV c' n' k' A' vs'.length z')) rfl (by kernel_rfl) (by kernel_rfl) (by kernel_rfl) (fun _ _ _ h => h) (yieldsIf_load_mid (by kernel_rfl) 51 (.tmp 3) rfl (w.heap.size + 1) (0) (by kernel_rfl) ((repV c' n' k' A' vs'.length z').toList) _ (fun w h => HSY.out w h) hu3 rfl HZY) hS ?_)
        (try simp only [Act.put])
        refine wpAnyH_ready (rs := [23]) (by decide +kernel) (by simp) (AllReadyH.cons rfl (fun K hK => ?_) AllReadyH.nil)
        go_simp
        (go_at_call 21; (with_reducible refine (HS3.out _ (HT.out _ hS)).mono ?_); rintro e u23 ⟨rfl, hb⟩)
        refine hK.out _ _ (hS.trans (hb.mono hS.size)) (fun hS => ?_)
        clear hK K
        (try simp only [Act.put])
        clear hb
        (refine wpAnyH_take (i := 24) (v := .bool true) rfl (by kernel_rfl) (by kernel_rfl) (by kernel_rfl) (fun _ _ _ h => h) (Or.inl ⟨by kernel_rfl, fun w hSw => by go_simp⟩) hS ?_)
        (try simp only [Act.put])
        refine wpAnyH_ready (rs := [25]) (by decide +kernel) (by simp) (AllReadyH.cons rfl (fun K hK => ?_) AllReadyH.nil)
        go_simp
        refine hK.out _ _ (hS) (fun hS => ?_)
        clear hK K
        (try simp only [Act.put])
        refine wpAnyH_done (by kernel_rfl) ?_ _
        have HFG := Lib.hid (HF.out.trans ((HT.out _ hS).mono HF.out.size))
        clear hS
        go_wp2
        go_ret
        exact ⟨rfl, HFG.out⟩
      · have hcv8 := convert_sees (P := Try.prog) 32 5 9 Try.underlying32 Try.underlying5 Try.underlying9 HV7.out c7
        go_simp
        refine hK.out _ _ (hS) (fun hS => ?_)
        clear hK K
        (try simp only [Act.put])
        refine wpAnyH_ready (rs := [5]) (by decide +kernel) (by simp) (AllReadyH.cons rfl (fun K hK => ?_) AllReadyH.nil)
        have hcv5 := convert_sees (P := Try.prog) 32 5 9 Try.underlying32 Try.underlying5 Try.underlying9 HV4.out c4
        go_simp
        refine hK.out _ _ (hS) (fun hS => ?_)
        clear hK K
        (try simp only [Act.put])
        (refine wpAnyH_take (i := 9) (v := .bool false) rfl (by kernel_rfl) (by kernel_rfl) (by kernel_rfl) (fun _ _ _ h => h) (Or.inl ⟨by kernel_rfl, fun w hSw => by have hc := HN.out; go_simp⟩) hS ?_)
        (try simp only [Act.put])
        (refine wpAnyH_take (i := 10) (v := .bool true) rfl (by kernel_rfl) (by kernel_rfl) (by kernel_rfl) (fun _ _ _ h => h) (Or.inl ⟨by kernel_rfl, fun w hSw => by go_simp⟩) hS ?_)
        (try simp only [Act.put])
        (refine wpAnyH_take (i := 11) (v := .bool true) rfl (by kernel_rfl) (by kernel_rfl) (by kernel_rfl) (fun _ _ _ h => h) (Or.inl ⟨by kernel_rfl, fun w hSw => by go_simp⟩) hS ?_)
        (try simp only [Act.put])
        (refine wpAnyH_take (i := 12) (v := .agg (repV c n k A vs.length z)) rfl (by kernel_rfl) (by kernel_rfl) (by kernel_rfl) (fun _ _ _ h => h) (yieldsIf_load_mid (by kernel_rfl) 51 (.tmp 2) rfl w.heap.size (0) (by kernel_rfl) ((repV c n k A vs.length z).toList) _ (fun w h => HSX.out w h) hu3 rfl HZX) hS ?_)
        (try simp only [Act.put])
        (refine wpAnyH_take (i := 13) (v := .agg (repV c' n' k' A' vs'.length z')) rfl (by kernel_rfl) (by kernel_rfl) (by kernel_rfl) (fun _ _ _ h => h) (yieldsIf_load_mid (by kernel_rfl) 51 (.tmp 3) rfl (w.heap.size + 1) (0) (by kernel_rfl) ((repV c' n' k' A' vs'.length z').toList) _ (fun w h => HSY.out w h) hu3 rfl HZY) hS ?_)
        (try simp only [Act.put])
        (refine wpAnyH_take (i := 15) (v := .agg (repV c' n' k' A' vs'.length z')) rfl (by kernel_rfl) (by kernel_rfl) (by kernel_rfl) (fun _ _ _ h => h) (yieldsIf_load_mid (by kernel_rfl) 51 (.tmp 3) rfl (w.heap.size + 1) (0) (by kernel_rfl) ((repV c' n' k' A' vs'.length z').toList) _ (fun w h => HSY.out w h) hu3 rfl HZY) hS ?_)
        (try simp only [Act.put])
        (refine wpAnyH_take (i := 16) (v := .agg (repV c n k A vs.length z)) rfl (by kernel_rfl) (by kernel_rfl) (by kernel_rfl) (fun _ _ _ h => h) (yieldsIf_load_mid (by kernel_rfl) 51 (.tmp 2) rfl w.heap.size (0) (by kernel_rfl) ((repV c n k A vs.length z).toList) _ (fun w h => HSX.out w h) hu3 rfl HZX) hS ?_)
        (try simp only [Act.put])
        refine wpAnyH_ready (rs := [14]) (by decide +kernel) (by simp) (AllReadyH.cons rfl (fun K hK => ?_) AllReadyH.nil)
        go_simp
        (go_at_call 21; (with_reducible refine (HS1.out _ (HT.out _ hS)).mono ?_); rintro e u14 ⟨rfl, hb⟩)
        refine hK.out _ _ (hS.trans (hb.mono hS.size)) (fun hS => ?_)
        clear hK K
        (try simp only [Act.put])
        clear hb
        refine wpAnyH_ready (rs := [17]) (by decide +kernel) (by simp) (AllReadyH.cons rfl (fun K hK => ?_) AllReadyH.nil)
        go_simp
        (go_at_call 21; (with_reducible refine (HS2.out _ (HT.out _ hS)).mono ?_); rintro e u17 ⟨rfl, hb⟩)
        refine hK.out _ _ (hS.trans (hb.mono hS.size)) (fun hS => ?_)
        clear hK K
        (try simp only [Act.put])
        clear hb
        (refine wpAnyH_take (i := 18) (v := .bool true) rfl (by kernel_rfl) (by kernel_rfl) (by kernel_rfl) (fun _ _ _ h => h) (Or.inl ⟨by kernel_rfl, fun w hSw => by go_simp⟩) hS ?_)
        (try simp only [Act.put])
        (refine wpAnyH_take (i := 19) (v := .bool true) rfl (by kernel_rfl) (by kernel_rfl) (by kernel_rfl) (fun _ _ _ h => h) (Or.inl ⟨by kernel_rfl, fun w hSw => by go_simp⟩) hS ?_)
        (try simp only [Act.put])
        (refine wpAnyH_take (i := 20) (v := .bool true) rfl (by kernel_rfl) (by kernel_rfl) (by kernel_rfl) (fun _ _ _ h => h) (Or.inl ⟨by kernel_rfl, fun w hSw => by go_simp⟩) hS ?_)
        (try simp only [Act.put])
        (refine wpAnyH_take (i := 21) (v := .agg (repV c' n' k' A' vs'.length z')) rfl (by kernel_rfl) (by kernel_rfl) (by kernel_rfl) (fun _ _ _ h => h) (yieldsIf_load_mid (by kernel_rfl) 51 (.tmp 3) rfl (w.heap.size + 1) (0) (by kernel_rfl) ((repV c' n' k' A' vs'.length z').toList) _ (fun w h => HSY.out w h) hu3 rfl HZY) hS ?_)
        (try simp only [Act.put])
        (refine wpAnyH_take (i := 22) (v := .agg (repV c' n' k' A' vs'.length z')) rfl (by kernel_rfl) (by kernel_rfl) (by kernel_rfl) (fun _ _ _ h => h) (yieldsIf_load_mid (by kernel_rfl) 51 (.tmp 3) rfl (w.heap.size + 1) (0) (by kernel_rfl) ((repV c' n' k' A' vs'.length z').toList) _ (fun w h => HSY.out w h) hu3 rfl HZY) hS ?_)
        (try simp only [Act.put])
        refine wpAnyH_ready (rs := [23]) (by decide +kernel) (by simp) (AllReadyH.cons rfl (fun K hK => ?_) AllReadyH.nil)
        go_simp
        (go_at_call 21; (with_reducible refine (HS3.out _ (HT.out _ hS)).mono ?_); rintro e u23 ⟨rfl, hb⟩)
        refine hK.out _ _ (hS.trans (hb.mono hS.size)) (fun hS => ?_)
        clear hK K
        (try simp only [Act.put])
        clear hb
        (refine wpAnyH_take (i := 24) (v := .bool true) rfl (by kernel_rfl) (by kernel_rfl) (by kernel_rfl) (fun _ _ _ h => h) (Or.inl ⟨by kernel_rfl, fun w hSw => by go_simp⟩) hS ?_)
        (try simp only [Act.put])
        refine wpAnyH_ready (rs := [25]) (by decide +kernel) (by simp) (AllReadyH.cons rfl (fun K hK => ?_) AllReadyH.nil)
        go_simp
        refine hK.out _ _ (hS) (fun hS => ?_)
        clear hK K
        (try simp only [Act.put])
        refine wpAnyH_done (by kernel_rfl) ?_ _
        have HFG := Lib.hid (HF.out.trans ((HT.out _ hS).mono HF.out.size))
        clear hS
        go_wp2
        go_ret
        exact ⟨rfl, HFG.out⟩

  · have HN : Hid (B1 = B2) := Lib.hid (HE.out.2 rfl)
    clear HE
    (refine wpAnyH_take (i := 0) (v := .agg (repV c n k A vs.length z)) rfl (by kernel_rfl) (by kernel_rfl) (by kernel_rfl) (fun _ _ _ h => h) (yieldsIf_load_mid (by kernel_rfl) 51 (.tmp 2) rfl w.heap.size (0) (by kernel_rfl) ((repV c n k A vs.length z).toList) _ (fun w h => HSX.out w h) hu3 rfl HZX) hS ?_)
    (try simp only [Act.put])
    (refine wpAnyH_take (i := 1) (v := .agg (repV c' n' k' A' vs'.length z')) rfl (by kernel_rfl) (by kernel_rfl) (by kernel_rfl) (fun _ _ _ h => h) (yieldsIf_load_mid (by kernel_rfl) 51 (.tmp 3) rfl (w.heap.size + 1) (0) (by kernel_rfl) ((repV c' n' k' A' vs'.length z').toList) _ (fun w h => HSY.out w h) hu3 rfl HZY) hS ?_)
    (try simp only [Act.put])
    (refine wpAnyH_take (i := 3) (v := .pointer (some ⟨a1, 0, none⟩)) rfl (by kernel_rfl) (by kernel_rfl) (by kernel_rfl) (fun _ _ _ h => h) (Or.inl ⟨by kernel_rfl, fun w hSw => by go_simp⟩) hS ?_)
    (try simp only [Act.put])
    (refine wpAnyH_take (i := 6) (v := .pointer (some ⟨a1 + 1, 0, none⟩)) rfl (by kernel_rfl) (by kernel_rfl) (by kernel_rfl) (fun _ _ _ h => h) (Or.inl ⟨by kernel_rfl, fun w hSw => by go_simp⟩) hS ?_)
    (try simp only [Act.put])
    refine wpAnyH_ready (rs := [2]) (by decide +kernel) (by simp) (AllReadyH.cons rfl (fun K hK => ?_) AllReadyH.nil)
    go_simp
    (go_at_call 21; (with_reducible refine (HS1.out _ (HT.out _ hS)).mono ?_); rintro e u2 ⟨rfl, hb⟩)
    refine hK.out _ _ (hS.trans (hb.mono hS.size)) (fun hS => ?_)
    clear hK K
    (try simp only [Act.put])
    clear hb
    refine wpAnyH_ready (rs := [4]) (by decide +kernel) (by simp) (AllReadyH.cons rfl (fun K hK => ?_) AllReadyH.nil)
    go_simp
    (go_at_call 16; (with_reducible refine (HY1.out _ hS).mono ?_); rintro e u4 ⟨A4, c4, rfl, _, _, hsee, hb⟩)
    have HV4 := Lib.hid hsee
    clear hsee
    refine hK.out _ _ (hS.trans (hb.mono hS.size)) (fun hS => ?_)
    clear hK K
    (try simp only [Act.put])
    clear hb
    refine wpAnyH_ready (rs := [5, 7]) (by decide +kernel) (by simp) (AllReadyH.cons rfl (fun K hK => ?_) (AllReadyH.cons rfl (fun K hK => ?_) AllReadyH.nil))
    · have hcv5 := convert_sees (P := Try.prog) 32 5 9 Try.underlying32 Try.underlying5 Try.underlying9 HV4.out c4
      go_simp
      refine hK.out _ _ (hS) (fun hS => ?_)
      clear hK K
      (try simp only [Act.put])
      refine wpAnyH_ready (rs := [7]) (by decide +kernel) (by simp) (AllReadyH.cons rfl (fun K hK => ?_) AllReadyH.nil)
      go_simp
      (go_at_call 16; (with_reducible refine (HY2.out _ hS).mono ?_); rintro e u7 ⟨A7, c7, rfl, _, _, hsee, hb⟩)
      have HV7 := Lib.hid hsee
      clear hsee
      refine hK.out _ _ (hS.trans (hb.mono hS.size)) (fun hS => ?_)
      clear hK K
      (try simp only [Act.put])
      clear hb
      refine wpAnyH_ready (rs := [8]) (by decide +kernel) (by simp) (AllReadyH.cons rfl (fun K hK => ?_) AllReadyH.nil)
      have hcv8 := convert_sees (P := Try.prog) 32 5 9 Try.underlying32 Try.underlying5 Try.underlying9 HV7.out c7
      go_simp
      refine hK.out _ _ (hS) (fun hS => ?_)
      clear hK K
      (try simp only [Act.put])
      (refine wpAnyH_take (i := 9) (v := .bool true) rfl (by kernel_rfl) (by kernel_rfl) (by kernel_rfl) (fun _ _ _ h => h) (Or.inl ⟨by kernel_rfl, fun w hSw => by have hc := HN.out; go_simp⟩) hS ?_)
      (try simp only [Act.put])
      (refine wpAnyH_take (i := 10) (v := .bool true) rfl (by kernel_rfl) (by kernel_rfl) (by kernel_rfl) (fun _ _ _ h => h) (Or.inl ⟨by kernel_rfl, fun w hSw => by go_simp⟩) hS ?_)
      (try simp only [Act.put])
      (refine wpAnyH_take (i := 11) (v := .bool true) rfl (by kernel_rfl) (by kernel_rfl) (by kernel_rfl) (fun _ _ _ h => h) (Or.inl ⟨by kernel_rfl, fun w hSw => by go_simp⟩) hS ?_)
      (try simp only [Act.put])
      (refine wpAnyH_take (i := 12) (v := .agg (repV c n k A vs.length z)) rfl (by kernel_rfl) (by kernel_rfl) (by kernel_rfl) (fun _ _ _ h => h) (yieldsIf_load_mid (by kernel_rfl) 51 (.tmp 2) rfl w.heap.size (0) (by kernel_rfl) ((repV c n k A vs.length z).toList) _ (fun w h => HSX.out w h) hu3 rfl HZX) hS ?_)
      (try simp only [Act.put])
      (refine wpAnyH_take (i := 13) (v := .agg (repV c' n' k' A' vs'.length z')) rfl (by kernel_rfl) (by kernel_rfl) (by kernel_rfl) (fun _ _ _ h => h) (yieldsIf_load_mid (by kernel_rfl) 51 (.tmp 3) rfl (w.heap.size + 1) (0) (by kernel_rfl) ((repV c' n' k' A' vs'.length z').toList) _ (fun w h => HSY.out w h) hu3 rfl HZY) hS ?_)
      (try simp only [Act.put])
      (refine wpAnyH_take (i := 15) (v := .agg (repV c' n' k' A' vs'.length z')) rfl (by kernel_rfl) (by kernel_rfl) (by kernel_rfl) (fun _ _ _ h => h) (yieldsIf_load_mid (by kernel_rfl) 51 (.tmp 3) rfl (w.heap.size + 1) (0) (by kernel_rfl) ((repV c' n' k' A' vs'.length z').toList) _ (fun w h => HSY.out w h) hu3 rfl HZY) hS ?_)
      (try simp only [Act.put])
      (refine wpAnyH_take (i := 16) (v := .agg (repV c n k A vs.length z)) rfl (by kernel_rfl) (by kernel_rfl) (by kernel_rfl) (fun _ _ _ h => h) (yieldsIf_load_mid (by kernel_rfl) 51 (.tmp 2) rfl w.heap.size (0) (by kernel_rfl) ((repV c n k A vs.length z).toList) _ (fun w h => HSX.out w h) hu3 rfl HZX) hS ?_)
      (try simp only [Act.put])
      refine wpAnyH_ready (rs := [14]) (by decide +kernel) (by simp) (AllReadyH.cons rfl (fun K hK => ?_) AllReadyH.nil)
      go_simp
      (go_at_call 21; (with_reducible refine (HS1.out _ (HT.out _ hS)).mono ?_); rintro e u14 ⟨rfl, hb⟩)
      refine hK.out _ _ (hS.trans (hb.mono hS.size)) (fun hS => ?_)
      clear hK K
      (try simp only [Act.put])
      clear hb
      refine wpAnyH_ready (rs := [17]) (by decide +kernel) (by simp) (AllReadyH.cons rfl (fun K hK => ?_) AllReadyH.nil)
      go_simp
      (go_at_call 21; (with_reducible refine (HS2.out _ (HT.out _ hS)).mono ?_); rintro e u17 ⟨rfl, hb⟩)
      refine hK.out _ _ (hS.trans (hb.mono hS.size)) (fun hS => ?_)
      clear hK K
      (try simp only [Act.put])
      clear hb
      (refine wpAnyH_take (i := 18) (v := .bool true) rfl (by kernel_rfl) (by kernel_rfl) (by kernel_rfl) (fun _ _ _ h => h) (Or.inl ⟨by kernel_rfl, fun w hSw => by go_simp⟩) hS ?_)
      (try simp only [Act.put])
      (refine wpAnyH_take (i := 19) (v := .bool true) rfl (by kernel_rfl) (by kernel_rfl) (by kernel_rfl) (fun _ _ _ h => h) (Or.inl ⟨by kernel_rfl, fun w hSw => by go_simp⟩) hS ?_)
      (try simp only [Act.put])
      (refine wpAnyH_take (i := 20) (v := .bool true) rfl (by kernel_rfl) (by kernel_rfl) (by kernel_rfl) (fun _ _ _ h => h) (Or.inl ⟨by kernel_rfl, fun w hSw => by go_simp⟩) hS ?_)
      (try simp only [Act.put])
      (refine wpAnyH_take (i := 21) (v := .agg (repV c' n' k' A' vs'.length z')) rfl (by kernel_rfl) (by kernel_rfl) (by kernel_rfl) (fun _ _ _ h => h) (yieldsIf_load_mid (by kernel_rfl) 51 (.tmp 3) rfl (w.heap.size + 1) (0) (by kernel_rfl) ((repV c' n' k' A' vs'.length z').toList) _ (fun w h => HSY.out w h) hu3 rfl HZY) hS ?_)
      (try simp only [Act.put])
      (refine wpAnyH_take (i := 22) (v := .agg (repV c' n' k' A' vs'.length z')) rfl (by kernel_rfl) (by kernel_rfl) (by kernel_rfl) (fun _ _ _ h => h) (yieldsIf_load_mid (by kernel_rfl) 51 (.tmp 3) rfl (w.heap.size + 1) (0) (by kernel_rfl) ((repV c' n' k' A' vs'.length z').toList) _ (fun w h => HSY.out w h) hu3 rfl HZY) hS ?_)
      (try simp only [Act.put])
      refine wpAnyH_ready (rs := [23]) (by decide +kernel) (by simp) (AllReadyH.cons rfl (fun K hK => ?_) AllReadyH.nil)
      go_simp
      (go_at_call 21; (with_reducible refine (HS3.out _ (HT.out _ hS)).mono ?_); rintro e u23 ⟨rfl, hb⟩)
      refine hK.out _ _ (hS.trans (hb.mono hS.size)) (fun hS => ?_)
      clear hK K
      (try simp only [Act.put])
      clear hb
      (refine wpAnyH_take (i := 24) (v := .bool true) rfl (by kernel_rfl) (by kernel_rfl) (by kernel_rfl) (fun _ _ _ h => h) (Or.inl ⟨by kernel_rfl, fun w hSw => by go_simp⟩) hS ?_)
      (try simp only [Act.put])
      refine wpAnyH_ready (rs := [25]) (by decide +kernel) (by simp) (AllReadyH.cons rfl (fun K hK => ?_) AllReadyH.nil)
      go_simp
      refine hK.out _ _ (hS) (fun hS => ?_)
      clear hK K
      (try simp only [Act.put])
      refine wpAnyH_done (by kernel_rfl) ?_ _
      have HFG := Lib.hid (HF.out.trans ((HT.out _ hS).mono HF.out.size))
      clear hS
      go_wp2
      go_ret
      exact ⟨rfl, HFG.out⟩
    · go_simp
      (go_at_call 16; (with_reducible refine (HY2.out _ hS).mono ?_); rintro e u7 ⟨A7, c7, rfl, _, _, hsee, hb⟩)
      have HV7 := Lib.hid hsee
      clear hsee
      have HV4 := Lib.hid ((HV4.out.below hb).more hb.size)
      refine hK.out _ _ (hS.trans (hb.mono hS.size)) (fun hS => ?_)
      clear hK K
      (try simp only [Act.put])
      clear hb
      refine wpAnyH_ready (rs := [5, 8]) (by decide +kernel) (by simp) (AllReadyH.cons rfl (fun K hK => ?_) (AllReadyH.cons rfl (fun K hK => ?_) AllReadyH.nil))
      · have hcv5 := convert_sees (P := Try.prog) 32 5 9 Try.underlying32 Try.underlying5 Try.underlying9 HV4.out c4
        go_simp
        refine hK.out _ _ (hS) (fun hS => ?_)
        clear hK K
        (try simp only [Act.put])
        refine wpAnyH_ready (rs := [8]) (by decide +kernel) (by simp) (AllReadyH.cons rfl (fun K hK => ?_) AllReadyH.nil)
        have hcv8 := convert_sees (P := Try.prog) 32 5 9 Try.underlying32 Try.underlying5 Try.underlying9 HV7.out c7
        go_simp
        refine hK.out _ _ (hS) (fun hS => ?_)
        clear hK K
        (try simp only [Act.put])
        (refine wpAnyH_take (i := 9) (v := .bool true) rfl (by kernel_rfl) (by kernel_rfl) (by kernel_rfl) (fun _ _ _ h => h) (Or.inl ⟨by kernel_rfl, fun w hSw => by have hc := HN.out; go_simp⟩) hS ?_)
        (try simp only [Act.put])
        (refine wpAnyH_take (i := 10) (v := .bool true) rfl (by kernel_rfl) (by kernel_rfl) (by kernel_rfl) (fun _ _ _ h => h) (Or.inl ⟨by kernel_rfl, fun w hSw => by go_simp⟩) hS ?_)
        (try simp only [Act.put])
        (refine wpAnyH_take (i := 11) (v := .bool true) rfl (by kernel_rfl) (by kernel_rfl) (by kernel_rfl) (fun _ _ _ h => h) (Or.inl ⟨by kernel_rfl, fun w hSw => by go_simp⟩) hS ?_)
        (try simp only [Act.put])
        (refine wpAnyH_take (i := 12) (v := .agg (repV c n k A vs.length z)) rfl (by kernel_rfl) (by kernel_rfl) (by kernel_rfl) (fun _ _ _ h => h) (yieldsIf_load_mid (by kernel_rfl) 51 (.tmp 2) rfl w.heap.size (0) (by kernel_rfl) ((repV c n k A vs.length z).toList) _ (fun w h => HSX.out w h) hu3 rfl HZX) hS ?_)
        (try simp only [Act.put])
        (refine wpAnyH_take (i := 13) (v := .agg (repV c' n' k' A' vs'.length z')) rfl (by kernel_rfl) (by kernel_rfl) (by kernel_rfl) (fun _ _ _ h => h) (yieldsIf_load_mid (by kernel_rfl) 51 (.tmp 3) rfl (w.heap.size + 1) (0) (by kernel_rfl) ((repV c' n' k' A' vs'.length z').toList) _ (fun w h => HSY.out w h) hu3 rfl HZY) hS ?_)
        (try simp only [Act.put])
        (refine wpAnyH_take (i := 15) (v := .agg (repV c' n' k' A' vs'.length z')) rfl (by kernel_rfl) (by kernel_rfl) (by kernel_rfl) (fun _ _ _ h => h) (yieldsIf_load_mid (by kernel_rfl) 51 (.tmp 3) rfl (w.heap.size + 1) (0) (by kernel_rfl) ((repV c' n' k' A' vs'.length z').toList) _ (fun w h => HSY.out w h) hu3 rfl HZY) hS ?_)
        (try simp only [Act.put])
        (refine wpAnyH_take (i := 16) (v := .agg (repV c n k A vs.length z)) rfl (by kernel_rfl) (by kernel_rfl) (by kernel_rfl) (fun _ _ _ h => h) (yieldsIf_load_mid (by kernel_rfl) 51 (.tmp 2) rfl w.heap.size (0) (by kernel_rfl) ((repV c n k A vs.length z).toList) _ (fun w h => HSX.out w h) hu3 rfl HZX) hS ?_)
        (try simp only [Act.put])
        refine wpAnyH_ready (rs := [14]) (by decide +kernel) (by simp) (AllReadyH.cons rfl (fun K hK => ?_) AllReadyH.nil)
        go_simp
        (go_at_call 21; (with_reducible refine (HS1.out _ (HT.out _ hS)).mono ?_); rintro e u14 ⟨rfl, hb⟩)
        refine hK.out _ _ (hS.trans (hb.mono hS.size)) (fun hS => ?_)
        clear hK K
        (try simp only [Act.put])
        clear hb
        refine wpAnyH_ready (rs := [17]) (by decide +kernel) (by simp) (AllReadyH.cons rfl (fun K hK => ?_) AllReadyH.nil)
        go_simp
        (go_at_call 21; (with_reducible refine (HS2.out _ (HT.out _ hS)).mono ?_); rintro e u17 ⟨rfl, hb⟩)
        refine hK.out _ _ (hS.trans (hb.mono hS.size)) (fun hS => ?_)
        clear hK K
        (try simp only [Act.put])
        clear hb
        (refine wpAnyH_take (i := 18) (v := .bool true) rfl (by kernel_rfl) (by kernel_rfl) (by kernel_rfl) (fun _ _ _ h => h) (Or.inl ⟨by kernel_rfl, fun w hSw => by go_simp⟩) hS ?_)
        (try simp only [Act.put])
        (refine wpAnyH_take (i := 19) (v := .bool true) rfl (by kernel_rfl) (by kernel_rfl) (by kernel_rfl) (fun _ _ _ h => h) (Or.inl ⟨by kernel_rfl, fun w hSw => by go_simp⟩) hS ?_)
        (try simp only [Act.put])
        (refine wpAnyH_take (i := 20) (v := .bool true) rfl (by kernel_rfl) (by kernel_rfl) (by kernel_rfl) (fun _ _ _ h => h) (Or.inl ⟨by kernel_rfl, fun w hSw => by go_simp⟩) hS ?_)
        (try simp only [Act.put])
        (refine wpAnyH_take (i := 21) (v := .agg (repV c' n' k' A' vs'.length z')) rfl (by kernel_rfl) (by kernel_rfl) (by kernel_rfl) (fun _ _ _ h => h) (yieldsIf_load_mid (by kernel_rfl) 51 (.tmp 3) rfl (w.heap.size + 1) (0) (by kernel_rfl) ((repV c' n' k' A' vs'.length z').toList) _ (fun w h => HSY.out w h) hu3 rfl HZY) hS ?_)
        (try simp only [Act.put])
        (refine wpAnyH_take (i := 22) (v := .agg (repV c' n' k' A' vs'.length z')) rfl (by kernel_rfl) (by kernel_rfl) (by kernel_rfl) (fun _ _ _ h => h) (yieldsIf_load_mid (by kernel_rfl) 51 (.tmp 3) rfl (w.heap.size + 1) (0) (by kernel_rfl) ((repV c' n' k' A' vs'.length z').toList) _ (fun w h => HSY.out w h) hu3 rfl HZY) hS ?_)
        (try simp only [Act.put])
        refine wpAnyH_ready (rs := [23]) (by decide +kernel) (by simp) (AllReadyH.cons rfl (fun K hK => ?_) AllReadyH.nil)
        go_simp
        (go_at_call 21; (with_reducible refine (HS3.out _ (HT.out _ hS)).mono ?_); rintro e u23 ⟨rfl, hb⟩)
        refine hK.out _ _ (hS.trans (hb.mono hS.size)) (fun hS => ?_)
        clear hK K
        (try simp only [Act.put])
        clear hb
        (refine wpAnyH_take (i := 24) (v := .bool true) rfl (by kernel_rfl) (by kernel_rfl) (by kernel_rfl) (fun _ _ _ h => h) (Or.inl ⟨by kernel_rfl, fun w hSw => by go_simp⟩) hS ?_)
        (try simp only [Act.put])
        refine wpAnyH_ready (rs := [25]) (by decide +kernel) (by simp) (AllReadyH.cons rfl (fun K hK => ?_) AllReadyH.nil)
        go_simp
        refine hK.out _ _ (hS) (fun hS => ?_)
        clear hK K
        (try simp only [Act.put])
        refine wpAnyH_done (by kernel_rfl) ?_ _
        have HFG := Lib.hid (HF.out.trans ((HT.out _ hS).mono HF.out.size))
        clear hS
        go_wp2
        go_ret
        exact ⟨rfl, HFG.out⟩
      · have hcv8 := convert_sees (P := Try.prog) 32 5 9 Try.underlying32 Try.underlying5 Try.underlying9 HV7.out c7
        go_simp
        refine hK.out _ _ (hS) (fun hS => ?_)
        clear hK K
        (try simp only [Act.put])
        refine wpAnyH_ready (rs := [5]) (by decide +kernel) (by simp) (AllReadyH.cons rfl (fun K hK => ?_) AllReadyH.nil)
        have hcv5 := convert_sees (P := Try.prog) 32 5 9 Try.underlying32 Try.underlying5 Try.underlying9 HV4.out c4
        go_simp
        refine hK.out _ _ (hS) (fun hS => ?_)
        clear hK K
        (try simp only [Act.put])
        (refine wpAnyH_take (i := 9) (v := .bool true) rfl (by kernel_rfl) (by kernel_rfl) (by kernel_rfl) (fun _ _ _ h => h) (Or.inl ⟨by kernel_rfl, fun w hSw => by have hc := HN.out; go_simp⟩) hS ?_)
        (try simp only [Act.put])
        (refine wpAnyH_take (i := 10) (v := .bool true) rfl (by kernel_rfl) (by kernel_rfl) (by kernel_rfl) (fun _ _ _ h => h) (Or.inl ⟨by kernel_rfl, fun w hSw => by go_simp⟩) hS ?_)
        (try simp only [Act.put])
        (refine wpAnyH_take (i := 11) (v := .bool true) rfl (by kernel_rfl) (by kernel_rfl) (by kernel_rfl) (fun _ _ _ h => h) (Or.inl ⟨by kernel_rfl, fun w hSw => by go_simp⟩) hS ?_)
        (try simp only [Act.put])
        (refine wpAnyH_take (i := 12) (v := .agg (repV c n k A vs.length z)) rfl (by kernel_rfl) (by kernel_rfl) (by kernel_rfl) (fun _ _ _ h => h) (yieldsIf_load_mid (by kernel_rfl) 51 (.tmp 2) rfl w.heap.size (0) (by kernel_rfl) ((repV c n k A vs.length z).toList) _ (fun w h => HSX.out w h) hu3 rfl HZX) hS ?_)
        (try simp only [Act.put])
        (refine wpAnyH_take (i := 13) (v := .agg (repV c' n' k' A' vs'.length z')) rfl (by kernel_rfl) (by kernel_rfl) (by kernel_rfl) (fun _ _ _ h => h) (yieldsIf_load_mid (by kernel_rfl) 51 (.tmp 3) rfl (w.heap.size + 1) (0) (by kernel_rfl) ((repV c' n' k' A' vs'.length z').toList) _ (fun w h => HSY.out w h) hu3 rfl HZY) hS ?_)
        (try simp only [Act.put])
        (refine wpAnyH_take (i := 15) (v := .agg (repV c' n' k' A' vs'.length z')) rfl (by kernel_rfl) (by kernel_rfl) (by kernel_rfl) (fun _ _ _ h => h) (yieldsIf_load_mid (by kernel_rfl) 51 (.tmp 3) rfl (w.heap.size + 1) (0) (by kernel_rfl) ((repV c' n' k' A' vs'.length z').toList) _ (fun w h => HSY.out w h) hu3 rfl HZY) hS ?_)
        (try simp only [Act.put])
        (refine wpAnyH_take (i := 16) (v := .agg (repV c n k A vs.length z)) rfl (by kernel_rfl) (by kernel_rfl) (by kernel_rfl) (fun _ _ _ h => h) (yieldsIf_load_mid (by kernel_rfl) 51 (.tmp 2) rfl w.heap.size (0) (by kernel_rfl) ((repV c n k A vs.length z).toList) _ (fun w h => HSX.out w h) hu3 rfl HZX) hS ?_)
        (try simp only [Act.put])
        refine wpAnyH_ready (rs := [14]) (by decide +kernel) (by simp) (AllReadyH.cons rfl (fun K hK => ?_) AllReadyH.nil)
        go_simp
        (go_at_call 21; (with_reducible refine (HS1.out _ (HT.out _ hS)).mono ?_); rintro e u14 ⟨rfl, hb⟩)
        refine hK.out _ _ (hS.trans (hb.mono hS.size)) (fun hS => ?_)
        clear hK K
        (try simp only [Act.put])
        clear hb
        refine wpAnyH_ready (rs := [17]) (by decide +kernel) (by simp) (AllReadyH.cons rfl (fun K hK => ?_) AllReadyH.nil)
        go_simp
        (go_at_call 21; (with_reducible refine (HS2.out _ (HT.out _ hS)).mono ?_); rintro e u17 ⟨rfl, hb⟩)
        refine hK.out _ _ (hS.trans (hb.mono hS.size)) (fun hS => ?_)
        clear hK K
        (try simp only [Act.put])
        clear hb
        (refine wpAnyH_take (i := 18) (v := .bool true) rfl (by kernel_rfl) (by kernel_rfl) (by kernel_rfl) (fun _ _ _ h => h) (Or.inl ⟨by kernel_rfl, fun w hSw => by go_simp⟩) hS ?_)
        (try simp only [Act.put])
        (refine wpAnyH_take (i := 19) (v := .bool true) rfl (by kernel_rfl) (by kernel_rfl) (by kernel_rfl) (fun _ _ _ h => h) (Or.inl ⟨by kernel_rfl, fun w hSw => by go_simp⟩) hS ?_)
        (try simp only [Act.put])
        (refine wpAnyH_take (i := 20) (v := .bool true) rfl (by kernel_rfl) (by kernel_rfl) (by kernel_rfl) (fun _ _ _ h => h) (Or.inl ⟨by kernel_rfl, fun w hSw => by go_simp⟩) hS ?_)
        (try simp only [Act.put])
        (refine wpAnyH_take (i := 21) (v := .agg (repV c' n' k' A' vs'.length z')) rfl (by kernel_rfl) (by kernel_rfl) (by kernel_rfl) (fun _ _ _ h => h) (yieldsIf_load_mid (by kernel_rfl) 51 (.tmp 3) rfl (w.heap.size + 1) (0) (by kernel_rfl) ((repV c' n' k' A' vs'.length z').toList) _ (fun w h => HSY.out w h) hu3 rfl HZY) hS ?_)
        (try simp only [Act.put])
        (refine wpAnyH_take (i := 22) (v := .agg (repV c' n' k' A' vs'.length z')) rfl (by kernel_rfl) (by kernel_rfl) (by kernel_rfl) (fun _ _ _ h => h) (yieldsIf_load_mid (by kernel_rfl) 51 (.tmp 3) rfl (w.heap.size + 1) (0) (by kernel_rfl) ((repV c' n' k' A' vs'.length z').toList) _ (fun w h => HSY.out w h) hu3 rfl HZY) hS ?_)
        (try simp only [Act.put])
        refine wpAnyH_ready (rs := [23]) (by decide +kernel) (by simp) (AllReadyH.cons rfl (fun K hK => ?_) AllReadyH.nil)
        go_simp
        (go_at_call 21; (with_reducible refine (HS3.out _ (HT.out _ hS)).mono ?_); rintro e u23 ⟨rfl, hb⟩)
        refine hK.out _ _ (hS.trans (hb.mono hS.size)) (fun hS => ?_)
        clear hK K
        (try simp only [Act.put])
        clear hb
        (refine wpAnyH_take (i := 24) (v := .bool true) rfl (by kernel_rfl) (by kernel_rfl) (by kernel_rfl) (fun _ _ _ h => h) (Or.inl ⟨by kernel_rfl, fun w hSw => by go_simp⟩) hS ?_)
        (try simp only [Act.put])
        refine wpAnyH_ready (rs := [25]) (by decide +kernel) (by simp) (AllReadyH.cons rfl (fun K hK => ?_) AllReadyH.nil)
        go_simp
        refine hK.out _ _ (hS) (fun hS => ?_)
        clear hK K
        (try simp only [Act.put])
        refine wpAnyH_done (by kernel_rfl) ?_ _
        have HFG := Lib.hid (HF.out.trans ((HT.out _ hS).mono HF.out.size))
        clear hS
        go_wp2
        go_ret
        exact ⟨rfl, HFG.out⟩

end Go.Proofs.Ytoamcdbemhbphaa
