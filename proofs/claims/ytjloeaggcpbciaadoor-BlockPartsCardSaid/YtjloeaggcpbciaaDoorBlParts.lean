/-
  BlockParts: the walk. Written by gen_blparts.py.
-/
import Derived.Test.YtjloeaggcpbciaaDoorBlDgt
import Derived.Test.YtjloeaggcpbciaaDoorBD
import Derived.Test.YtjloeaggcpbciaaDoorBB
import Derived.Test.YtjloeaggcpbciaaDoorOC
import Derived.Deep.RegionHeld3
namespace Go.Proofs.YtjloeaggcpbciaaDoor
open Go.RowKit

attribute [local go_sem ↓] ldReq_def stReq_def ldBlk_def stBlk_def

/-! ### Two writers side by side -/
set_option maxRecDepth 100000 in
theorem Wr.other12 {w w' : World} {base a r : Nat} {bs : List UInt8} {cs : Array Value} (h : Wr w base a bs) (hr : Box w r 32 cs) (hne : a ≠ r) (hg : w.grownBy w' (some r)) : Wr w' base a bs := by
  obtain ⟨hb, hs, v, hx, ho⟩ := h
  exact ⟨hb, Nat.le_trans hs hg.size, v, hx.grown hg (fun e => hne (by injection e)), World.ownsRow.kept ho hg (.inr (Box.own_ne hr ho (by decide)))⟩
set_option maxRecDepth 100000 in
theorem WF.grown12 {w w' : World} {a : Nat} (hf : WF a w w') (hx : Box w a 32 #[.slice none 0 0]) : w.grownBy w' (some a) :=
  ⟨hf.os, hf.tape, hf.output, hf.size, fun k hk hne => hf.block k hk (by
    rintro (rfl | ⟨v, hv, ho⟩)
    · exact hne rfl
    · have e := hx.cell 0
      simp only [List.getElem?_toArray, List.getElem?_cons_zero] at e
      rw [e] at hv
      injection hv with hv
      subst hv
      simp [Value.ownBlock] at ho)⟩
set_option maxRecDepth 100000 in
theorem few_small12 {x : BlkX} (h : Few x) : Small12 x := ⟨by have := h.len; omega, fun q hq => by have := h.txt q hq; omega⟩
set_option maxRecDepth 100000 in
theorem few_wf12 {x : BlkX} (hE : R64 x.epoch) (hH : R64 x.height) (hn : ∀ q ∈ x.reqs, R64 q.client ∧ R64 q.num ∧ R64 q.kind ∧ R64 q.ck ∧ R64 q.cid ∧ R64 q.cn ∧ R64 q.high) (h : Few x) : x.Wf :=
  ⟨hE, hH, by have := h.len; omega, fun q hq => by
    obtain ⟨i1, i2, i3, i4, i5, i6, i7⟩ := hn q hq
    have := h.txt q hq
    exact ⟨i1, i2, i3, i4, i5, i6, i7, by omega, by omega, by omega⟩⟩
/-- What is asked of a block that is handed in. -/
structure BlkOk (m : BlkM) : Prop where
  epoch : R64 m.x.epoch
  height : R64 m.x.height
  len : m.x.reqs.length ≤ 140737488351232
  num : ∀ q ∈ m.x.reqs, R64 q.client ∧ R64 q.num ∧ R64 q.kind ∧ R64 q.ck ∧ R64 q.cid ∧ R64 q.cn ∧ R64 q.high
  txt : ∀ q ∈ m.x.reqs, q.key.size ≤ 140737488351232 ∧ q.val.size ≤ 140737488351232 ∧ q.old.size ≤ 140737488351232

set_option maxRecDepth 100000 in
set_option maxHeartbeats 4000000 in
theorem blparts_walk (x y : BlkM) (hI : BlkOk x) (hJ : BlkOk y) (w : World) (hA : QSee w w.heap.size x.A x.x.reqs) (hB : QSee w w.heap.size y.A y.x.reqs) (hR : Roots w) :
    Calls Tryd.prog 3 #[.agg x.cells.toArray, .agg y.cells.toArray] w fun e w' => e = .returned (.bool true) ∧ Below w.heap.size w w' := by
  obtain ⟨w2, hw2⟩ : ∃ w2, w2 = (w.alloc (.cells x.cells.toArray 26)).alloc (.cells y.cells.toArray 26) := ⟨_, rfl⟩
  have HX : Hid (Box w2 w.heap.size 26 x.cells.toArray) := by rw [hw2]; exact (Box.made w _ _).alloc _
  have HY : Hid (Box w2 (w.heap.size + 1) 26 y.cells.toArray) := by rw [hw2]; exact Box.made_at (by simp) _ _
  have HF : Hid (Below w.heap.size w w2) := by rw [hw2]; exact ((Below.refl _ _).alloc (Nat.le_refl _) _).alloc (by simp) _
  have HAL := Lib.hid (alive_any12 w2)
  have HR2 : Hid (∀ w', Below w2.heap.size w2 w' → Roots w') := Lib.hid (fun w' hb => hR.of_below (HF.out.trans (hb.mono HF.out.size)))
  have HLX : Hid (∀ w', Below w2.heap.size w2 w' → (ldBlk (.pointer (some ⟨w.heap.size, 0, none⟩))).run Tryd.prog w' = .ok (.agg x.cells.toArray) w') := Lib.hid (fun w' hb => (HX.out.below hb HX.out.lt).ld_blk)
  have HLY : Hid (∀ w', Below w2.heap.size w2 w' → (ldBlk (.pointer (some ⟨w.heap.size + 1, 0, none⟩))).run Tryd.prog w' = .ok (.agg y.cells.toArray) w') := Lib.hid (fun w' hb => (HY.out.below hb HY.out.lt).ld_blk)
  have HSA := Lib.hid (hA.far HF.out)
  have HSB := Lib.hid (hB.far HF.out)
  have HLA : Hid (∀ w', Below w2.heap.size w2 w' → Calls Tryd.prog 5 #[.agg x.cells.toArray, .int .i64 8192] w' (GreatB x w')) := Lib.hid (fun w' hb => great_any12 x hI.len hI.txt w' (HSA.out.far hb))
  have HLB : Hid (∀ w', Below w2.heap.size w2 w' → Calls Tryd.prog 5 #[.agg y.cells.toArray, .int .i64 8192] w' (GreatB y w')) := Lib.hid (fun w' hb => great_any12 y hJ.len hJ.txt w' (HSB.out.far hb))
  have HGA : Hid (Few x.x → x.x.Wf) := Lib.hid (few_wf12 hI.epoch hI.height hI.num)
  have HGB : Hid (Few y.x → y.x.Wf) := Lib.hid (few_wf12 hJ.epoch hJ.height hJ.num)
  clear hI hJ hR hA hB
  go_enter Tryd.func3, Tryd.ntmps3
  go_upto_region 1 with fail
  change Code.wp _ _ _ _ ((w.alloc (.cells x.cells.toArray 26)).alloc (.cells y.cells.toArray 26))
  rw [← hw2]
  clear hw2
  go_upto_region 5 with (first
    | (go_at_call 4; (with_reducible refine (HAL.out).mono ?_); rintro e w3 ⟨rfl, hb⟩; have HB3 := Lib.hid hb; have l3 := HLX.out w3 hb; clear hb)
    | (go_at_call 5; (with_reducible refine (HLB.out _ HB4.out).mono ?_); rintro e w5 ⟨g, rfl, hg, hb⟩; have HB5 := Lib.hid (HB4.out.trans (hb.mono HB4.out.size)); cases g; (focus (have HG2 := Lib.hid (hg rfl))); (all_goals clear hb hg))
    | (go_at_call 5; (with_reducible refine (HLA.out _ HB3.out).mono ?_); rintro e w4 ⟨g, rfl, hg, hb⟩; have HB4 := Lib.hid (HB3.out.trans (hb.mono HB3.out.size)); have l4 := HLY.out w4 HB4.out; cases g; (focus (have HG1 := Lib.hid (hg rfl))); (all_goals clear hb hg)))
  all_goals (try (go_ret; first | exact ⟨rfl, HF.out.trans (HB5.out.mono HF.out.size)⟩ | exact ⟨rfl, HF.out.trans (HB4.out.mono HF.out.size)⟩))
  clear HLA HLB HAL HB3 HB4 l3 l4
  have HSZ : Hid (w2.heap.size ≤ w5.heap.size) := HB5.out.size
  have HX1 : Hid (Box ((w5.alloc (.cells #[.slice none 0 0] 32)).alloc (.cells #[.slice none 0 0] 32)) w5.heap.size 32 #[.slice none 0 0]) := (Box.made w5 _ _).alloc _
  have HX2 : Hid (Box ((w5.alloc (.cells #[.slice none 0 0] 32)).alloc (.cells #[.slice none 0 0] 32)) (w5.heap.size + 1) 32 #[.slice none 0 0]) := Box.made_at (by simp) _ _
  have HB6 : Hid (Below w2.heap.size w2 ((w5.alloc (.cells #[.slice none 0 0] 32)).alloc (.cells #[.slice none 0 0] 32))) := (HB5.out.alloc HSZ.out _).alloc (by have := HSZ.out; simp; omega) _
  clear HB5
  go_upto_region 6 with fail
  generalize (w5.alloc (.cells #[.slice none 0 0] 32)).alloc (.cells #[.slice none 0 0] 32) = w6 at *
  generalize w5.heap.size = a1 at *
  have l6 := HLX.out w6 HB6.out
  have HR1 : Hid (Wr w6 a1 a1 []) := wr_new HX1.out (Nat.le_refl _)
  have hc6 := write_any12 a1 a1 [] x w6 HR1.out (Sees.more (Sees.below HSA.out HB6.out) HSZ.out) (by simp) (few_small12 HG1.out)
  rw [List.nil_append] at hc6
  have HC6 := Lib.hid hc6
  clear hc6
  go_upto_region 7 with (go_at_call 6; (with_reducible refine (HC6.out).mono ?_); rintro e w7 ⟨rfl, hw, hf⟩; have HB7 : Hid (Below w2.heap.size w2 w7) := Lib.hid (HB6.out.trans ((hf.below HR1.out).mono HSZ.out)); have HG67 := Lib.hid (hf.grown12 HX1.out); have HR7 := Lib.hid hw; clear hw hf)
  have HX27 : Hid (Box w7 (a1 + 1) 32 #[.slice none 0 0]) := HX2.out.grown HG67.out (by simp)
  have HR22 : Hid (Wr w7 (a1 + 1) (a1 + 1) []) := wr_new HX27.out (Nat.le_refl _)
  have l7 := HLY.out w7 HB7.out
  have hc7 := write_any12 (a1 + 1) (a1 + 1) [] y w7 HR22.out (Sees.more (Sees.below HSB.out HB7.out) (by have := HSZ.out; omega)) (by simp) (few_small12 HG2.out)
  rw [List.nil_append] at hc7
  have HC7 := Lib.hid hc7
  clear HC6 HG67 HX1 HX2 HR1 l6 HB6 hc7
  go_upto_region 8 with (go_at_call 6; (with_reducible refine (HC7.out).mono ?_); rintro e w8 ⟨rfl, hw, hf⟩; have HB8 : Hid (Below w2.heap.size w2 w8) := Lib.hid (HB7.out.trans ((hf.below HR22.out).mono (by have := HSZ.out; omega))); have HR82 := Lib.hid hw; have HR81 := Lib.hid (HR7.out.other12 HX27.out (by omega) (hf.grown12 HX27.out)); clear hw hf)
  clear HC7 HX27 HR22 HR7 l7 HB7
  have l8 := HLX.out w8 HB8.out
  have m8 := HLY.out w8 HB8.out
  have HSM := Lib.hid (same_any12 x y (by have := HG1.out.len; omega) w8 (HSA.out.far HB8.out) (HSB.out.far HB8.out))
  go_upto_region 9 with (go_at_call 7; (with_reducible refine (HSM.out).mono ?_); rintro e w9 ⟨rfl, hb⟩; have HB9 := Lib.hid (HB8.out.trans (hb.mono HB8.out.size)); have HR92 := Lib.hid (HR82.out.below_size hb); have HR91 := Lib.hid (HR81.out.below_size hb); clear hb)
  clear HSM l8 m8 HR81 HR82 HB8
  have HB9d : Hid (Below w9.heap.size w9 w9.drew) := (Below.refl _ _).drew
  have HT : Hid (∀ w', Below w9.heap.size w9 w' → Below w2.heap.size w2 w') := Lib.hid (fun w' hb => HB9.out.trans (hb.mono HB9.out.size))
  have HSX : Hid (∀ w', Below w9.heap.size w9 w' → w'.rangeAt w.heap.size 0 x.cells) := Lib.hid (fun w' hb => Box.range (HX.out.below (HT.out w' hb) HX.out.lt))
  have HSY : Hid (∀ w', Below w9.heap.size w9 w' → w'.rangeAt (w.heap.size + 1) 0 y.cells) := Lib.hid (fun w' hb => Box.range (HY.out.below (HT.out w' hb) HY.out.lt))
  have HTA := Lib.hid (few_small12 HG1.out).bytes
  have HTB := Lib.hid (few_small12 HG2.out).bytes
  have HY1 : Hid (∀ w', Below w9.heap.size w9 w' → Calls Tryd.prog 8 #[.pointer (some ⟨a1, 0, none⟩)] w' (BytesIs w' (blkB x.x))) := Lib.hid (fun w' hb => bytes_any a1 a1 (blkB x.x) w' (HR91.out.below_size hb) (by have := HTA.out; omega))
  have HY2 : Hid (∀ w', Below w9.heap.size w9 w' → Calls Tryd.prog 8 #[.pointer (some ⟨a1 + 1, 0, none⟩)] w' (BytesIs w' (blkB y.x))) := Lib.hid (fun w' hb => bytes_any (a1 + 1) (a1 + 1) (blkB y.x) w' (HR92.out.below_size hb) (by have := HTB.out; omega))
  have HD1 : Hid (∀ w', Below w9.heap.size w9 w' → Calls Tryd.prog 9 #[.agg x.cells.toArray] w' fun e w'' => e = .returned (.agg ((blkD x.x).map bv).toArray) ∧ Below w'.heap.size w' w'') := Lib.hid (fun w' hb => bkdgt_any x (few_small12 HG1.out) w' (HSA.out.far (HT.out w' hb)) (HR2.out w' (HT.out w' hb)))
  have HD2 : Hid (∀ w', Below w9.heap.size w9 w' → Calls Tryd.prog 9 #[.agg y.cells.toArray] w' fun e w'' => e = .returned (.agg ((blkD y.x).map bv).toArray) ∧ Below w'.heap.size w' w'') := Lib.hid (fun w' hb => bkdgt_any y (few_small12 HG2.out) w' (HSB.out.far (HT.out w' hb)) (HR2.out w' (HT.out w' hb)))
  have HPL : Hid ((blkD x.x).length = 32) := Lib.hid (blkD_len x.x)
  have HE : Hid (blkB x.x = blkB y.x ↔ x.x = y.x) := Lib.hid (blk_one (HGA.out HG1.out) (HGB.out HG2.out))
  have HED : Hid (x.x = y.x → blkD y.x = blkD x.x) := Lib.hid (fun e => by rw [e])
  obtain ⟨sm, hsm⟩ : ∃ sm, decide (x.x = y.x) = sm := ⟨_, rfl⟩
  rw [hsm]
  generalize hB1 : blkB x.x = B1 at *
  generalize hB2 : blkB y.x = B2 at *
  generalize hP1 : blkD x.x = pk at *
  generalize hP2 : blkD y.x = pk2 at *
  have hu3 := Tryd.underlying26
  have HZX := x.size
  have HZY := y.size
  clear hB1 hB2 hP1 hP2 HG1 HG2 HR91 HR92 HX HY HB9 HR2 HSA HSB HGA HGB HTA HTB HLX HLY HSZ
  refine wp_region_held_drew (S := fun w' => Below w9.heap.size w9 w') (by kernel_rfl) HB9d.out (fun hS => ?_)
  clear HB9d
  rcases sm with _ | _
  · have HN : Hid (¬ (B1 = B2)) := Lib.hid (fun e => of_decide_eq_false hsm (HE.out.1 e))
    clear HE HED hsm
    (refine wpAnyH_take (i := 0) (v := .pointer (some ⟨a1, 0, none⟩)) rfl (by kernel_rfl) (by kernel_rfl) (by kernel_rfl) (fun _ _ _ h => h) (Or.inl ⟨by kernel_rfl, fun w hSw => by go_simp⟩) hS ?_)
    (try simp only [Act.put])
    (refine wpAnyH_take (i := 3) (v := .pointer (some ⟨a1 + 1, 0, none⟩)) rfl (by kernel_rfl) (by kernel_rfl) (by kernel_rfl) (fun _ _ _ h => h) (Or.inl ⟨by kernel_rfl, fun w hSw => by go_simp⟩) hS ?_)
    (try simp only [Act.put])
    (refine wpAnyH_take (i := 7) (v := .bool false) rfl (by kernel_rfl) (by kernel_rfl) (by kernel_rfl) (fun _ _ _ h => h) (Or.inl ⟨by kernel_rfl, fun w hSw => by go_simp⟩) hS ?_)
    (try simp only [Act.put])
    refine wpAnyH_ready (rs := [1]) (by decide +kernel) (by simp) (AllReadyH.cons rfl (fun K hK => ?_) AllReadyH.nil)
    go_simp
    (go_at_call 8; (with_reducible refine (HY1.out _ hS).mono ?_); rintro e u1 ⟨A1, c1, rfl, _, _, hsee, hb⟩)
    have HV1 := Lib.hid hsee
    clear hsee
    refine hK.out _ _ (hS.trans (hb.mono hS.size)) (fun hS => ?_)
    clear hK K
    (try simp only [Act.put])
    clear hb
    refine wpAnyH_ready (rs := [2, 4]) (by decide +kernel) (by simp) (AllReadyH.cons rfl (fun K hK => ?_) (AllReadyH.cons rfl (fun K hK => ?_) AllReadyH.nil))
    · have hcv2 := convert_sees (P := Tryd.prog) 30 5 9 Tryd.underlying30 Tryd.underlying5 Tryd.underlying9 HV1.out c1
      go_simp
      refine hK.out _ _ (hS) (fun hS => ?_)
      clear hK K
      (try simp only [Act.put])
      refine wpAnyH_ready (rs := [4]) (by decide +kernel) (by simp) (AllReadyH.cons rfl (fun K hK => ?_) AllReadyH.nil)
      go_simp
      (go_at_call 8; (with_reducible refine (HY2.out _ hS).mono ?_); rintro e u4 ⟨A4, c4, rfl, _, _, hsee, hb⟩)
      have HV4 := Lib.hid hsee
      clear hsee
      refine hK.out _ _ (hS.trans (hb.mono hS.size)) (fun hS => ?_)
      clear hK K
      (try simp only [Act.put])
      clear hb
      refine wpAnyH_ready (rs := [5]) (by decide +kernel) (by simp) (AllReadyH.cons rfl (fun K hK => ?_) AllReadyH.nil)
      have hcv5 := convert_sees (P := Tryd.prog) 30 5 9 Tryd.underlying30 Tryd.underlying5 Tryd.underlying9 HV4.out c4
      go_simp
      refine hK.out _ _ (hS) (fun hS => ?_)
      clear hK K
      (try simp only [Act.put])
      (refine wpAnyH_take (i := 6) (v := .bool false) rfl (by kernel_rfl) (by kernel_rfl) (by kernel_rfl) (fun _ _ _ h => h) (Or.inl ⟨by kernel_rfl, fun w hSw => by have hc := HN.out; go_simp⟩) hS ?_)
      (try simp only [Act.put])
      (refine wpAnyH_take (i := 8) (v := .bool true) rfl (by kernel_rfl) (by kernel_rfl) (by kernel_rfl) (fun _ _ _ h => h) (Or.inl ⟨by kernel_rfl, fun w hSw => by go_simp⟩) hS ?_)
      (try simp only [Act.put])
      (refine wpAnyH_take (i := 9) (v := .bool true) rfl (by kernel_rfl) (by kernel_rfl) (by kernel_rfl) (fun _ _ _ h => h) (Or.inl ⟨by kernel_rfl, fun w hSw => by go_simp⟩) hS ?_)
      (try simp only [Act.put])
      (refine wpAnyH_take (i := 10) (v := .bool false) rfl (by kernel_rfl) (by kernel_rfl) (by kernel_rfl) (fun _ _ _ h => h) (Or.inl ⟨by kernel_rfl, fun w hSw => by go_simp⟩) hS ?_)
      (try simp only [Act.put])
      (refine wpAnyH_take (i := 11) (v := .bool true) rfl (by kernel_rfl) (by kernel_rfl) (by kernel_rfl) (fun _ _ _ h => h) (Or.inl ⟨by kernel_rfl, fun w hSw => by go_simp⟩) hS ?_)
      (try simp only [Act.put])
      (refine wpAnyH_take (i := 12) (v := .bool true) rfl (by kernel_rfl) (by kernel_rfl) (by kernel_rfl) (fun _ _ _ h => h) (Or.inl ⟨by kernel_rfl, fun w hSw => by go_simp⟩) hS ?_)
      (try simp only [Act.put])
      (refine wpAnyH_take (i := 13) (v := undef) rfl (by kernel_rfl) (by kernel_rfl) (by kernel_rfl) (fun _ _ _ h => h) (Or.inr ⟨by kernel_rfl, rfl⟩) hS ?_)
      (try simp only [Act.put])
      (refine wpAnyH_take (i := 14) (v := undef) rfl (by kernel_rfl) (by kernel_rfl) (by kernel_rfl) (fun _ _ _ h => h) (Or.inr ⟨by kernel_rfl, rfl⟩) hS ?_)
      (try simp only [Act.put])
      (refine wpAnyH_take (i := 15) (v := undef) rfl (by kernel_rfl) (by kernel_rfl) (by kernel_rfl) (fun _ _ _ h => h) (Or.inr ⟨by kernel_rfl, rfl⟩) hS ?_)
      (try simp only [Act.put])
      (refine wpAnyH_take (i := 16) (v := undef) rfl (by kernel_rfl) (by kernel_rfl) (by kernel_rfl) (fun _ _ _ h => h) (Or.inr ⟨by kernel_rfl, rfl⟩) hS ?_)
      (try simp only [Act.put])
      (refine wpAnyH_take (i := 17) (v := undef) rfl (by kernel_rfl) (by kernel_rfl) (by kernel_rfl) (fun _ _ _ h => h) (Or.inr ⟨by kernel_rfl, rfl⟩) hS ?_)
      (try simp only [Act.put])
      (refine wpAnyH_take (i := 18) (v := .bool true) rfl (by kernel_rfl) (by kernel_rfl) (by kernel_rfl) (fun _ _ _ h => h) (Or.inl ⟨by kernel_rfl, fun w hSw => by go_simp⟩) hS ?_)
      (try simp only [Act.put])
      (refine wpAnyH_take (i := 19) (v := .bool true) rfl (by kernel_rfl) (by kernel_rfl) (by kernel_rfl) (fun _ _ _ h => h) (Or.inl ⟨by kernel_rfl, fun w hSw => by go_simp⟩) hS ?_)
      (try simp only [Act.put])
      refine wpAnyH_ready (rs := [20]) (by decide +kernel) (by simp) (AllReadyH.cons rfl (fun K hK => ?_) AllReadyH.nil)
      go_simp
      refine hK.out _ _ (hS) (fun hS => ?_)
      clear hK K
      (try simp only [Act.put])
      refine wpAnyH_done (by kernel_rfl) ?_ _
      have HFG := Lib.hid (HF.out.trans ((HT.out _ hS).mono HF.out.size))
      clear hS
      go_wp2
      go_ret
      exact ⟨rfl, HFG.out⟩
    · go_simp
      (go_at_call 8; (with_reducible refine (HY2.out _ hS).mono ?_); rintro e u4 ⟨A4, c4, rfl, _, _, hsee, hb⟩)
      have HV4 := Lib.hid hsee
      clear hsee
      have HV1 := Lib.hid ((HV1.out.below hb).more hb.size)
      refine hK.out _ _ (hS.trans (hb.mono hS.size)) (fun hS => ?_)
      clear hK K
      (try simp only [Act.put])
      clear hb
      refine wpAnyH_ready (rs := [2, 5]) (by decide +kernel) (by simp) (AllReadyH.cons rfl (fun K hK => ?_) (AllReadyH.cons rfl (fun K hK => ?_) AllReadyH.nil))
      · have hcv2 := convert_sees (P := Tryd.prog) 30 5 9 Tryd.underlying30 Tryd.underlying5 Tryd.underlying9 HV1.out c1
        go_simp
        refine hK.out _ _ (hS) (fun hS => ?_)
        clear hK K
        (try simp only [Act.put])
        refine wpAnyH_ready (rs := [5]) (by decide +kernel) (by simp) (AllReadyH.cons rfl (fun K hK => ?_) AllReadyH.nil)
        have hcv5 := convert_sees (P := Tryd.prog) 30 5 9 Tryd.underlying30 Tryd.underlying5 Tryd.underlying9 HV4.out c4
        go_simp
        refine hK.out _ _ (hS) (fun hS => ?_)
        clear hK K
        (try simp only [Act.put])
        (refine wpAnyH_take (i := 6) (v := .bool false) rfl (by kernel_rfl) (by kernel_rfl) (by kernel_rfl) (fun _ _ _ h => h) (Or.inl ⟨by kernel_rfl, fun w hSw => by have hc := HN.out; go_simp⟩) hS ?_)
        (try simp only [Act.put])
        (refine wpAnyH_take (i := 8) (v := .bool true) rfl (by kernel_rfl) (by kernel_rfl) (by kernel_rfl) (fun _ _ _ h => h) (Or.inl ⟨by kernel_rfl, fun w hSw => by go_simp⟩) hS ?_)
        (try simp only [Act.put])
        (refine wpAnyH_take (i := 9) (v := .bool true) rfl (by kernel_rfl) (by kernel_rfl) (by kernel_rfl) (fun _ _ _ h => h) (Or.inl ⟨by kernel_rfl, fun w hSw => by go_simp⟩) hS ?_)
        (try simp only [Act.put])
        (refine wpAnyH_take (i := 10) (v := .bool false) rfl (by kernel_rfl) (by kernel_rfl) (by kernel_rfl) (fun _ _ _ h => h) (Or.inl ⟨by kernel_rfl, fun w hSw => by go_simp⟩) hS ?_)
        (try simp only [Act.put])
        (refine wpAnyH_take (i := 11) (v := .bool true) rfl (by kernel_rfl) (by kernel_rfl) (by kernel_rfl) (fun _ _ _ h => h) (Or.inl ⟨by kernel_rfl, fun w hSw => by go_simp⟩) hS ?_)
        (try simp only [Act.put])
        (refine wpAnyH_take (i := 12) (v := .bool true) rfl (by kernel_rfl) (by kernel_rfl) (by kernel_rfl) (fun _ _ _ h => h) (Or.inl ⟨by kernel_rfl, fun w hSw => by go_simp⟩) hS ?_)
        (try simp only [Act.put])
        (refine wpAnyH_take (i := 13) (v := undef) rfl (by kernel_rfl) (by kernel_rfl) (by kernel_rfl) (fun _ _ _ h => h) (Or.inr ⟨by kernel_rfl, rfl⟩) hS ?_)
        (try simp only [Act.put])
        (refine wpAnyH_take (i := 14) (v := undef) rfl (by kernel_rfl) (by kernel_rfl) (by kernel_rfl) (fun _ _ _ h => h) (Or.inr ⟨by kernel_rfl, rfl⟩) hS ?_)
        (try simp only [Act.put])
        (refine wpAnyH_take (i := 15) (v := undef) rfl (by kernel_rfl) (by kernel_rfl) (by kernel_rfl) (fun _ _ _ h => h) (Or.inr ⟨by kernel_rfl, rfl⟩) hS ?_)
        (try simp only [Act.put])
        (refine wpAnyH_take (i := 16) (v := undef) rfl (by kernel_rfl) (by kernel_rfl) (by kernel_rfl) (fun _ _ _ h => h) (Or.inr ⟨by kernel_rfl, rfl⟩) hS ?_)
        (try simp only [Act.put])
        (refine wpAnyH_take (i := 17) (v := undef) rfl (by kernel_rfl) (by kernel_rfl) (by kernel_rfl) (fun _ _ _ h => h) (Or.inr ⟨by kernel_rfl, rfl⟩) hS ?_)
        (try simp only [Act.put])
        (refine wpAnyH_take (i := 18) (v := .bool true) rfl (by kernel_rfl) (by kernel_rfl) (by kernel_rfl) (fun _ _ _ h => h) (Or.inl ⟨by kernel_rfl, fun w hSw => by go_simp⟩) hS ?_)
        (try simp only [Act.put])
        (refine wpAnyH_take (i := 19) (v := .bool true) rfl (by kernel_rfl) (by kernel_rfl) (by kernel_rfl) (fun _ _ _ h => h) (Or.inl ⟨by kernel_rfl, fun w hSw => by go_simp⟩) hS ?_)
        (try simp only [Act.put])
        refine wpAnyH_ready (rs := [20]) (by decide +kernel) (by simp) (AllReadyH.cons rfl (fun K hK => ?_) AllReadyH.nil)
        go_simp
        refine hK.out _ _ (hS) (fun hS => ?_)
        clear hK K
        (try simp only [Act.put])
        refine wpAnyH_done (by kernel_rfl) ?_ _
        have HFG := Lib.hid (HF.out.trans ((HT.out _ hS).mono HF.out.size))
        clear hS
        go_wp2
        go_ret
        exact ⟨rfl, HFG.out⟩
      · have hcv5 := convert_sees (P := Tryd.prog) 30 5 9 Tryd.underlying30 Tryd.underlying5 Tryd.underlying9 HV4.out c4
        go_simp
        refine hK.out _ _ (hS) (fun hS => ?_)
        clear hK K
        (try simp only [Act.put])
        refine wpAnyH_ready (rs := [2]) (by decide +kernel) (by simp) (AllReadyH.cons rfl (fun K hK => ?_) AllReadyH.nil)
        have hcv2 := convert_sees (P := Tryd.prog) 30 5 9 Tryd.underlying30 Tryd.underlying5 Tryd.underlying9 HV1.out c1
        go_simp
        refine hK.out _ _ (hS) (fun hS => ?_)
        clear hK K
        (try simp only [Act.put])
        (refine wpAnyH_take (i := 6) (v := .bool false) rfl (by kernel_rfl) (by kernel_rfl) (by kernel_rfl) (fun _ _ _ h => h) (Or.inl ⟨by kernel_rfl, fun w hSw => by have hc := HN.out; go_simp⟩) hS ?_)
        (try simp only [Act.put])
        (refine wpAnyH_take (i := 8) (v := .bool true) rfl (by kernel_rfl) (by kernel_rfl) (by kernel_rfl) (fun _ _ _ h => h) (Or.inl ⟨by kernel_rfl, fun w hSw => by go_simp⟩) hS ?_)
        (try simp only [Act.put])
        (refine wpAnyH_take (i := 9) (v := .bool true) rfl (by kernel_rfl) (by kernel_rfl) (by kernel_rfl) (fun _ _ _ h => h) (Or.inl ⟨by kernel_rfl, fun w hSw => by go_simp⟩) hS ?_)
        (try simp only [Act.put])
        (refine wpAnyH_take (i := 10) (v := .bool false) rfl (by kernel_rfl) (by kernel_rfl) (by kernel_rfl) (fun _ _ _ h => h) (Or.inl ⟨by kernel_rfl, fun w hSw => by go_simp⟩) hS ?_)
        (try simp only [Act.put])
        (refine wpAnyH_take (i := 11) (v := .bool true) rfl (by kernel_rfl) (by kernel_rfl) (by kernel_rfl) (fun _ _ _ h => h) (Or.inl ⟨by kernel_rfl, fun w hSw => by go_simp⟩) hS ?_)
        (try simp only [Act.put])
        (refine wpAnyH_take (i := 12) (v := .bool true) rfl (by kernel_rfl) (by kernel_rfl) (by kernel_rfl) (fun _ _ _ h => h) (Or.inl ⟨by kernel_rfl, fun w hSw => by go_simp⟩) hS ?_)
        (try simp only [Act.put])
        (refine wpAnyH_take (i := 13) (v := undef) rfl (by kernel_rfl) (by kernel_rfl) (by kernel_rfl) (fun _ _ _ h => h) (Or.inr ⟨by kernel_rfl, rfl⟩) hS ?_)
        (try simp only [Act.put])
        (refine wpAnyH_take (i := 14) (v := undef) rfl (by kernel_rfl) (by kernel_rfl) (by kernel_rfl) (fun _ _ _ h => h) (Or.inr ⟨by kernel_rfl, rfl⟩) hS ?_)
        (try simp only [Act.put])
        (refine wpAnyH_take (i := 15) (v := undef) rfl (by kernel_rfl) (by kernel_rfl) (by kernel_rfl) (fun _ _ _ h => h) (Or.inr ⟨by kernel_rfl, rfl⟩) hS ?_)
        (try simp only [Act.put])
        (refine wpAnyH_take (i := 16) (v := undef) rfl (by kernel_rfl) (by kernel_rfl) (by kernel_rfl) (fun _ _ _ h => h) (Or.inr ⟨by kernel_rfl, rfl⟩) hS ?_)
        (try simp only [Act.put])
        (refine wpAnyH_take (i := 17) (v := undef) rfl (by kernel_rfl) (by kernel_rfl) (by kernel_rfl) (fun _ _ _ h => h) (Or.inr ⟨by kernel_rfl, rfl⟩) hS ?_)
        (try simp only [Act.put])
        (refine wpAnyH_take (i := 18) (v := .bool true) rfl (by kernel_rfl) (by kernel_rfl) (by kernel_rfl) (fun _ _ _ h => h) (Or.inl ⟨by kernel_rfl, fun w hSw => by go_simp⟩) hS ?_)
        (try simp only [Act.put])
        (refine wpAnyH_take (i := 19) (v := .bool true) rfl (by kernel_rfl) (by kernel_rfl) (by kernel_rfl) (fun _ _ _ h => h) (Or.inl ⟨by kernel_rfl, fun w hSw => by go_simp⟩) hS ?_)
        (try simp only [Act.put])
        refine wpAnyH_ready (rs := [20]) (by decide +kernel) (by simp) (AllReadyH.cons rfl (fun K hK => ?_) AllReadyH.nil)
        go_simp
        refine hK.out _ _ (hS) (fun hS => ?_)
        clear hK K
        (try simp only [Act.put])
        refine wpAnyH_done (by kernel_rfl) ?_ _
        have HFG := Lib.hid (HF.out.trans ((HT.out _ hS).mono HF.out.size))
        clear hS
        go_wp2
        go_ret
        exact ⟨rfl, HFG.out⟩

  · have HN : Hid (B1 = B2) := Lib.hid (HE.out.2 (of_decide_eq_true hsm))
    obtain rfl : pk2 = pk := HED.out (of_decide_eq_true hsm)
    clear HE HED hsm
    (refine wpAnyH_take (i := 0) (v := .pointer (some ⟨a1, 0, none⟩)) rfl (by kernel_rfl) (by kernel_rfl) (by kernel_rfl) (fun _ _ _ h => h) (Or.inl ⟨by kernel_rfl, fun w hSw => by go_simp⟩) hS ?_)
    (try simp only [Act.put])
    (refine wpAnyH_take (i := 3) (v := .pointer (some ⟨a1 + 1, 0, none⟩)) rfl (by kernel_rfl) (by kernel_rfl) (by kernel_rfl) (fun _ _ _ h => h) (Or.inl ⟨by kernel_rfl, fun w hSw => by go_simp⟩) hS ?_)
    (try simp only [Act.put])
    (refine wpAnyH_take (i := 7) (v := .bool true) rfl (by kernel_rfl) (by kernel_rfl) (by kernel_rfl) (fun _ _ _ h => h) (Or.inl ⟨by kernel_rfl, fun w hSw => by go_simp⟩) hS ?_)
    (try simp only [Act.put])
    refine wpAnyH_ready (rs := [1]) (by decide +kernel) (by simp) (AllReadyH.cons rfl (fun K hK => ?_) AllReadyH.nil)
    go_simp
    (go_at_call 8; (with_reducible refine (HY1.out _ hS).mono ?_); rintro e u1 ⟨A1, c1, rfl, _, _, hsee, hb⟩)
    have HV1 := Lib.hid hsee
    clear hsee
    refine hK.out _ _ (hS.trans (hb.mono hS.size)) (fun hS => ?_)
    clear hK K
    (try simp only [Act.put])
    clear hb
    refine wpAnyH_ready (rs := [2, 4]) (by decide +kernel) (by simp) (AllReadyH.cons rfl (fun K hK => ?_) (AllReadyH.cons rfl (fun K hK => ?_) AllReadyH.nil))
    · have hcv2 := convert_sees (P := Tryd.prog) 30 5 9 Tryd.underlying30 Tryd.underlying5 Tryd.underlying9 HV1.out c1
      go_simp
      refine hK.out _ _ (hS) (fun hS => ?_)
      clear hK K
      (try simp only [Act.put])
      refine wpAnyH_ready (rs := [4]) (by decide +kernel) (by simp) (AllReadyH.cons rfl (fun K hK => ?_) AllReadyH.nil)
      go_simp
      (go_at_call 8; (with_reducible refine (HY2.out _ hS).mono ?_); rintro e u4 ⟨A4, c4, rfl, _, _, hsee, hb⟩)
      have HV4 := Lib.hid hsee
      clear hsee
      refine hK.out _ _ (hS.trans (hb.mono hS.size)) (fun hS => ?_)
      clear hK K
      (try simp only [Act.put])
      clear hb
      refine wpAnyH_ready (rs := [5]) (by decide +kernel) (by simp) (AllReadyH.cons rfl (fun K hK => ?_) AllReadyH.nil)
      have hcv5 := convert_sees (P := Tryd.prog) 30 5 9 Tryd.underlying30 Tryd.underlying5 Tryd.underlying9 HV4.out c4
      go_simp
      refine hK.out _ _ (hS) (fun hS => ?_)
      clear hK K
      (try simp only [Act.put])
      (refine wpAnyH_take (i := 6) (v := .bool true) rfl (by kernel_rfl) (by kernel_rfl) (by kernel_rfl) (fun _ _ _ h => h) (Or.inl ⟨by kernel_rfl, fun w hSw => by have hc := HN.out; go_simp⟩) hS ?_)
      (try simp only [Act.put])
      (refine wpAnyH_take (i := 8) (v := .bool true) rfl (by kernel_rfl) (by kernel_rfl) (by kernel_rfl) (fun _ _ _ h => h) (Or.inl ⟨by kernel_rfl, fun w hSw => by go_simp⟩) hS ?_)
      (try simp only [Act.put])
      (refine wpAnyH_take (i := 9) (v := .bool true) rfl (by kernel_rfl) (by kernel_rfl) (by kernel_rfl) (fun _ _ _ h => h) (Or.inl ⟨by kernel_rfl, fun w hSw => by go_simp⟩) hS ?_)
      (try simp only [Act.put])
      (refine wpAnyH_take (i := 10) (v := .bool true) rfl (by kernel_rfl) (by kernel_rfl) (by kernel_rfl) (fun _ _ _ h => h) (Or.inl ⟨by kernel_rfl, fun w hSw => by go_simp⟩) hS ?_)
      (try simp only [Act.put])
      (refine wpAnyH_take (i := 11) (v := .bool false) rfl (by kernel_rfl) (by kernel_rfl) (by kernel_rfl) (fun _ _ _ h => h) (Or.inl ⟨by kernel_rfl, fun w hSw => by go_simp⟩) hS ?_)
      (try simp only [Act.put])
      (refine wpAnyH_take (i := 12) (v := .bool false) rfl (by kernel_rfl) (by kernel_rfl) (by kernel_rfl) (fun _ _ _ h => h) (Or.inl ⟨by kernel_rfl, fun w hSw => by go_simp⟩) hS ?_)
      (try simp only [Act.put])
      (refine wpAnyH_take (i := 13) (v := .agg x.cells.toArray) rfl (by kernel_rfl) (by kernel_rfl) (by kernel_rfl) (fun _ _ _ h => h) (yieldsIf_load_mid (by kernel_rfl) 26 (.tmp 2) rfl w.heap.size (0) (by kernel_rfl) (x.cells) _ (fun w h => HSX.out w h) hu3 rfl HZX) hS ?_)
      (try simp only [Act.put])
      (refine wpAnyH_take (i := 15) (v := .agg y.cells.toArray) rfl (by kernel_rfl) (by kernel_rfl) (by kernel_rfl) (fun _ _ _ h => h) (yieldsIf_load_mid (by kernel_rfl) 26 (.tmp 3) rfl (w.heap.size + 1) (0) (by kernel_rfl) (y.cells) _ (fun w h => HSY.out w h) hu3 rfl HZY) hS ?_)
      (try simp only [Act.put])
      refine wpAnyH_ready (rs := [14]) (by decide +kernel) (by simp) (AllReadyH.cons rfl (fun K hK => ?_) AllReadyH.nil)
      go_simp
      (go_at_call 9; (with_reducible refine (HD1.out _ hS).mono ?_); rintro e u14 ⟨rfl, hb⟩)
      refine hK.out _ _ (hS.trans (hb.mono hS.size)) (fun hS => ?_)
      clear hK K
      (try simp only [Act.put])
      clear hb
      refine wpAnyH_ready (rs := [16]) (by decide +kernel) (by simp) (AllReadyH.cons rfl (fun K hK => ?_) AllReadyH.nil)
      go_simp
      (go_at_call 9; (with_reducible refine (HD2.out _ hS).mono ?_); rintro e u16 ⟨rfl, hb⟩)
      refine hK.out _ _ (hS.trans (hb.mono hS.size)) (fun hS => ?_)
      clear hK K
      (try simp only [Act.put])
      clear hb
      refine wpAnyH_ready (rs := [17]) (by decide +kernel) (by simp) (AllReadyH.cons rfl (fun K hK => ?_) AllReadyH.nil)
      rw [if_pos (by kernel_rfl)]
      refine step_eq_dig_if (.tmp 43) (.tmp 45) rfl pk2 pk2 rfl rfl HPL.out HPL.out ?_
      rw [decide_eq_true (rfl : pk2 = pk2)]
      simp only [Act.put]
      refine hK.out _ _ (hS) (fun hS => ?_)
      clear hK K
      (try simp only [Act.put])
      (refine wpAnyH_take (i := 18) (v := .bool true) rfl (by kernel_rfl) (by kernel_rfl) (by kernel_rfl) (fun _ _ _ h => h) (Or.inl ⟨by kernel_rfl, fun w hSw => by go_simp⟩) hS ?_)
      (try simp only [Act.put])
      (refine wpAnyH_take (i := 19) (v := .bool true) rfl (by kernel_rfl) (by kernel_rfl) (by kernel_rfl) (fun _ _ _ h => h) (Or.inl ⟨by kernel_rfl, fun w hSw => by go_simp⟩) hS ?_)
      (try simp only [Act.put])
      refine wpAnyH_ready (rs := [20]) (by decide +kernel) (by simp) (AllReadyH.cons rfl (fun K hK => ?_) AllReadyH.nil)
      go_simp
      refine hK.out _ _ (hS) (fun hS => ?_)
      clear hK K
      (try simp only [Act.put])
      refine wpAnyH_done (by kernel_rfl) ?_ _
      have HFG := Lib.hid (HF.out.trans ((HT.out _ hS).mono HF.out.size))
      clear hS
      go_wp2
      go_ret
      exact ⟨rfl, HFG.out⟩
    · go_simp
      (go_at_call 8; (with_reducible refine (HY2.out _ hS).mono ?_); rintro e u4 ⟨A4, c4, rfl, _, _, hsee, hb⟩)
      have HV4 := Lib.hid hsee
      clear hsee
      have HV1 := Lib.hid ((HV1.out.below hb).more hb.size)
      refine hK.out _ _ (hS.trans (hb.mono hS.size)) (fun hS => ?_)
      clear hK K
      (try simp only [Act.put])
      clear hb
      refine wpAnyH_ready (rs := [2, 5]) (by decide +kernel) (by simp) (AllReadyH.cons rfl (fun K hK => ?_) (AllReadyH.cons rfl (fun K hK => ?_) AllReadyH.nil))
      · have hcv2 := convert_sees (P := Tryd.prog) 30 5 9 Tryd.underlying30 Tryd.underlying5 Tryd.underlying9 HV1.out c1
        go_simp
        refine hK.out _ _ (hS) (fun hS => ?_)
        clear hK K
        (try simp only [Act.put])
        refine wpAnyH_ready (rs := [5]) (by decide +kernel) (by simp) (AllReadyH.cons rfl (fun K hK => ?_) AllReadyH.nil)
        have hcv5 := convert_sees (P := Tryd.prog) 30 5 9 Tryd.underlying30 Tryd.underlying5 Tryd.underlying9 HV4.out c4
        go_simp
        refine hK.out _ _ (hS) (fun hS => ?_)
        clear hK K
        (try simp only [Act.put])
        (refine wpAnyH_take (i := 6) (v := .bool true) rfl (by kernel_rfl) (by kernel_rfl) (by kernel_rfl) (fun _ _ _ h => h) (Or.inl ⟨by kernel_rfl, fun w hSw => by have hc := HN.out; go_simp⟩) hS ?_)
        (try simp only [Act.put])
        (refine wpAnyH_take (i := 8) (v := .bool true) rfl (by kernel_rfl) (by kernel_rfl) (by kernel_rfl) (fun _ _ _ h => h) (Or.inl ⟨by kernel_rfl, fun w hSw => by go_simp⟩) hS ?_)
        (try simp only [Act.put])
        (refine wpAnyH_take (i := 9) (v := .bool true) rfl (by kernel_rfl) (by kernel_rfl) (by kernel_rfl) (fun _ _ _ h => h) (Or.inl ⟨by kernel_rfl, fun w hSw => by go_simp⟩) hS ?_)
        (try simp only [Act.put])
        (refine wpAnyH_take (i := 10) (v := .bool true) rfl (by kernel_rfl) (by kernel_rfl) (by kernel_rfl) (fun _ _ _ h => h) (Or.inl ⟨by kernel_rfl, fun w hSw => by go_simp⟩) hS ?_)
        (try simp only [Act.put])
        (refine wpAnyH_take (i := 11) (v := .bool false) rfl (by kernel_rfl) (by kernel_rfl) (by kernel_rfl) (fun _ _ _ h => h) (Or.inl ⟨by kernel_rfl, fun w hSw => by go_simp⟩) hS ?_)
        (try simp only [Act.put])
        (refine wpAnyH_take (i := 12) (v := .bool false) rfl (by kernel_rfl) (by kernel_rfl) (by kernel_rfl) (fun _ _ _ h => h) (Or.inl ⟨by kernel_rfl, fun w hSw => by go_simp⟩) hS ?_)
        (try simp only [Act.put])
        (refine wpAnyH_take (i := 13) (v := .agg x.cells.toArray) rfl (by kernel_rfl) (by kernel_rfl) (by kernel_rfl) (fun _ _ _ h => h) (yieldsIf_load_mid (by kernel_rfl) 26 (.tmp 2) rfl w.heap.size (0) (by kernel_rfl) (x.cells) _ (fun w h => HSX.out w h) hu3 rfl HZX) hS ?_)
        (try simp only [Act.put])
        (refine wpAnyH_take (i := 15) (v := .agg y.cells.toArray) rfl (by kernel_rfl) (by kernel_rfl) (by kernel_rfl) (fun _ _ _ h => h) (yieldsIf_load_mid (by kernel_rfl) 26 (.tmp 3) rfl (w.heap.size + 1) (0) (by kernel_rfl) (y.cells) _ (fun w h => HSY.out w h) hu3 rfl HZY) hS ?_)
        (try simp only [Act.put])
        refine wpAnyH_ready (rs := [14]) (by decide +kernel) (by simp) (AllReadyH.cons rfl (fun K hK => ?_) AllReadyH.nil)
        go_simp
        (go_at_call 9; (with_reducible refine (HD1.out _ hS).mono ?_); rintro e u14 ⟨rfl, hb⟩)
        refine hK.out _ _ (hS.trans (hb.mono hS.size)) (fun hS => ?_)
        clear hK K
        (try simp only [Act.put])
        clear hb
        refine wpAnyH_ready (rs := [16]) (by decide +kernel) (by simp) (AllReadyH.cons rfl (fun K hK => ?_) AllReadyH.nil)
        go_simp
        (go_at_call 9; (with_reducible refine (HD2.out _ hS).mono ?_); rintro e u16 ⟨rfl, hb⟩)
        refine hK.out _ _ (hS.trans (hb.mono hS.size)) (fun hS => ?_)
        clear hK K
        (try simp only [Act.put])
        clear hb
        refine wpAnyH_ready (rs := [17]) (by decide +kernel) (by simp) (AllReadyH.cons rfl (fun K hK => ?_) AllReadyH.nil)
        rw [if_pos (by kernel_rfl)]
        refine step_eq_dig_if (.tmp 43) (.tmp 45) rfl pk2 pk2 rfl rfl HPL.out HPL.out ?_
        rw [decide_eq_true (rfl : pk2 = pk2)]
        simp only [Act.put]
        refine hK.out _ _ (hS) (fun hS => ?_)
        clear hK K
        (try simp only [Act.put])
        (refine wpAnyH_take (i := 18) (v := .bool true) rfl (by kernel_rfl) (by kernel_rfl) (by kernel_rfl) (fun _ _ _ h => h) (Or.inl ⟨by kernel_rfl, fun w hSw => by go_simp⟩) hS ?_)
        (try simp only [Act.put])
        (refine wpAnyH_take (i := 19) (v := .bool true) rfl (by kernel_rfl) (by kernel_rfl) (by kernel_rfl) (fun _ _ _ h => h) (Or.inl ⟨by kernel_rfl, fun w hSw => by go_simp⟩) hS ?_)
        (try simp only [Act.put])
        refine wpAnyH_ready (rs := [20]) (by decide +kernel) (by simp) (AllReadyH.cons rfl (fun K hK => ?_) AllReadyH.nil)
        go_simp
        refine hK.out _ _ (hS) (fun hS => ?_)
        clear hK K
        (try simp only [Act.put])
        refine wpAnyH_done (by kernel_rfl) ?_ _
        have HFG := Lib.hid (HF.out.trans ((HT.out _ hS).mono HF.out.size))
        clear hS
        go_wp2
        go_ret
        exact ⟨rfl, HFG.out⟩
      · have hcv5 := convert_sees (P := Tryd.prog) 30 5 9 Tryd.underlying30 Tryd.underlying5 Tryd.underlying9 HV4.out c4
        go_simp
        refine hK.out _ _ (hS) (fun hS => ?_)
        clear hK K
        (try simp only [Act.put])
        refine wpAnyH_ready (rs := [2]) (by decide +kernel) (by simp) (AllReadyH.cons rfl (fun K hK => ?_) AllReadyH.nil)
        have hcv2 := convert_sees (P := Tryd.prog) 30 5 9 Tryd.underlying30 Tryd.underlying5 Tryd.underlying9 HV1.out c1
        go_simp
        refine hK.out _ _ (hS) (fun hS => ?_)
        clear hK K
        (try simp only [Act.put])
        (refine wpAnyH_take (i := 6) (v := .bool true) rfl (by kernel_rfl) (by kernel_rfl) (by kernel_rfl) (fun _ _ _ h => h) (Or.inl ⟨by kernel_rfl, fun w hSw => by have hc := HN.out; go_simp⟩) hS ?_)
        (try simp only [Act.put])
        (refine wpAnyH_take (i := 8) (v := .bool true) rfl (by kernel_rfl) (by kernel_rfl) (by kernel_rfl) (fun _ _ _ h => h) (Or.inl ⟨by kernel_rfl, fun w hSw => by go_simp⟩) hS ?_)
        (try simp only [Act.put])
        (refine wpAnyH_take (i := 9) (v := .bool true) rfl (by kernel_rfl) (by kernel_rfl) (by kernel_rfl) (fun _ _ _ h => h) (Or.inl ⟨by kernel_rfl, fun w hSw => by go_simp⟩) hS ?_)
        (try simp only [Act.put])
        (refine wpAnyH_take (i := 10) (v := .bool true) rfl (by kernel_rfl) (by kernel_rfl) (by kernel_rfl) (fun _ _ _ h => h) (Or.inl ⟨by kernel_rfl, fun w hSw => by go_simp⟩) hS ?_)
        (try simp only [Act.put])
        (refine wpAnyH_take (i := 11) (v := .bool false) rfl (by kernel_rfl) (by kernel_rfl) (by kernel_rfl) (fun _ _ _ h => h) (Or.inl ⟨by kernel_rfl, fun w hSw => by go_simp⟩) hS ?_)
        (try simp only [Act.put])
        (refine wpAnyH_take (i := 12) (v := .bool false) rfl (by kernel_rfl) (by kernel_rfl) (by kernel_rfl) (fun _ _ _ h => h) (Or.inl ⟨by kernel_rfl, fun w hSw => by go_simp⟩) hS ?_)
        (try simp only [Act.put])
        (refine wpAnyH_take (i := 13) (v := .agg x.cells.toArray) rfl (by kernel_rfl) (by kernel_rfl) (by kernel_rfl) (fun _ _ _ h => h) (yieldsIf_load_mid (by kernel_rfl) 26 (.tmp 2) rfl w.heap.size (0) (by kernel_rfl) (x.cells) _ (fun w h => HSX.out w h) hu3 rfl HZX) hS ?_)
        (try simp only [Act.put])
        (refine wpAnyH_take (i := 15) (v := .agg y.cells.toArray) rfl (by kernel_rfl) (by kernel_rfl) (by kernel_rfl) (fun _ _ _ h => h) (yieldsIf_load_mid (by kernel_rfl) 26 (.tmp 3) rfl (w.heap.size + 1) (0) (by kernel_rfl) (y.cells) _ (fun w h => HSY.out w h) hu3 rfl HZY) hS ?_)
        (try simp only [Act.put])
        refine wpAnyH_ready (rs := [14]) (by decide +kernel) (by simp) (AllReadyH.cons rfl (fun K hK => ?_) AllReadyH.nil)
        go_simp
        (go_at_call 9; (with_reducible refine (HD1.out _ hS).mono ?_); rintro e u14 ⟨rfl, hb⟩)
        refine hK.out _ _ (hS.trans (hb.mono hS.size)) (fun hS => ?_)
        clear hK K
        (try simp only [Act.put])
        clear hb
        refine wpAnyH_ready (rs := [16]) (by decide +kernel) (by simp) (AllReadyH.cons rfl (fun K hK => ?_) AllReadyH.nil)
        go_simp
        (go_at_call 9; (with_reducible refine (HD2.out _ hS).mono ?_); rintro e u16 ⟨rfl, hb⟩)
        refine hK.out _ _ (hS.trans (hb.mono hS.size)) (fun hS => ?_)
        clear hK K
        (try simp only [Act.put])
        clear hb
        refine wpAnyH_ready (rs := [17]) (by decide +kernel) (by simp) (AllReadyH.cons rfl (fun K hK => ?_) AllReadyH.nil)
        rw [if_pos (by kernel_rfl)]
        refine step_eq_dig_if (.tmp 43) (.tmp 45) rfl pk2 pk2 rfl rfl HPL.out HPL.out ?_
        rw [decide_eq_true (rfl : pk2 = pk2)]
        simp only [Act.put]
        refine hK.out _ _ (hS) (fun hS => ?_)
        clear hK K
        (try simp only [Act.put])
        (refine wpAnyH_take (i := 18) (v := .bool true) rfl (by kernel_rfl) (by kernel_rfl) (by kernel_rfl) (fun _ _ _ h => h) (Or.inl ⟨by kernel_rfl, fun w hSw => by go_simp⟩) hS ?_)
        (try simp only [Act.put])
        (refine wpAnyH_take (i := 19) (v := .bool true) rfl (by kernel_rfl) (by kernel_rfl) (by kernel_rfl) (fun _ _ _ h => h) (Or.inl ⟨by kernel_rfl, fun w hSw => by go_simp⟩) hS ?_)
        (try simp only [Act.put])
        refine wpAnyH_ready (rs := [20]) (by decide +kernel) (by simp) (AllReadyH.cons rfl (fun K hK => ?_) AllReadyH.nil)
        go_simp
        refine hK.out _ _ (hS) (fun hS => ?_)
        clear hK K
        (try simp only [Act.put])
        refine wpAnyH_done (by kernel_rfl) ?_ _
        have HFG := Lib.hid (HF.out.trans ((HT.out _ hS).mono HF.out.size))
        clear hS
        go_wp2
        go_ret
        exact ⟨rfl, HFG.out⟩

end Go.Proofs.YtjloeaggcpbciaaDoor
