/-
  RequestParts: the walk.
-/
import Derived.Test.YtoamcdbemhbphaaDoorRqDgt
import Derived.Test.YtoamcdbemhbphaaDoorRqAlive
import Derived.Test.YtoamcdbemhbphaaDoorOSame
import Derived.Deep.RegionHeld3
namespace Go.Proofs.YtoamcdbemhbphaaDoor
open Go.RowKit

attribute [local go_sem ↓] ldReq_def stReq_def bdReq_def eqReq_def

/-! ### Two writers side by side -/
set_option maxRecDepth 100000 in
theorem Wr.other9d {w w' : World} {base a r : Nat} {bs : List UInt8} {cs : Array Value} (h : Wr w base a bs) (hr : Box w r 37 cs) (hne : a ≠ r) (hg : w.grownBy w' (some r)) : Wr w' base a bs := by
  obtain ⟨hb, hs, v, hx, ho⟩ := h
  exact ⟨hb, Nat.le_trans hs hg.size, v, hx.grown hg (fun e => hne (by injection e)), World.ownsRow.kept ho hg (.inr (Box.own_ne hr ho (by decide)))⟩
set_option maxRecDepth 100000 in
theorem WF.grown9d {w w' : World} {a : Nat} (hf : WF a w w') (hx : Box w a 37 #[.slice none 0 0]) : w.grownBy w' (some a) :=
  ⟨hf.os, hf.tape, hf.output, hf.size, fun k hk hne => hf.block k hk (by
    rintro (rfl | ⟨v, hv, ho⟩)
    · exact hne rfl
    · have e := hx.cell 0
      simp only [List.getElem?_toArray, List.getElem?_cons_zero] at e
      rw [e] at hv
      injection hv with hv
      subst hv
      simp [Value.ownBlock] at ho)⟩

set_option maxRecDepth 100000 in
theorem parts_small {x : ReqX} (hI : R64 x.client ∧ R64 x.num ∧ R64 x.kind ∧ R64 x.ck ∧ R64 x.cid ∧ R64 x.cn ∧ R64 x.high) (h : reqLong x = false) : x.Wf ∧ x.key.size ≤ 4096 ∧ x.val.size ≤ 4096 ∧ x.old.size ≤ 4096 ∧ (reqB x).length ≤ 12500 := by
  unfold reqLong at h
  simp only [Bool.or_eq_false_iff, decide_eq_false_iff_not] at h
  obtain ⟨h1, h2, h3⟩ := h
  obtain ⟨i1, i2, i3, i4, i5, i6, i7⟩ := hI
  refine ⟨⟨i1, i2, i3, i4, i5, i6, i7, by omega, by omega, by omega⟩, by omega, by omega, by omega, ?_⟩
  unfold reqB
  simp only [List.length_append, numBytes_len, textBytes_len, x.len]
  omega

set_option maxRecDepth 100000 in
set_option maxHeartbeats 4000000 in
theorem parts_walk (x : ReqX) (hI : R64 x.client ∧ R64 x.num ∧ R64 x.kind ∧ R64 x.ck ∧ R64 x.cid ∧ R64 x.cn ∧ R64 x.high) (y : ReqX) (hJ : R64 y.client ∧ R64 y.num ∧ R64 y.kind ∧ R64 y.ck ∧ R64 y.cid ∧ R64 y.cn ∧ R64 y.high) (w : World) (hR : Roots w) :
    Calls Tryd.prog 3 #[.agg x.cells.toArray, .agg y.cells.toArray] w fun e w' => e = .returned (.bool true) ∧ Below w.heap.size w w' := by
  obtain ⟨w2, hw2⟩ : ∃ w2, w2 = (w.alloc (.cells x.cells.toArray 31)).alloc (.cells y.cells.toArray 31) := ⟨_, rfl⟩
  have HX : Hid (Box w2 w.heap.size 31 x.cells.toArray) := by rw [hw2]; exact (Box.made w _ _).alloc _
  have HY : Hid (Box w2 (w.heap.size + 1) 31 y.cells.toArray) := by rw [hw2]; exact Box.made_at (by simp) _ _
  have HF : Hid (Below w.heap.size w w2) := by rw [hw2]; exact ((Below.refl _ _).alloc (Nat.le_refl _) _).alloc (by simp) _
  have HAL := Lib.hid (alive_any9 w2)
  have HR2 : Hid (∀ w', Below w2.heap.size w2 w' → Roots w') := Lib.hid (fun w' hb => hR.of_below (HF.out.trans (hb.mono HF.out.size)))
  have HLX : Hid (∀ w', Below w2.heap.size w2 w' → (ldReq (.pointer (some ⟨w.heap.size, 0, none⟩))).run Tryd.prog w' = .ok (.agg x.cells.toArray) w') := Lib.hid (fun w' hb => (HX.out.below hb HX.out.lt).ld_req)
  have HLY : Hid (∀ w', Below w2.heap.size w2 w' → (ldReq (.pointer (some ⟨w.heap.size + 1, 0, none⟩))).run Tryd.prog w' = .ok (.agg y.cells.toArray) w') := Lib.hid (fun w' hb => (HY.out.below hb HY.out.lt).ld_req)
  have HLA : Hid (∀ w', Calls Tryd.prog 5 #[.agg x.cells.toArray] w' fun e w'' => e = .returned (.bool (reqLong x)) ∧ Below w'.heap.size w' w'') := Lib.hid (fun w' => long_any9 x w')
  have HLB : Hid (∀ w', Calls Tryd.prog 5 #[.agg y.cells.toArray] w' fun e w'' => e = .returned (.bool (reqLong y)) ∧ Below w'.heap.size w' w'') := Lib.hid (fun w' => long_any9 y w')
  have HGA : Hid (reqLong x = false → x.Wf ∧ x.key.size ≤ 4096 ∧ x.val.size ≤ 4096 ∧ x.old.size ≤ 4096 ∧ (reqB x).length ≤ 12500) := Lib.hid (parts_small hI)
  have HGB : Hid (reqLong y = false → y.Wf ∧ y.key.size ≤ 4096 ∧ y.val.size ≤ 4096 ∧ y.old.size ≤ 4096 ∧ (reqB y).length ≤ 12500) := Lib.hid (parts_small hJ)
  clear hI hJ hR
  go_enter Tryd.func3, Tryd.ntmps3
  go_upto_region 1 with fail
  change Code.wp _ _ _ _ ((w.alloc (.cells x.cells.toArray 31)).alloc (.cells y.cells.toArray 31))
  rw [← hw2]
  clear hw2
  obtain ⟨lg, hlg⟩ : ∃ lg, reqLong x = lg := ⟨_, rfl⟩
  obtain ⟨lh, hlh⟩ : ∃ lh, reqLong y = lh := ⟨_, rfl⟩
  rw [hlg] at HLA HGA
  rw [hlh] at HLB HGB
  clear hlg hlh
  rcases lg with _ | _
  case true =>
    go_wp2_with (first
      | (go_at_call 4; (with_reducible refine (HAL.out).mono ?_); rintro e w3 ⟨rfl, hb⟩; have HB3 := Lib.hid hb; have l3 := HLX.out w3 hb; clear hb)
      | (go_at_call 5; (with_reducible refine (HLA.out _).mono ?_); rintro e w4 ⟨rfl, hb⟩; have HB4 := Lib.hid (HB3.out.trans (hb.mono HB3.out.size)); have l4 := HLY.out w4 HB4.out; clear hb))
    go_ret
    exact ⟨rfl, HF.out.trans (HB4.out.mono HF.out.size)⟩
  rcases lh with _ | _
  case true =>
    go_wp2_with (first
      | (go_at_call 4; (with_reducible refine (HAL.out).mono ?_); rintro e w3 ⟨rfl, hb⟩; have HB3 := Lib.hid hb; have l3 := HLX.out w3 hb; clear hb)
      | (go_at_call 5; (with_reducible refine (HLA.out _).mono ?_); rintro e w4 ⟨rfl, hb⟩; have HB4 := Lib.hid (HB3.out.trans (hb.mono HB3.out.size)); have l4 := HLY.out w4 HB4.out; clear hb)
      | (go_at_call 5; (with_reducible refine (HLB.out _).mono ?_); rintro e w5 ⟨rfl, hb⟩; have HB5 := Lib.hid (HB4.out.trans (hb.mono HB4.out.size)); clear hb))
    go_ret
    exact ⟨rfl, HF.out.trans (HB5.out.mono HF.out.size)⟩
  have HG1 := Lib.hid (HGA.out rfl)
  have HG2 := Lib.hid (HGB.out rfl)
  clear HGA HGB
  go_upto_region 5 with (first
    | (go_at_call 4; (with_reducible refine (HAL.out).mono ?_); rintro e w3 ⟨rfl, hb⟩; have HB3 := Lib.hid hb; have l3 := HLX.out w3 hb; clear hb)
    | (go_at_call 5; (with_reducible refine (HLA.out _).mono ?_); rintro e w4 ⟨rfl, hb⟩; have HB4 := Lib.hid (HB3.out.trans (hb.mono HB3.out.size)); have l4 := HLY.out w4 HB4.out; clear hb)
    | (go_at_call 5; (with_reducible refine (HLB.out _).mono ?_); rintro e w5 ⟨rfl, hb⟩; have HB5 := Lib.hid (HB4.out.trans (hb.mono HB4.out.size)); clear hb))
  clear HLA HLB HAL HB3 HB4 l3 l4
  have HSZ : Hid (w2.heap.size ≤ w5.heap.size) := HB5.out.size
  have HX1 : Hid (Box ((w5.alloc (.cells #[.slice none 0 0] 37)).alloc (.cells #[.slice none 0 0] 37)) w5.heap.size 37 #[.slice none 0 0]) := (Box.made w5 _ _).alloc _
  have HX2 : Hid (Box ((w5.alloc (.cells #[.slice none 0 0] 37)).alloc (.cells #[.slice none 0 0] 37)) (w5.heap.size + 1) 37 #[.slice none 0 0]) := Box.made_at (by simp) _ _
  have HB6 : Hid (Below w2.heap.size w2 ((w5.alloc (.cells #[.slice none 0 0] 37)).alloc (.cells #[.slice none 0 0] 37))) := (HB5.out.alloc HSZ.out _).alloc (by have := HSZ.out; simp; omega) _
  clear HB5
  go_upto_region 6 with fail
  generalize (w5.alloc (.cells #[.slice none 0 0] 37)).alloc (.cells #[.slice none 0 0] 37) = w6 at *
  generalize w5.heap.size = a1 at *
  have l6 := HLX.out w6 HB6.out
  have HR1 : Hid (Wr w6 a1 a1 []) := wr_new HX1.out (Nat.le_refl _)
  have HC6 : Hid (Calls Tryd.prog 6 #[.pointer (some ⟨a1, 0, none⟩), .agg x.cells.toArray] w6 fun e w' => e = .returned (.tuple #[]) ∧ Wr w' a1 a1 (reqB x) ∧ WF a1 w6 w') := Lib.hid (by obtain ⟨_, k1, k2, k3, _⟩ := HG1.out; exact write_any9 a1 a1 [] x w6 HR1.out (by simp) (by omega) (by omega) (by omega))
  go_upto_region 7 with (go_at_call 6; (with_reducible refine (HC6.out).mono ?_); rintro e w7 ⟨rfl, hw, hf⟩; have HB7 : Hid (Below w2.heap.size w2 w7) := Lib.hid (HB6.out.trans ((hf.below HR1.out).mono HSZ.out)); have HG67 := Lib.hid (hf.grown9d HX1.out); have HR7 := Lib.hid hw; clear hw hf)
  have HX27 : Hid (Box w7 (a1 + 1) 37 #[.slice none 0 0]) := HX2.out.grown HG67.out (by simp)
  have HR22 : Hid (Wr w7 (a1 + 1) (a1 + 1) []) := wr_new HX27.out (Nat.le_refl _)
  have l7 := HLY.out w7 HB7.out
  have HC7 : Hid (Calls Tryd.prog 6 #[.pointer (some ⟨a1 + 1, 0, none⟩), .agg y.cells.toArray] w7 fun e w' => e = .returned (.tuple #[]) ∧ Wr w' (a1 + 1) (a1 + 1) (reqB y) ∧ WF (a1 + 1) w7 w') := Lib.hid (by obtain ⟨_, k1, k2, k3, _⟩ := HG2.out; exact write_any9 (a1 + 1) (a1 + 1) [] y w7 HR22.out (by simp) (by omega) (by omega) (by omega))
  clear HC6 HG67 HX1 HX2 HR1 l6 HB6
  go_upto_region 8 with (go_at_call 6; (with_reducible refine (HC7.out).mono ?_); rintro e w8 ⟨rfl, hw, hf⟩; have HB8 : Hid (Below w2.heap.size w2 w8) := Lib.hid (HB7.out.trans ((hf.below HR22.out).mono (by have := HSZ.out; omega))); have HR82 := Lib.hid hw; have HR81 := Lib.hid (HR7.out.other9d HX27.out (by omega) (hf.grown9d HX27.out)); clear hw hf)
  clear HC7 HX27 HR22 HR7 l7 HB7 HLX HLY
  have HB8d : Hid (Below w8.heap.size w8 w8.drew) := (Below.refl _ _).drew
  have HT : Hid (∀ w', Below w8.heap.size w8 w' → Below w2.heap.size w2 w') := Lib.hid (fun w' hb => HB8.out.trans (hb.mono HB8.out.size))
  have HSX : Hid (∀ w', Below w8.heap.size w8 w' → w'.rangeAt w.heap.size 0 x.cells) := Lib.hid (fun w' hb => Box.range (HX.out.below (HT.out w' hb) HX.out.lt))
  have HSY : Hid (∀ w', Below w8.heap.size w8 w' → w'.rangeAt (w.heap.size + 1) 0 y.cells) := Lib.hid (fun w' hb => Box.range (HY.out.below (HT.out w' hb) HY.out.lt))
  have HY1 : Hid (∀ w', Below w8.heap.size w8 w' → Calls Tryd.prog 7 #[.pointer (some ⟨a1, 0, none⟩)] w' (BytesIs w' (reqB x))) := Lib.hid (fun w' hb => bytes_any a1 a1 (reqB x) w' (HR81.out.below_size hb) (by have := HG1.out.2.2.2.2; omega))
  have HY2 : Hid (∀ w', Below w8.heap.size w8 w' → Calls Tryd.prog 7 #[.pointer (some ⟨a1 + 1, 0, none⟩)] w' (BytesIs w' (reqB y))) := Lib.hid (fun w' hb => bytes_any (a1 + 1) (a1 + 1) (reqB y) w' (HR82.out.below_size hb) (by have := HG2.out.2.2.2.2; omega))
  have HD1 : Hid (∀ w', Below w8.heap.size w8 w' → Calls Tryd.prog 8 #[.agg x.cells.toArray] w' fun e w'' => e = .returned (.agg ((reqD x).map bv).toArray) ∧ Below w'.heap.size w' w'') := Lib.hid (fun w' hb => by obtain ⟨_, k1, k2, k3, _⟩ := HG1.out; exact rqdgt_any x (by omega) (by omega) (by omega) w' (HR2.out w' (HT.out w' hb)))
  have HD2 : Hid (∀ w', Below w8.heap.size w8 w' → Calls Tryd.prog 8 #[.agg y.cells.toArray] w' fun e w'' => e = .returned (.agg ((reqD y).map bv).toArray) ∧ Below w'.heap.size w' w'') := Lib.hid (fun w' hb => by obtain ⟨_, k1, k2, k3, _⟩ := HG2.out; exact rqdgt_any y (by omega) (by omega) (by omega) w' (HR2.out w' (HT.out w' hb)))
  have HPL : Hid ((reqD x).length = 32) := Lib.hid (reqD_len x)
  have HE : Hid (reqB x = reqB y ↔ x = y) := Lib.hid (req_one HG1.out.1 HG2.out.1)
  have HED : Hid (x = y → reqD y = reqD x) := Lib.hid (fun e => by rw [e])
  have HEQ : Hid (∀ w, (eqReq (.agg x.cells.toArray) (.agg y.cells.toArray)).run Tryd.prog w = .ok (decide (x = y)) w) := Lib.hid (eq_req x y)
  generalize hB1 : reqB x = B1 at *
  generalize hB2 : reqB y = B2 at *
  generalize hP1 : reqD x = pk at *
  generalize hP2 : reqD y = pk2 at *
  have hu3 := Tryd.underlying31
  have HZX := x.size
  have HZY := y.size
  clear hB1 hB2 hP1 hP2 HG1 HG2 HR81 HR82 HX HY HB8 HR2
  refine wp_region_held_drew (S := fun w' => Below w8.heap.size w8 w') (by kernel_rfl) HB8d.out (fun hS => ?_)
  clear HB8d
  by_cases hxy : x = y
  rotate_left
  · have HN : Hid (¬ (B1 = B2)) := Lib.hid (fun e => hxy (HE.out.1 e))
    have HQ : Hid (∀ w, (eqReq (.agg x.cells.toArray) (.agg y.cells.toArray)).run Tryd.prog w = .ok false w) := Lib.hid (fun w => by rw [HEQ.out w, decide_eq_false hxy])
    clear HE HEQ HED hxy
    (refine wpAnyH_take (i := 0) (v := .pointer (some ⟨a1, 0, none⟩)) rfl (by kernel_rfl) (by kernel_rfl) (by kernel_rfl) (fun _ _ _ h => h) (Or.inl ⟨by kernel_rfl, fun w hSw => by go_simp⟩) hS ?_)
    (try simp only [Act.put])
    (refine wpAnyH_take (i := 3) (v := .pointer (some ⟨a1 + 1, 0, none⟩)) rfl (by kernel_rfl) (by kernel_rfl) (by kernel_rfl) (fun _ _ _ h => h) (Or.inl ⟨by kernel_rfl, fun w hSw => by go_simp⟩) hS ?_)
    (try simp only [Act.put])
    (refine wpAnyH_take (i := 7) (v := .agg x.cells.toArray) rfl (by kernel_rfl) (by kernel_rfl) (by kernel_rfl) (fun _ _ _ h => h) (yieldsIf_load_mid (by kernel_rfl) 31 (.tmp 2) rfl w.heap.size (0) (by kernel_rfl) (x.cells) _ (fun w h => HSX.out w h) hu3 rfl HZX) hS ?_)
    (try simp only [Act.put])
    (refine wpAnyH_take (i := 8) (v := .agg y.cells.toArray) rfl (by kernel_rfl) (by kernel_rfl) (by kernel_rfl) (fun _ _ _ h => h) (yieldsIf_load_mid (by kernel_rfl) 31 (.tmp 3) rfl (w.heap.size + 1) (0) (by kernel_rfl) (y.cells) _ (fun w h => HSY.out w h) hu3 rfl HZY) hS ?_)
    (try simp only [Act.put])
    (refine wpAnyH_take (i := 9) (v := .bool false) rfl (by kernel_rfl) (by kernel_rfl) (by kernel_rfl) (fun _ _ _ h => h) (Or.inl ⟨by kernel_rfl, fun w hSw => by have hc := HQ.out w; go_simp⟩) hS ?_)
    (try simp only [Act.put])
    refine wpAnyH_ready (rs := [1]) (by decide +kernel) (by simp) (AllReadyH.cons rfl (fun K hK => ?_) AllReadyH.nil)
    go_simp
    (go_at_call 7; (with_reducible refine (HY1.out _ hS).mono ?_); rintro e u1 ⟨A1, c1, rfl, _, _, hsee, hb⟩)
    have HV1 := Lib.hid hsee
    clear hsee
    refine hK.out _ _ (hS.trans (hb.mono hS.size)) (fun hS => ?_)
    clear hK K
    (try simp only [Act.put])
    clear hb
    refine wpAnyH_ready (rs := [2, 4]) (by decide +kernel) (by simp) (AllReadyH.cons rfl (fun K hK => ?_) (AllReadyH.cons rfl (fun K hK => ?_) AllReadyH.nil))
    · have hcv2 := convert_sees (P := Tryd.prog) 35 5 9 Tryd.underlying35 Tryd.underlying5 Tryd.underlying9 HV1.out c1
      go_simp
      refine hK.out _ _ (hS) (fun hS => ?_)
      clear hK K
      (try simp only [Act.put])
      refine wpAnyH_ready (rs := [4]) (by decide +kernel) (by simp) (AllReadyH.cons rfl (fun K hK => ?_) AllReadyH.nil)
      go_simp
      (go_at_call 7; (with_reducible refine (HY2.out _ hS).mono ?_); rintro e u4 ⟨A4, c4, rfl, _, _, hsee, hb⟩)
      have HV4 := Lib.hid hsee
      clear hsee
      refine hK.out _ _ (hS.trans (hb.mono hS.size)) (fun hS => ?_)
      clear hK K
      (try simp only [Act.put])
      clear hb
      refine wpAnyH_ready (rs := [5]) (by decide +kernel) (by simp) (AllReadyH.cons rfl (fun K hK => ?_) AllReadyH.nil)
      have hcv5 := convert_sees (P := Tryd.prog) 35 5 9 Tryd.underlying35 Tryd.underlying5 Tryd.underlying9 HV4.out c4
      go_simp
      refine hK.out _ _ (hS) (fun hS => ?_)
      clear hK K
      (try simp only [Act.put])
      (refine wpAnyH_take (i := 6) (v := .bool false) rfl (by kernel_rfl) (by kernel_rfl) (by kernel_rfl) (fun _ _ _ h => h) (Or.inl ⟨by kernel_rfl, fun w hSw => by have hc := HN.out; go_simp⟩) hS ?_)
      (try simp only [Act.put])
      (refine wpAnyH_take (i := 10) (v := .bool true) rfl (by kernel_rfl) (by kernel_rfl) (by kernel_rfl) (fun _ _ _ h => h) (Or.inl ⟨by kernel_rfl, fun w hSw => by go_simp⟩) hS ?_)
      (try simp only [Act.put])
      (refine wpAnyH_take (i := 11) (v := .bool true) rfl (by kernel_rfl) (by kernel_rfl) (by kernel_rfl) (fun _ _ _ h => h) (Or.inl ⟨by kernel_rfl, fun w hSw => by go_simp⟩) hS ?_)
      (try simp only [Act.put])
      (refine wpAnyH_take (i := 12) (v := .agg x.cells.toArray) rfl (by kernel_rfl) (by kernel_rfl) (by kernel_rfl) (fun _ _ _ h => h) (yieldsIf_load_mid (by kernel_rfl) 31 (.tmp 2) rfl w.heap.size (0) (by kernel_rfl) (x.cells) _ (fun w h => HSX.out w h) hu3 rfl HZX) hS ?_)
      (try simp only [Act.put])
      (refine wpAnyH_take (i := 13) (v := .agg y.cells.toArray) rfl (by kernel_rfl) (by kernel_rfl) (by kernel_rfl) (fun _ _ _ h => h) (yieldsIf_load_mid (by kernel_rfl) 31 (.tmp 3) rfl (w.heap.size + 1) (0) (by kernel_rfl) (y.cells) _ (fun w h => HSY.out w h) hu3 rfl HZY) hS ?_)
      (try simp only [Act.put])
      (refine wpAnyH_take (i := 14) (v := .bool true) rfl (by kernel_rfl) (by kernel_rfl) (by kernel_rfl) (fun _ _ _ h => h) (Or.inl ⟨by kernel_rfl, fun w hSw => by have hc := HQ.out w; go_simp⟩) hS ?_)
      (try simp only [Act.put])
      (refine wpAnyH_take (i := 15) (v := .bool true) rfl (by kernel_rfl) (by kernel_rfl) (by kernel_rfl) (fun _ _ _ h => h) (Or.inl ⟨by kernel_rfl, fun w hSw => by go_simp⟩) hS ?_)
      (try simp only [Act.put])
      (refine wpAnyH_take (i := 16) (v := undef) rfl (by kernel_rfl) (by kernel_rfl) (by kernel_rfl) (fun _ _ _ h => h) (Or.inr ⟨by kernel_rfl, rfl⟩) hS ?_)
      (try simp only [Act.put])
      (refine wpAnyH_take (i := 17) (v := undef) rfl (by kernel_rfl) (by kernel_rfl) (by kernel_rfl) (fun _ _ _ h => h) (Or.inr ⟨by kernel_rfl, rfl⟩) hS ?_)
      (try simp only [Act.put])
      (refine wpAnyH_take (i := 18) (v := undef) rfl (by kernel_rfl) (by kernel_rfl) (by kernel_rfl) (fun _ _ _ h => h) (Or.inr ⟨by kernel_rfl, rfl⟩) hS ?_)
      (try simp only [Act.put])
      (refine wpAnyH_take (i := 19) (v := undef) rfl (by kernel_rfl) (by kernel_rfl) (by kernel_rfl) (fun _ _ _ h => h) (Or.inr ⟨by kernel_rfl, rfl⟩) hS ?_)
      (try simp only [Act.put])
      (refine wpAnyH_take (i := 20) (v := undef) rfl (by kernel_rfl) (by kernel_rfl) (by kernel_rfl) (fun _ _ _ h => h) (Or.inr ⟨by kernel_rfl, rfl⟩) hS ?_)
      (try simp only [Act.put])
      (refine wpAnyH_take (i := 21) (v := .bool true) rfl (by kernel_rfl) (by kernel_rfl) (by kernel_rfl) (fun _ _ _ h => h) (Or.inl ⟨by kernel_rfl, fun w hSw => by go_simp⟩) hS ?_)
      (try simp only [Act.put])
      (refine wpAnyH_take (i := 22) (v := .bool true) rfl (by kernel_rfl) (by kernel_rfl) (by kernel_rfl) (fun _ _ _ h => h) (Or.inl ⟨by kernel_rfl, fun w hSw => by go_simp⟩) hS ?_)
      (try simp only [Act.put])
      refine wpAnyH_ready (rs := [23]) (by decide +kernel) (by simp) (AllReadyH.cons rfl (fun K hK => ?_) AllReadyH.nil)
      go_simp
      refine hK.out _ _ (hS) (fun hS => ?_)
      clear hK K
      (try simp only [Act.put])
      refine wpAnyH_done (by kernel_rfl) ?_ _
      have HFG := Lib.hid (HF.out.trans ((HT.out _ hS).mono HF.out.size))
      clear hS
      go_wp2
      go_ret
      exact ⟨rfl, HFG.out⟩
    · go_simp
      (go_at_call 7; (with_reducible refine (HY2.out _ hS).mono ?_); rintro e u4 ⟨A4, c4, rfl, _, _, hsee, hb⟩)
      have HV4 := Lib.hid hsee
      clear hsee
      have HV1 := Lib.hid ((HV1.out.below hb).more hb.size)
      refine hK.out _ _ (hS.trans (hb.mono hS.size)) (fun hS => ?_)
      clear hK K
      (try simp only [Act.put])
      clear hb
      refine wpAnyH_ready (rs := [2, 5]) (by decide +kernel) (by simp) (AllReadyH.cons rfl (fun K hK => ?_) (AllReadyH.cons rfl (fun K hK => ?_) AllReadyH.nil))
      · have hcv2 := convert_sees (P := Tryd.prog) 35 5 9 Tryd.underlying35 Tryd.underlying5 Tryd.underlying9 HV1.out c1
        go_simp
        refine hK.out _ _ (hS) (fun hS => ?_)
        clear hK K
        (try simp only [Act.put])
        refine wpAnyH_ready (rs := [5]) (by decide +kernel) (by simp) (AllReadyH.cons rfl (fun K hK => ?_) AllReadyH.nil)
        have hcv5 := convert_sees (P := Tryd.prog) 35 5 9 Tryd.underlying35 Tryd.underlying5 Tryd.underlying9 HV4.out c4
        go_simp
        refine hK.out _ _ (hS) (fun hS => ?_)
        clear hK K
        (try simp only [Act.put])
        (refine wpAnyH_take (i := 6) (v := .bool false) rfl (by kernel_rfl) (by kernel_rfl) (by kernel_rfl) (fun _ _ _ h => h) (Or.inl ⟨by kernel_rfl, fun w hSw => by have hc := HN.out; go_simp⟩) hS ?_)
        (try simp only [Act.put])
        (refine wpAnyH_take (i := 10) (v := .bool true) rfl (by kernel_rfl) (by kernel_rfl) (by kernel_rfl) (fun _ _ _ h => h) (Or.inl ⟨by kernel_rfl, fun w hSw => by go_simp⟩) hS ?_)
        (try simp only [Act.put])
        (refine wpAnyH_take (i := 11) (v := .bool true) rfl (by kernel_rfl) (by kernel_rfl) (by kernel_rfl) (fun _ _ _ h => h) (Or.inl ⟨by kernel_rfl, fun w hSw => by go_simp⟩) hS ?_)
        (try simp only [Act.put])
        (refine wpAnyH_take (i := 12) (v := .agg x.cells.toArray) rfl (by kernel_rfl) (by kernel_rfl) (by kernel_rfl) (fun _ _ _ h => h) (yieldsIf_load_mid (by kernel_rfl) 31 (.tmp 2) rfl w.heap.size (0) (by kernel_rfl) (x.cells) _ (fun w h => HSX.out w h) hu3 rfl HZX) hS ?_)
        (try simp only [Act.put])
        (refine wpAnyH_take (i := 13) (v := .agg y.cells.toArray) rfl (by kernel_rfl) (by kernel_rfl) (by kernel_rfl) (fun _ _ _ h => h) (yieldsIf_load_mid (by kernel_rfl) 31 (.tmp 3) rfl (w.heap.size + 1) (0) (by kernel_rfl) (y.cells) _ (fun w h => HSY.out w h) hu3 rfl HZY) hS ?_)
        (try simp only [Act.put])
        (refine wpAnyH_take (i := 14) (v := .bool true) rfl (by kernel_rfl) (by kernel_rfl) (by kernel_rfl) (fun _ _ _ h => h) (Or.inl ⟨by kernel_rfl, fun w hSw => by have hc := HQ.out w; go_simp⟩) hS ?_)
        (try simp only [Act.put])
        (refine wpAnyH_take (i := 15) (v := .bool true) rfl (by kernel_rfl) (by kernel_rfl) (by kernel_rfl) (fun _ _ _ h => h) (Or.inl ⟨by kernel_rfl, fun w hSw => by go_simp⟩) hS ?_)
        (try simp only [Act.put])
        (refine wpAnyH_take (i := 16) (v := undef) rfl (by kernel_rfl) (by kernel_rfl) (by kernel_rfl) (fun _ _ _ h => h) (Or.inr ⟨by kernel_rfl, rfl⟩) hS ?_)
        (try simp only [Act.put])
        (refine wpAnyH_take (i := 17) (v := undef) rfl (by kernel_rfl) (by kernel_rfl) (by kernel_rfl) (fun _ _ _ h => h) (Or.inr ⟨by kernel_rfl, rfl⟩) hS ?_)
        (try simp only [Act.put])
        (refine wpAnyH_take (i := 18) (v := undef) rfl (by kernel_rfl) (by kernel_rfl) (by kernel_rfl) (fun _ _ _ h => h) (Or.inr ⟨by kernel_rfl, rfl⟩) hS ?_)
        (try simp only [Act.put])
        (refine wpAnyH_take (i := 19) (v := undef) rfl (by kernel_rfl) (by kernel_rfl) (by kernel_rfl) (fun _ _ _ h => h) (Or.inr ⟨by kernel_rfl, rfl⟩) hS ?_)
        (try simp only [Act.put])
        (refine wpAnyH_take (i := 20) (v := undef) rfl (by kernel_rfl) (by kernel_rfl) (by kernel_rfl) (fun _ _ _ h => h) (Or.inr ⟨by kernel_rfl, rfl⟩) hS ?_)
        (try simp only [Act.put])
        (refine wpAnyH_take (i := 21) (v := .bool true) rfl (by kernel_rfl) (by kernel_rfl) (by kernel_rfl) (fun _ _ _ h => h) (Or.inl ⟨by kernel_rfl, fun w hSw => by go_simp⟩) hS ?_)
        (try simp only [Act.put])
        (refine wpAnyH_take (i := 22) (v := .bool true) rfl (by kernel_rfl) (by kernel_rfl) (by kernel_rfl) (fun _ _ _ h => h) (Or.inl ⟨by kernel_rfl, fun w hSw => by go_simp⟩) hS ?_)
        (try simp only [Act.put])
        refine wpAnyH_ready (rs := [23]) (by decide +kernel) (by simp) (AllReadyH.cons rfl (fun K hK => ?_) AllReadyH.nil)
        go_simp
        refine hK.out _ _ (hS) (fun hS => ?_)
        clear hK K
        (try simp only [Act.put])
        refine wpAnyH_done (by kernel_rfl) ?_ _
        have HFG := Lib.hid (HF.out.trans ((HT.out _ hS).mono HF.out.size))
        clear hS
        go_wp2
        go_ret
        exact ⟨rfl, HFG.out⟩
      · have hcv5 := convert_sees (P := Tryd.prog) 35 5 9 Tryd.underlying35 Tryd.underlying5 Tryd.underlying9 HV4.out c4
        go_simp
        refine hK.out _ _ (hS) (fun hS => ?_)
        clear hK K
        (try simp only [Act.put])
        refine wpAnyH_ready (rs := [2]) (by decide +kernel) (by simp) (AllReadyH.cons rfl (fun K hK => ?_) AllReadyH.nil)
        have hcv2 := convert_sees (P := Tryd.prog) 35 5 9 Tryd.underlying35 Tryd.underlying5 Tryd.underlying9 HV1.out c1
        go_simp
        refine hK.out _ _ (hS) (fun hS => ?_)
        clear hK K
        (try simp only [Act.put])
        (refine wpAnyH_take (i := 6) (v := .bool false) rfl (by kernel_rfl) (by kernel_rfl) (by kernel_rfl) (fun _ _ _ h => h) (Or.inl ⟨by kernel_rfl, fun w hSw => by have hc := HN.out; go_simp⟩) hS ?_)
        (try simp only [Act.put])
        (refine wpAnyH_take (i := 10) (v := .bool true) rfl (by kernel_rfl) (by kernel_rfl) (by kernel_rfl) (fun _ _ _ h => h) (Or.inl ⟨by kernel_rfl, fun w hSw => by go_simp⟩) hS ?_)
        (try simp only [Act.put])
        (refine wpAnyH_take (i := 11) (v := .bool true) rfl (by kernel_rfl) (by kernel_rfl) (by kernel_rfl) (fun _ _ _ h => h) (Or.inl ⟨by kernel_rfl, fun w hSw => by go_simp⟩) hS ?_)
        (try simp only [Act.put])
        (refine wpAnyH_take (i := 12) (v := .agg x.cells.toArray) rfl (by kernel_rfl) (by kernel_rfl) (by kernel_rfl) (fun _ _ _ h => h) (yieldsIf_load_mid (by kernel_rfl) 31 (.tmp 2) rfl w.heap.size (0) (by kernel_rfl) (x.cells) _ (fun w h => HSX.out w h) hu3 rfl HZX) hS ?_)
        (try simp only [Act.put])
        (refine wpAnyH_take (i := 13) (v := .agg y.cells.toArray) rfl (by kernel_rfl) (by kernel_rfl) (by kernel_rfl) (fun _ _ _ h => h) (yieldsIf_load_mid (by kernel_rfl) 31 (.tmp 3) rfl (w.heap.size + 1) (0) (by kernel_rfl) (y.cells) _ (fun w h => HSY.out w h) hu3 rfl HZY) hS ?_)
        (try simp only [Act.put])
        (refine wpAnyH_take (i := 14) (v := .bool true) rfl (by kernel_rfl) (by kernel_rfl) (by kernel_rfl) (fun _ _ _ h => h) (Or.inl ⟨by kernel_rfl, fun w hSw => by have hc := HQ.out w; go_simp⟩) hS ?_)
        (try simp only [Act.put])
        (refine wpAnyH_take (i := 15) (v := .bool true) rfl (by kernel_rfl) (by kernel_rfl) (by kernel_rfl) (fun _ _ _ h => h) (Or.inl ⟨by kernel_rfl, fun w hSw => by go_simp⟩) hS ?_)
        (try simp only [Act.put])
        (refine wpAnyH_take (i := 16) (v := undef) rfl (by kernel_rfl) (by kernel_rfl) (by kernel_rfl) (fun _ _ _ h => h) (Or.inr ⟨by kernel_rfl, rfl⟩) hS ?_)
        (try simp only [Act.put])
        (refine wpAnyH_take (i := 17) (v := undef) rfl (by kernel_rfl) (by kernel_rfl) (by kernel_rfl) (fun _ _ _ h => h) (Or.inr ⟨by kernel_rfl, rfl⟩) hS ?_)
        (try simp only [Act.put])
        (refine wpAnyH_take (i := 18) (v := undef) rfl (by kernel_rfl) (by kernel_rfl) (by kernel_rfl) (fun _ _ _ h => h) (Or.inr ⟨by kernel_rfl, rfl⟩) hS ?_)
        (try simp only [Act.put])
        (refine wpAnyH_take (i := 19) (v := undef) rfl (by kernel_rfl) (by kernel_rfl) (by kernel_rfl) (fun _ _ _ h => h) (Or.inr ⟨by kernel_rfl, rfl⟩) hS ?_)
        (try simp only [Act.put])
        (refine wpAnyH_take (i := 20) (v := undef) rfl (by kernel_rfl) (by kernel_rfl) (by kernel_rfl) (fun _ _ _ h => h) (Or.inr ⟨by kernel_rfl, rfl⟩) hS ?_)
        (try simp only [Act.put])
        (refine wpAnyH_take (i := 21) (v := .bool true) rfl (by kernel_rfl) (by kernel_rfl) (by kernel_rfl) (fun _ _ _ h => h) (Or.inl ⟨by kernel_rfl, fun w hSw => by go_simp⟩) hS ?_)
        (try simp only [Act.put])
        (refine wpAnyH_take (i := 22) (v := .bool true) rfl (by kernel_rfl) (by kernel_rfl) (by kernel_rfl) (fun _ _ _ h => h) (Or.inl ⟨by kernel_rfl, fun w hSw => by go_simp⟩) hS ?_)
        (try simp only [Act.put])
        refine wpAnyH_ready (rs := [23]) (by decide +kernel) (by simp) (AllReadyH.cons rfl (fun K hK => ?_) AllReadyH.nil)
        go_simp
        refine hK.out _ _ (hS) (fun hS => ?_)
        clear hK K
        (try simp only [Act.put])
        refine wpAnyH_done (by kernel_rfl) ?_ _
        have HFG := Lib.hid (HF.out.trans ((HT.out _ hS).mono HF.out.size))
        clear hS
        go_wp2
        go_ret
        exact ⟨rfl, HFG.out⟩

  · have HN : Hid (B1 = B2) := Lib.hid (HE.out.2 hxy)
    have HQ : Hid (∀ w, (eqReq (.agg x.cells.toArray) (.agg y.cells.toArray)).run Tryd.prog w = .ok true w) := Lib.hid (fun w => by rw [HEQ.out w, decide_eq_true hxy])
    obtain rfl : pk2 = pk := HED.out hxy
    clear HE HEQ HED hxy
    (refine wpAnyH_take (i := 0) (v := .pointer (some ⟨a1, 0, none⟩)) rfl (by kernel_rfl) (by kernel_rfl) (by kernel_rfl) (fun _ _ _ h => h) (Or.inl ⟨by kernel_rfl, fun w hSw => by go_simp⟩) hS ?_)
    (try simp only [Act.put])
    (refine wpAnyH_take (i := 3) (v := .pointer (some ⟨a1 + 1, 0, none⟩)) rfl (by kernel_rfl) (by kernel_rfl) (by kernel_rfl) (fun _ _ _ h => h) (Or.inl ⟨by kernel_rfl, fun w hSw => by go_simp⟩) hS ?_)
    (try simp only [Act.put])
    (refine wpAnyH_take (i := 7) (v := .agg x.cells.toArray) rfl (by kernel_rfl) (by kernel_rfl) (by kernel_rfl) (fun _ _ _ h => h) (yieldsIf_load_mid (by kernel_rfl) 31 (.tmp 2) rfl w.heap.size (0) (by kernel_rfl) (x.cells) _ (fun w h => HSX.out w h) hu3 rfl HZX) hS ?_)
    (try simp only [Act.put])
    (refine wpAnyH_take (i := 8) (v := .agg y.cells.toArray) rfl (by kernel_rfl) (by kernel_rfl) (by kernel_rfl) (fun _ _ _ h => h) (yieldsIf_load_mid (by kernel_rfl) 31 (.tmp 3) rfl (w.heap.size + 1) (0) (by kernel_rfl) (y.cells) _ (fun w h => HSY.out w h) hu3 rfl HZY) hS ?_)
    (try simp only [Act.put])
    (refine wpAnyH_take (i := 9) (v := .bool true) rfl (by kernel_rfl) (by kernel_rfl) (by kernel_rfl) (fun _ _ _ h => h) (Or.inl ⟨by kernel_rfl, fun w hSw => by have hc := HQ.out w; go_simp⟩) hS ?_)
    (try simp only [Act.put])
    refine wpAnyH_ready (rs := [1]) (by decide +kernel) (by simp) (AllReadyH.cons rfl (fun K hK => ?_) AllReadyH.nil)
    go_simp
    (go_at_call 7; (with_reducible refine (HY1.out _ hS).mono ?_); rintro e u1 ⟨A1, c1, rfl, _, _, hsee, hb⟩)
    have HV1 := Lib.hid hsee
    clear hsee
    refine hK.out _ _ (hS.trans (hb.mono hS.size)) (fun hS => ?_)
    clear hK K
    (try simp only [Act.put])
    clear hb
    refine wpAnyH_ready (rs := [2, 4]) (by decide +kernel) (by simp) (AllReadyH.cons rfl (fun K hK => ?_) (AllReadyH.cons rfl (fun K hK => ?_) AllReadyH.nil))
    · have hcv2 := convert_sees (P := Tryd.prog) 35 5 9 Tryd.underlying35 Tryd.underlying5 Tryd.underlying9 HV1.out c1
      go_simp
      refine hK.out _ _ (hS) (fun hS => ?_)
      clear hK K
      (try simp only [Act.put])
      refine wpAnyH_ready (rs := [4]) (by decide +kernel) (by simp) (AllReadyH.cons rfl (fun K hK => ?_) AllReadyH.nil)
      go_simp
      (go_at_call 7; (with_reducible refine (HY2.out _ hS).mono ?_); rintro e u4 ⟨A4, c4, rfl, _, _, hsee, hb⟩)
      have HV4 := Lib.hid hsee
      clear hsee
      refine hK.out _ _ (hS.trans (hb.mono hS.size)) (fun hS => ?_)
      clear hK K
      (try simp only [Act.put])
      clear hb
      refine wpAnyH_ready (rs := [5]) (by decide +kernel) (by simp) (AllReadyH.cons rfl (fun K hK => ?_) AllReadyH.nil)
      have hcv5 := convert_sees (P := Tryd.prog) 35 5 9 Tryd.underlying35 Tryd.underlying5 Tryd.underlying9 HV4.out c4
      go_simp
      refine hK.out _ _ (hS) (fun hS => ?_)
      clear hK K
      (try simp only [Act.put])
      (refine wpAnyH_take (i := 6) (v := .bool true) rfl (by kernel_rfl) (by kernel_rfl) (by kernel_rfl) (fun _ _ _ h => h) (Or.inl ⟨by kernel_rfl, fun w hSw => by have hc := HN.out; go_simp⟩) hS ?_)
      (try simp only [Act.put])
      (refine wpAnyH_take (i := 10) (v := .bool true) rfl (by kernel_rfl) (by kernel_rfl) (by kernel_rfl) (fun _ _ _ h => h) (Or.inl ⟨by kernel_rfl, fun w hSw => by go_simp⟩) hS ?_)
      (try simp only [Act.put])
      (refine wpAnyH_take (i := 11) (v := .bool true) rfl (by kernel_rfl) (by kernel_rfl) (by kernel_rfl) (fun _ _ _ h => h) (Or.inl ⟨by kernel_rfl, fun w hSw => by go_simp⟩) hS ?_)
      (try simp only [Act.put])
      (refine wpAnyH_take (i := 12) (v := .agg x.cells.toArray) rfl (by kernel_rfl) (by kernel_rfl) (by kernel_rfl) (fun _ _ _ h => h) (yieldsIf_load_mid (by kernel_rfl) 31 (.tmp 2) rfl w.heap.size (0) (by kernel_rfl) (x.cells) _ (fun w h => HSX.out w h) hu3 rfl HZX) hS ?_)
      (try simp only [Act.put])
      (refine wpAnyH_take (i := 13) (v := .agg y.cells.toArray) rfl (by kernel_rfl) (by kernel_rfl) (by kernel_rfl) (fun _ _ _ h => h) (yieldsIf_load_mid (by kernel_rfl) 31 (.tmp 3) rfl (w.heap.size + 1) (0) (by kernel_rfl) (y.cells) _ (fun w h => HSY.out w h) hu3 rfl HZY) hS ?_)
      (try simp only [Act.put])
      (refine wpAnyH_take (i := 14) (v := .bool false) rfl (by kernel_rfl) (by kernel_rfl) (by kernel_rfl) (fun _ _ _ h => h) (Or.inl ⟨by kernel_rfl, fun w hSw => by have hc := HQ.out w; go_simp⟩) hS ?_)
      (try simp only [Act.put])
      (refine wpAnyH_take (i := 15) (v := .bool false) rfl (by kernel_rfl) (by kernel_rfl) (by kernel_rfl) (fun _ _ _ h => h) (Or.inl ⟨by kernel_rfl, fun w hSw => by go_simp⟩) hS ?_)
      (try simp only [Act.put])
      (refine wpAnyH_take (i := 16) (v := .agg x.cells.toArray) rfl (by kernel_rfl) (by kernel_rfl) (by kernel_rfl) (fun _ _ _ h => h) (yieldsIf_load_mid (by kernel_rfl) 31 (.tmp 2) rfl w.heap.size (0) (by kernel_rfl) (x.cells) _ (fun w h => HSX.out w h) hu3 rfl HZX) hS ?_)
      (try simp only [Act.put])
      (refine wpAnyH_take (i := 18) (v := .agg y.cells.toArray) rfl (by kernel_rfl) (by kernel_rfl) (by kernel_rfl) (fun _ _ _ h => h) (yieldsIf_load_mid (by kernel_rfl) 31 (.tmp 3) rfl (w.heap.size + 1) (0) (by kernel_rfl) (y.cells) _ (fun w h => HSY.out w h) hu3 rfl HZY) hS ?_)
      (try simp only [Act.put])
      refine wpAnyH_ready (rs := [17]) (by decide +kernel) (by simp) (AllReadyH.cons rfl (fun K hK => ?_) AllReadyH.nil)
      go_simp
      (go_at_call 8; (with_reducible refine (HD1.out _ hS).mono ?_); rintro e u17 ⟨rfl, hb⟩)
      refine hK.out _ _ (hS.trans (hb.mono hS.size)) (fun hS => ?_)
      clear hK K
      (try simp only [Act.put])
      clear hb
      refine wpAnyH_ready (rs := [19]) (by decide +kernel) (by simp) (AllReadyH.cons rfl (fun K hK => ?_) AllReadyH.nil)
      go_simp
      (go_at_call 8; (with_reducible refine (HD2.out _ hS).mono ?_); rintro e u19 ⟨rfl, hb⟩)
      refine hK.out _ _ (hS.trans (hb.mono hS.size)) (fun hS => ?_)
      clear hK K
      (try simp only [Act.put])
      clear hb
      refine wpAnyH_ready (rs := [20]) (by decide +kernel) (by simp) (AllReadyH.cons rfl (fun K hK => ?_) AllReadyH.nil)
      rw [if_pos (by kernel_rfl)]
      refine step_eq_dig_if (.tmp 42) (.tmp 44) rfl pk2 pk2 rfl rfl HPL.out HPL.out ?_
      rw [decide_eq_true (rfl : pk2 = pk2)]
      simp only [Act.put]
      refine hK.out _ _ (hS) (fun hS => ?_)
      clear hK K
      (try simp only [Act.put])
      (refine wpAnyH_take (i := 21) (v := .bool true) rfl (by kernel_rfl) (by kernel_rfl) (by kernel_rfl) (fun _ _ _ h => h) (Or.inl ⟨by kernel_rfl, fun w hSw => by go_simp⟩) hS ?_)
      (try simp only [Act.put])
      (refine wpAnyH_take (i := 22) (v := .bool true) rfl (by kernel_rfl) (by kernel_rfl) (by kernel_rfl) (fun _ _ _ h => h) (Or.inl ⟨by kernel_rfl, fun w hSw => by go_simp⟩) hS ?_)
      (try simp only [Act.put])
      refine wpAnyH_ready (rs := [23]) (by decide +kernel) (by simp) (AllReadyH.cons rfl (fun K hK => ?_) AllReadyH.nil)
      go_simp
      refine hK.out _ _ (hS) (fun hS => ?_)
      clear hK K
      (try simp only [Act.put])
      refine wpAnyH_done (by kernel_rfl) ?_ _
      have HFG := Lib.hid (HF.out.trans ((HT.out _ hS).mono HF.out.size))
      clear hS
      go_wp2
      go_ret
      exact ⟨rfl, HFG.out⟩
    · go_simp
      (go_at_call 7; (with_reducible refine (HY2.out _ hS).mono ?_); rintro e u4 ⟨A4, c4, rfl, _, _, hsee, hb⟩)
      have HV4 := Lib.hid hsee
      clear hsee
      have HV1 := Lib.hid ((HV1.out.below hb).more hb.size)
      refine hK.out _ _ (hS.trans (hb.mono hS.size)) (fun hS => ?_)
      clear hK K
      (try simp only [Act.put])
      clear hb
      refine wpAnyH_ready (rs := [2, 5]) (by decide +kernel) (by simp) (AllReadyH.cons rfl (fun K hK => ?_) (AllReadyH.cons rfl (fun K hK => ?_) AllReadyH.nil))
      · have hcv2 := convert_sees (P := Tryd.prog) 35 5 9 Tryd.underlying35 Tryd.underlying5 Tryd.underlying9 HV1.out c1
        go_simp
        refine hK.out _ _ (hS) (fun hS => ?_)
        clear hK K
        (try simp only [Act.put])
        refine wpAnyH_ready (rs := [5]) (by decide +kernel) (by simp) (AllReadyH.cons rfl (fun K hK => ?_) AllReadyH.nil)
        have hcv5 := convert_sees (P := Tryd.prog) 35 5 9 Tryd.underlying35 Tryd.underlying5 Tryd.underlying9 HV4.out c4
        go_simp
        refine hK.out _ _ (hS) (fun hS => ?_)
        clear hK K
        (try simp only [Act.put])
        (refine wpAnyH_take (i := 6) (v := .bool true) rfl (by kernel_rfl) (by kernel_rfl) (by kernel_rfl) (fun _ _ _ h => h) (Or.inl ⟨by kernel_rfl, fun w hSw => by have hc := HN.out; go_simp⟩) hS ?_)
        (try simp only [Act.put])
        (refine wpAnyH_take (i := 10) (v := .bool true) rfl (by kernel_rfl) (by kernel_rfl) (by kernel_rfl) (fun _ _ _ h => h) (Or.inl ⟨by kernel_rfl, fun w hSw => by go_simp⟩) hS ?_)
        (try simp only [Act.put])
        (refine wpAnyH_take (i := 11) (v := .bool true) rfl (by kernel_rfl) (by kernel_rfl) (by kernel_rfl) (fun _ _ _ h => h) (Or.inl ⟨by kernel_rfl, fun w hSw => by go_simp⟩) hS ?_)
        (try simp only [Act.put])
        (refine wpAnyH_take (i := 12) (v := .agg x.cells.toArray) rfl (by kernel_rfl) (by kernel_rfl) (by kernel_rfl) (fun _ _ _ h => h) (yieldsIf_load_mid (by kernel_rfl) 31 (.tmp 2) rfl w.heap.size (0) (by kernel_rfl) (x.cells) _ (fun w h => HSX.out w h) hu3 rfl HZX) hS ?_)
        (try simp only [Act.put])
        (refine wpAnyH_take (i := 13) (v := .agg y.cells.toArray) rfl (by kernel_rfl) (by kernel_rfl) (by kernel_rfl) (fun _ _ _ h => h) (yieldsIf_load_mid (by kernel_rfl) 31 (.tmp 3) rfl (w.heap.size + 1) (0) (by kernel_rfl) (y.cells) _ (fun w h => HSY.out w h) hu3 rfl HZY) hS ?_)
        (try simp only [Act.put])
        (refine wpAnyH_take (i := 14) (v := .bool false) rfl (by kernel_rfl) (by kernel_rfl) (by kernel_rfl) (fun _ _ _ h => h) (Or.inl ⟨by kernel_rfl, fun w hSw => by have hc := HQ.out w; go_simp⟩) hS ?_)
        (try simp only [Act.put])
        (refine wpAnyH_take (i := 15) (v := .bool false) rfl (by kernel_rfl) (by kernel_rfl) (by kernel_rfl) (fun _ _ _ h => h) (Or.inl ⟨by kernel_rfl, fun w hSw => by go_simp⟩) hS ?_)
        (try simp only [Act.put])
        (refine wpAnyH_take (i := 16) (v := .agg x.cells.toArray) rfl (by kernel_rfl) (by kernel_rfl) (by kernel_rfl) (fun _ _ _ h => h) (yieldsIf_load_mid (by kernel_rfl) 31 (.tmp 2) rfl w.heap.size (0) (by kernel_rfl) (x.cells) _ (fun w h => HSX.out w h) hu3 rfl HZX) hS ?_)
        (try simp only [Act.put])
        (refine wpAnyH_take (i := 18) (v := .agg y.cells.toArray) rfl (by kernel_rfl) (by kernel_rfl) (by kernel_rfl) (fun _ _ _ h => h) (yieldsIf_load_mid (by kernel_rfl) 31 (.tmp 3) rfl (w.heap.size + 1) (0) (by kernel_rfl) (y.cells) _ (fun w h => HSY.out w h) hu3 rfl HZY) hS ?_)
        (try simp only [Act.put])
        refine wpAnyH_ready (rs := [17]) (by decide +kernel) (by simp) (AllReadyH.cons rfl (fun K hK => ?_) AllReadyH.nil)
        go_simp
        (go_at_call 8; (with_reducible refine (HD1.out _ hS).mono ?_); rintro e u17 ⟨rfl, hb⟩)
        refine hK.out _ _ (hS.trans (hb.mono hS.size)) (fun hS => ?_)
        clear hK K
        (try simp only [Act.put])
        clear hb
        refine wpAnyH_ready (rs := [19]) (by decide +kernel) (by simp) (AllReadyH.cons rfl (fun K hK => ?_) AllReadyH.nil)
        go_simp
        (go_at_call 8; (with_reducible refine (HD2.out _ hS).mono ?_); rintro e u19 ⟨rfl, hb⟩)
        refine hK.out _ _ (hS.trans (hb.mono hS.size)) (fun hS => ?_)
        clear hK K
        (try simp only [Act.put])
        clear hb
        refine wpAnyH_ready (rs := [20]) (by decide +kernel) (by simp) (AllReadyH.cons rfl (fun K hK => ?_) AllReadyH.nil)
        rw [if_pos (by kernel_rfl)]
        refine step_eq_dig_if (.tmp 42) (.tmp 44) rfl pk2 pk2 rfl rfl HPL.out HPL.out ?_
        rw [decide_eq_true (rfl : pk2 = pk2)]
        simp only [Act.put]
        refine hK.out _ _ (hS) (fun hS => ?_)
        clear hK K
        (try simp only [Act.put])
        (refine wpAnyH_take (i := 21) (v := .bool true) rfl (by kernel_rfl) (by kernel_rfl) (by kernel_rfl) (fun _ _ _ h => h) (Or.inl ⟨by kernel_rfl, fun w hSw => by go_simp⟩) hS ?_)
        (try simp only [Act.put])
        (refine wpAnyH_take (i := 22) (v := .bool true) rfl (by kernel_rfl) (by kernel_rfl) (by kernel_rfl) (fun _ _ _ h => h) (Or.inl ⟨by kernel_rfl, fun w hSw => by go_simp⟩) hS ?_)
        (try simp only [Act.put])
        refine wpAnyH_ready (rs := [23]) (by decide +kernel) (by simp) (AllReadyH.cons rfl (fun K hK => ?_) AllReadyH.nil)
        go_simp
        refine hK.out _ _ (hS) (fun hS => ?_)
        clear hK K
        (try simp only [Act.put])
        refine wpAnyH_done (by kernel_rfl) ?_ _
        have HFG := Lib.hid (HF.out.trans ((HT.out _ hS).mono HF.out.size))
        clear hS
        go_wp2
        go_ret
        exact ⟨rfl, HFG.out⟩
      · have hcv5 := convert_sees (P := Tryd.prog) 35 5 9 Tryd.underlying35 Tryd.underlying5 Tryd.underlying9 HV4.out c4
        go_simp
        refine hK.out _ _ (hS) (fun hS => ?_)
        clear hK K
        (try simp only [Act.put])
        refine wpAnyH_ready (rs := [2]) (by decide +kernel) (by simp) (AllReadyH.cons rfl (fun K hK => ?_) AllReadyH.nil)
        have hcv2 := convert_sees (P := Tryd.prog) 35 5 9 Tryd.underlying35 Tryd.underlying5 Tryd.underlying9 HV1.out c1
        go_simp
        refine hK.out _ _ (hS) (fun hS => ?_)
        clear hK K
        (try simp only [Act.put])
        (refine wpAnyH_take (i := 6) (v := .bool true) rfl (by kernel_rfl) (by kernel_rfl) (by kernel_rfl) (fun _ _ _ h => h) (Or.inl ⟨by kernel_rfl, fun w hSw => by have hc := HN.out; go_simp⟩) hS ?_)
        (try simp only [Act.put])
        (refine wpAnyH_take (i := 10) (v := .bool true) rfl (by kernel_rfl) (by kernel_rfl) (by kernel_rfl) (fun _ _ _ h => h) (Or.inl ⟨by kernel_rfl, fun w hSw => by go_simp⟩) hS ?_)
        (try simp only [Act.put])
        (refine wpAnyH_take (i := 11) (v := .bool true) rfl (by kernel_rfl) (by kernel_rfl) (by kernel_rfl) (fun _ _ _ h => h) (Or.inl ⟨by kernel_rfl, fun w hSw => by go_simp⟩) hS ?_)
        (try simp only [Act.put])
        (refine wpAnyH_take (i := 12) (v := .agg x.cells.toArray) rfl (by kernel_rfl) (by kernel_rfl) (by kernel_rfl) (fun _ _ _ h => h) (yieldsIf_load_mid (by kernel_rfl) 31 (.tmp 2) rfl w.heap.size (0) (by kernel_rfl) (x.cells) _ (fun w h => HSX.out w h) hu3 rfl HZX) hS ?_)
        (try simp only [Act.put])
        (refine wpAnyH_take (i := 13) (v := .agg y.cells.toArray) rfl (by kernel_rfl) (by kernel_rfl) (by kernel_rfl) (fun _ _ _ h => h) (yieldsIf_load_mid (by kernel_rfl) 31 (.tmp 3) rfl (w.heap.size + 1) (0) (by kernel_rfl) (y.cells) _ (fun w h => HSY.out w h) hu3 rfl HZY) hS ?_)
        (try simp only [Act.put])
        (refine wpAnyH_take (i := 14) (v := .bool false) rfl (by kernel_rfl) (by kernel_rfl) (by kernel_rfl) (fun _ _ _ h => h) (Or.inl ⟨by kernel_rfl, fun w hSw => by have hc := HQ.out w; go_simp⟩) hS ?_)
        (try simp only [Act.put])
        (refine wpAnyH_take (i := 15) (v := .bool false) rfl (by kernel_rfl) (by kernel_rfl) (by kernel_rfl) (fun _ _ _ h => h) (Or.inl ⟨by kernel_rfl, fun w hSw => by go_simp⟩) hS ?_)
        (try simp only [Act.put])
        (refine wpAnyH_take (i := 16) (v := .agg x.cells.toArray) rfl (by kernel_rfl) (by kernel_rfl) (by kernel_rfl) (fun _ _ _ h => h) (yieldsIf_load_mid (by kernel_rfl) 31 (.tmp 2) rfl w.heap.size (0) (by kernel_rfl) (x.cells) _ (fun w h => HSX.out w h) hu3 rfl HZX) hS ?_)
        (try simp only [Act.put])
        (refine wpAnyH_take (i := 18) (v := .agg y.cells.toArray) rfl (by kernel_rfl) (by kernel_rfl) (by kernel_rfl) (fun _ _ _ h => h) (yieldsIf_load_mid (by kernel_rfl) 31 (.tmp 3) rfl (w.heap.size + 1) (0) (by kernel_rfl) (y.cells) _ (fun w h => HSY.out w h) hu3 rfl HZY) hS ?_)
        (try simp only [Act.put])
        refine wpAnyH_ready (rs := [17]) (by decide +kernel) (by simp) (AllReadyH.cons rfl (fun K hK => ?_) AllReadyH.nil)
        go_simp
        (go_at_call 8; (with_reducible refine (HD1.out _ hS).mono ?_); rintro e u17 ⟨rfl, hb⟩)
        refine hK.out _ _ (hS.trans (hb.mono hS.size)) (fun hS => ?_)
        clear hK K
        (try simp only [Act.put])
        clear hb
        refine wpAnyH_ready (rs := [19]) (by decide +kernel) (by simp) (AllReadyH.cons rfl (fun K hK => ?_) AllReadyH.nil)
        go_simp
        (go_at_call 8; (with_reducible refine (HD2.out _ hS).mono ?_); rintro e u19 ⟨rfl, hb⟩)
        refine hK.out _ _ (hS.trans (hb.mono hS.size)) (fun hS => ?_)
        clear hK K
        (try simp only [Act.put])
        clear hb
        refine wpAnyH_ready (rs := [20]) (by decide +kernel) (by simp) (AllReadyH.cons rfl (fun K hK => ?_) AllReadyH.nil)
        rw [if_pos (by kernel_rfl)]
        refine step_eq_dig_if (.tmp 42) (.tmp 44) rfl pk2 pk2 rfl rfl HPL.out HPL.out ?_
        rw [decide_eq_true (rfl : pk2 = pk2)]
        simp only [Act.put]
        refine hK.out _ _ (hS) (fun hS => ?_)
        clear hK K
        (try simp only [Act.put])
        (refine wpAnyH_take (i := 21) (v := .bool true) rfl (by kernel_rfl) (by kernel_rfl) (by kernel_rfl) (fun _ _ _ h => h) (Or.inl ⟨by kernel_rfl, fun w hSw => by go_simp⟩) hS ?_)
        (try simp only [Act.put])
        (refine wpAnyH_take (i := 22) (v := .bool true) rfl (by kernel_rfl) (by kernel_rfl) (by kernel_rfl) (fun _ _ _ h => h) (Or.inl ⟨by kernel_rfl, fun w hSw => by go_simp⟩) hS ?_)
        (try simp only [Act.put])
        refine wpAnyH_ready (rs := [23]) (by decide +kernel) (by simp) (AllReadyH.cons rfl (fun K hK => ?_) AllReadyH.nil)
        go_simp
        refine hK.out _ _ (hS) (fun hS => ?_)
        clear hK K
        (try simp only [Act.put])
        refine wpAnyH_done (by kernel_rfl) ?_ _
        have HFG := Lib.hid (HF.out.trans ((HT.out _ hS).mono HF.out.size))
        clear hS
        go_wp2
        go_ret
        exact ⟨rfl, HFG.out⟩

end Go.Proofs.YtoamcdbemhbphaaDoor
