/-
  A public half: once.Public.
-/
import Derived.Test.YtdgedhaiefingaaDoorOSec
import Derived.Test.YtdgedhaiefingaaDoorORSec
namespace Go.Proofs.YtdgedhaiefingaaDoor
open Go.RowKit

attribute [local go_sem ↓] ldDigest_def stDigest_def bsAll_def

/-- The bytes of a Writer, as one piece. -/
theorem one_made {w : World} {t : TypeId} {bs : List UInt8} {A : Option Addr} {c : Nat} (h : Sees w w.heap.size A (bs.map bv)) (hc : bs.length ≤ c) (hm : c ≤ maxLen) :
    Pieces (w.alloc (.cells #[.slice A bs.length c] t)) (w.alloc (.cells #[.slice A bs.length c] t)).heap.size (some ⟨w.heap.size, 0, none⟩) [bs] := by
  have hF : Below w.heap.size w (w.alloc (.cells #[.slice A bs.length c] t)) := (Below.refl _ _).alloc (Nat.le_refl _) _
  have hB : Box (w.alloc (.cells #[.slice A bs.length c] t)) w.heap.size t #[.slice A bs.length c] := Box.made _ _ _
  exact Pieces.one hB hB.lt hc hm ((h.below hF).more hF.size)

set_option maxRecDepth 100000 in
set_option maxHeartbeats 2000000 in
theorem public_any (seed : List UInt8) (hs : seed.length = 32) (leaf : Int) (w : World) (hR : Roots w) :
    Calls Tryd.prog 7 #[.agg (seed.map bv).toArray, .int .i64 leaf] w fun e w' => e = .returned (.agg ((pubT seed leaf).map bv).toArray) ∧ Below w.heap.size w w' := by
  have HS : Hid (Box ((w.alloc (.cells (seed.map bv).toArray 23)).alloc (.cells zs32 23)) w.heap.size 23 (seed.map bv).toArray) := (Box.made w _ _).alloc _
  have HO : Hid (Box ((w.alloc (.cells (seed.map bv).toArray 23)).alloc (.cells zs32 23)) (w.heap.size + 1) 23 zs32) := Box.made_at (by simp) _ _
  have HF : Hid (Below w.heap.size w ((w.alloc (.cells (seed.map bv).toArray 23)).alloc (.cells zs32 23))) := ((Below.refl _ _).alloc (Nat.le_refl _) _).alloc (by simp) _
  have HDL : Hid ((pubT seed leaf).length = 32) := Lib.hid rfl
  have HD : Hid (pubT seed leaf = shaOf (rowT seed leaf 64)) := Lib.hid rfl
  generalize pubT seed leaf = d at *
  have HSM := Lib.hid (dig_same d HDL.out)
  have HSZ := Lib.hid (dig_size d HDL.out)
  have HSL := Lib.hid hs
  have hn1 := dig_list seed hs
  have HR := Lib.hid (hR.of_below HF.out)
  clear hs hR
  go_enter Tryd.func7, Tryd.ntmps7
  go_upto_region 1 with fail
  change Code.wp _ _ _ _ ((w.alloc (.cells (seed.map bv).toArray 23)).alloc (.cells zs32 23))
  generalize (w.alloc (.cells (seed.map bv).toArray 23)).alloc (.cells zs32 23) = w1 at *
  have HW0 : Hid (Wr (w1.alloc (.cells #[.slice none 0 0] 39)) w1.heap.size w1.heap.size []) := wr_new (Box.made _ _ _) (Nat.le_refl _)
  have HB0 : Hid (Below w1.heap.size w1 (w1.alloc (.cells #[.slice none 0 0] 39))) := (Below.refl _ _).alloc (Nat.le_refl _) _
  go_upto_region 3 with fail
  go_loopw [6, 7] (fun _ i wr => ∃ k : Nat, k ≤ 32 ∧ i = .int .i64 (k : Int) ∧ Hid (Wr wr w1.heap.size w1.heap.size (rowT seed leaf (2 * k))) ∧ Hid (Below w1.heap.size w1 wr)) (fun _ i _ => 32 - (intOf i).toNat)
  case atStart => exact ⟨0, Nat.zero_le _, rfl, HW0, HB0⟩
  case round =>
    obtain ⟨k, hk, rfl, HW, HB⟩ := hrel
    by_cases hlt : k < 32
    · have HSC : Hid (∀ w' is, is < 2 → Below w1.heap.size w1 w' → Calls Tryd.prog 17 #[.agg (seed.map bv).toArray, .int .i64 leaf, .int .i64 (k : Int), .int .i64 ((is : Nat) : Int)] w' fun e w'' => e = .returned (.agg ((secT seed leaf (2 * k + is)).map bv).toArray) ∧ Below w'.heap.size w' w'') := fun w' is his hb => secret_any seed HSL.out leaf k is hlt his w' (HR.out.of_below hb)
      have HC0 : Hid (∀ w', Below w1.heap.size w1 w' → Calls Tryd.prog 17 #[.agg (seed.map bv).toArray, .int .i64 leaf, .int .i64 (k : Int), .int .i64 0] w' fun e w'' => e = .returned (.agg ((secT seed leaf (2 * k)).map bv).toArray) ∧ Below w'.heap.size w' w'') := fun w' hb => HSC.out w' 0 (by decide) hb
      have HC1 : Hid (∀ w', Below w1.heap.size w1 w' → Calls Tryd.prog 17 #[.agg (seed.map bv).toArray, .int .i64 leaf, .int .i64 (k : Int), .int .i64 1] w' fun e w'' => e = .returned (.agg ((secT seed leaf (2 * k + 1)).map bv).toArray) ∧ Below w'.heap.size w' w'') := fun w' hb => HSC.out w' 1 (by decide) hb
      have HH : Hid (∀ (s : List UInt8) w', s.length = 32 → Below w1.heap.size w1 w' → Calls Tryd.prog 16 #[.agg (s.map bv).toArray] w' fun e w'' => e = .returned (.agg ((shaOf s).map bv).toArray) ∧ Below w'.heap.size w' w'') := fun s w' h hb => shut_any s h w' (HR.out.of_below hb)
      have HL0 : Hid ((secT seed leaf (2 * k)).length = 32) := Lib.hid rfl
      have HL1 : Hid ((secT seed leaf (2 * k + 1)).length = 32) := Lib.hid rfl
      have HM0 : Hid ((shaOf (secT seed leaf (2 * k))).length = 32) := Lib.hid rfl
      have HM1 : Hid ((shaOf (secT seed leaf (2 * k + 1))).length = 32) := Lib.hid rfl
      have HH0 := Lib.hid (HH.out _ · HL0.out)
      have HH1s := Lib.hid (HH.out _ · HL1.out)
      have HRW : Hid (rowT seed leaf (2 * (k + 1)) = rowT seed leaf (2 * k) ++ [shaOf (secT seed leaf (2 * k)), shaOf (secT seed leaf (2 * k + 1))].flatMap id) := by
        show _ = _
        rw [show 2 * (k + 1) = 2 * k + 1 + 1 by omega, rowT_succ, rowT_succ]
        simp
      have HRL : Hid ((rowT seed leaf (2 * k)).length ≤ 2048) := by
        show _ ≤ _
        rw [rowT_len]
        omega
      clear HSC HH
      generalize shaOf (secT seed leaf (2 * k)) = h0 at *
      generalize shaOf (secT seed leaf (2 * k + 1)) = h1 at *
      generalize secT seed leaf (2 * k) = s0 at *
      generalize secT seed leaf (2 * k + 1) = s1 at *
      have hall : AllD [h0, h1] := by
        intro x hx
        rcases List.mem_cons.1 hx with rfl | hx
        · exact HM0.out
        · obtain rfl := List.mem_singleton.1 hx
          exact HM1.out
      have HAL := Lib.hid hall
      have hbs : ∀ w : World, (bsAll 2 #[(0, .agg (h0.map bv).toArray), (1, .agg (h1.map bv).toArray)]).run Tryd.prog w = .ok (.slice (some ⟨w.heap.size, 0, none⟩) 2 2) (w.alloc (.cells (([h0, h1] : List (List UInt8)).flatten.map bv).toArray 23)) := fun w => build_digs [h0, h1] hall (by simp) (by simp) w
      have HWD : Hid (∀ (W : World), Wr W w1.heap.size w1.heap.size (rowT seed leaf (2 * k)) → Calls Tryd.prog 15 #[.pointer (some ⟨w1.heap.size, 0, none⟩), .slice (some ⟨W.heap.size, 0, none⟩) 2 2] (W.alloc (.cells (([h0, h1] : List (List UInt8)).flatten.map bv).toArray 23)) fun e w' => e = .returned (.tuple #[]) ∧ Wr w' w1.heap.size w1.heap.size (rowT seed leaf (2 * (k + 1))) ∧ Below w1.heap.size (W.alloc (.cells (([h0, h1] : List (List UInt8)).flatten.map bv).toArray 23)) w') := fun W hW => by
        have hF : Below W.heap.size W (W.alloc (.cells (([h0, h1] : List (List UInt8)).flatten.map bv).toArray 23)) := (Below.refl _ _).alloc (Nat.le_refl _) _
        have hW2 := hW.below_size hF
        have hx : Box (W.alloc (.cells (([h0, h1] : List (List UInt8)).flatten.map bv).toArray 23)) W.heap.size 23 (([h0, h1] : List (List UInt8)).flatten.map bv).toArray := Box.made _ _ _
        have hsrc := Src.of_box hW2 hx (by decide) (by decide)
        refine (wdigest_any w1.heap.size w1.heap.size (some ⟨W.heap.size, 0, none⟩) [h0, h1] HAL.out 2 (rowT seed leaf (2 * k)) _ hW2 (by simpa using hsrc) (by have := HRL.out; simp; omega)).mono ?_
        rintro e w' ⟨he, h1, h2⟩
        rw [HRW.out]
        exact ⟨he, h1, h2.below hW2⟩
      clear hall HRW HRL HM0 HM1 HL0 HL1 HAL
      generalize (([h0, h1] : List (List UInt8)).flatten.map bv).toArray = X at *
      have HS2 := Lib.hid (HS.out.below HB.out HS.out.lt)
      have hund := Tryd.underlying23
      have HDR : Hid (Below wr.heap.size wr wr.drew) := (Below.refl _ _).drew
      have HFB : Hid (∀ W', Below wr.heap.size wr W' → Below w1.heap.size w1 W') := fun W' hb => HB.out.trans (hb.mono HB.out.size)
      have HSX : Hid (∀ W', Below w1.heap.size w1 W' → W'.rangeAt w.heap.size 0 (seed.map bv)) := fun W' hb => (HS.out.below hb HS.out.lt).range
      go_upto_region 5 with fail
      refine wp_region_held_drew (S := fun w' => Below w1.heap.size w1 w') (by kernel_rfl) (HFB.out _ HDR.out) (fun hS => ?_)
      (refine wpAnyH_take (i := 0) (v := .agg (seed.map bv).toArray) rfl (by kernel_rfl) (by kernel_rfl) (by kernel_rfl) (fun _ _ _ h => h) (yieldsIf_load_mid (by kernel_rfl) 23 (.tmp 2) rfl w.heap.size (0) (by kernel_rfl) (seed.map bv) _ (fun w h => HSX.out w h) hund rfl hn1) hS ?_)
      (try simp only [Act.put])
      (refine wpAnyH_take (i := 1) (v := .int .i64 leaf) rfl (by kernel_rfl) (by kernel_rfl) (by kernel_rfl) (fun _ _ _ h => h) (Or.inl ⟨by kernel_rfl, fun w hSw => by go_simp⟩) hS ?_)
      (try simp only [Act.put])
      (refine wpAnyH_take (i := 2) (v := .int .i64 (k : Int)) rfl (by kernel_rfl) (by kernel_rfl) (by kernel_rfl) (fun _ _ _ h => h) (Or.inl ⟨by kernel_rfl, fun w hSw => by go_simp⟩) hS ?_)
      (try simp only [Act.put])
      (refine wpAnyH_take (i := 5) (v := .agg (seed.map bv).toArray) rfl (by kernel_rfl) (by kernel_rfl) (by kernel_rfl) (fun _ _ _ h => h) (yieldsIf_load_mid (by kernel_rfl) 23 (.tmp 2) rfl w.heap.size (0) (by kernel_rfl) (seed.map bv) _ (fun w h => HSX.out w h) hund rfl hn1) hS ?_)
      (try simp only [Act.put])
      (refine wpAnyH_take (i := 6) (v := .int .i64 leaf) rfl (by kernel_rfl) (by kernel_rfl) (by kernel_rfl) (fun _ _ _ h => h) (Or.inl ⟨by kernel_rfl, fun w hSw => by go_simp⟩) hS ?_)
      (try simp only [Act.put])
      (refine wpAnyH_take (i := 7) (v := .int .i64 (k : Int)) rfl (by kernel_rfl) (by kernel_rfl) (by kernel_rfl) (fun _ _ _ h => h) (Or.inl ⟨by kernel_rfl, fun w hSw => by go_simp⟩) hS ?_)
      (try simp only [Act.put])
      have HH1 := Lib.hid HDR.out
      refine wpAnyH_ready (rs := [3]) (by decide +kernel) (by simp) (AllReadyH.cons rfl (fun K hK => ?_) AllReadyH.nil)
      go_simp
      (go_at_call 17; (with_reducible refine (HC0.out _ hS).mono ?_); rintro e w2 ⟨rfl, hb2⟩)
      have HH2 := Lib.hid (HH1.out.trans (hb2.mono HH1.out.size))
      clear hb2
      refine hK.out _ _ (HFB.out _ HH2.out) (fun hS => ?_)
      clear hK K
      (try simp only [Act.put])
      refine wpAnyH_ready (rs := [4]) (by decide +kernel) (by simp) (AllReadyH.cons rfl (fun K hK => ?_) AllReadyH.nil)
      go_simp
      (go_at_call 16; (with_reducible refine (HH0.out _ hS).mono ?_); rintro e w3 ⟨rfl, hb3⟩)
      have HH3 := Lib.hid (HH2.out.trans (hb3.mono HH2.out.size))
      clear hb3
      refine hK.out _ _ (HFB.out _ HH3.out) (fun hS => ?_)
      clear hK K
      (try simp only [Act.put])
      refine wpAnyH_ready (rs := [8]) (by decide +kernel) (by simp) (AllReadyH.cons rfl (fun K hK => ?_) AllReadyH.nil)
      go_simp
      (go_at_call 17; (with_reducible refine (HC1.out _ hS).mono ?_); rintro e w4 ⟨rfl, hb4⟩)
      have HH4 := Lib.hid (HH3.out.trans (hb4.mono HH3.out.size))
      clear hb4
      refine hK.out _ _ (HFB.out _ HH4.out) (fun hS => ?_)
      clear hK K
      (try simp only [Act.put])
      refine wpAnyH_ready (rs := [9]) (by decide +kernel) (by simp) (AllReadyH.cons rfl (fun K hK => ?_) AllReadyH.nil)
      go_simp
      (go_at_call 16; (with_reducible refine (HH1s.out _ hS).mono ?_); rintro e w5 ⟨rfl, hb5⟩)
      have HH5 := Lib.hid (HH4.out.trans (hb5.mono HH4.out.size))
      clear hb5
      refine hK.out _ _ (HFB.out _ HH5.out) (fun hS => ?_)
      clear hK K
      (try simp only [Act.put])
      refine wpAnyH_ready (rs := [10]) (by decide +kernel) (by simp) (AllReadyH.cons rfl (fun K hK => ?_) AllReadyH.nil)
      go_simp
      have HW5 := Lib.hid (HW.out.below_size HH5.out)
      have HX5 := Lib.hid (HH5.out.alloc HH5.out.size (.cells X 23))
      refine hK.out _ _ (HFB.out _ HX5.out) (fun hS => ?_)
      clear hK K
      (try simp only [Act.put])
      refine wpAnyH_ready (rs := [11]) (by decide +kernel) (by simp) (AllReadyH.cons rfl (fun K hK => ?_) AllReadyH.nil)
      go_simp
      (go_at_call 15; (with_reducible refine (HWD.out _ HW5.out).mono ?_); rintro e w7 ⟨rfl, hW7, hb7⟩)
      have HW7 := Lib.hid hW7
      have HB7 := Lib.hid (hS.trans hb7)
      clear hW7 hb7
      refine hK.out _ _ HB7.out (fun hS => ?_)
      clear hK K
      (try simp only [Act.put])
      refine wpAnyH_done (by kernel_rfl) ?_ _
      clear hS HDR HH1 HH2 HH3 HH4 HH5 HX5 HW5 hbs HS2 hund
      go_wp2
      go_roundw
      case rel => exact ⟨k + 1, hlt, by go_num, HW7, HB7⟩
      case measure => simp [intOf]; omega
    · obtain rfl : k = 32 := by omega
      have HBY : Hid (Calls Tryd.prog 19 #[.pointer (some ⟨w1.heap.size, 0, none⟩)] wr (BytesIs wr (rowT seed leaf 64))) := bytes_any _ _ _ _ HW.out (by rw [rowT_len]; decide)
      have HOF : Hid (∀ W' A, Below w1.heap.size w1 W' → Pieces W' W'.heap.size A [rowT seed leaf 64] → Calls Tryd.prog 18 #[.slice A 1 1] W' fun e w'' => e = .returned (.agg (d.map bv).toArray) ∧ Below W'.heap.size W' w'') := fun W' A hb hp => by
        have h := of_any [rowT seed leaf 64] A 1 W' hp (by simp) (by rw [show ([rowT seed leaf 64] : List (List UInt8)).flatten = rowT seed leaf 64 by simp, rowT_len]; decide) (HR.out.of_below hb)
        rw [show ([rowT seed leaf 64] : List (List UInt8)).flatten = rowT seed leaf 64 by simp, ← HD.out] at h
        exact h
      clear HW hlt
      generalize rowT seed leaf 64 = bs at *
      go_wp2_with (first
        | (go_at_call 19; (with_reducible refine (HBY.out).mono ?_); rintro e w2 ⟨A, c, rfl, hc1, hc2, hsee, hb⟩; have HP := Lib.hid (one_made (t := 37) hsee hc1 hc2); have HB2 := Lib.hid (HB.out.trans (hb.mono HB.out.size)); have HB3 := Lib.hid (HB2.out.alloc HB2.out.size (.cells #[.slice A bs.length c] 37)); clear hc1 hc2 hsee hb)
        | (go_at_call 18; (with_reducible refine (HOF.out _ _ HB3.out HP.out).mono ?_); rintro e w6 ⟨rfl, hb⟩; have HB6 := Lib.hid (HB3.out.trans (hb.mono HB3.out.size)); clear hb)
        | (((with_reducible show wpList _ _ _ ((⟨none, Op.store _ (.tmp 4) (.tmp 25), _, _, _, _⟩ : Oper) :: _) _ _)); refine wpList_store_box rfl 23 (.tmp 4) (.tmp 25) rfl (w.heap.size + 1) (d.map bv).toArray rfl rfl 23 zs32 (HO.out.below HB6.out HO.out.lt) HSM.out HSZ.out (bv_one _) ?_; intro w7 hb7 hg7))
      exact ret_dig rfl rfl rfl hb7 HDL.out ⟨rfl, (HF.out.trans (HB6.out.mono HF.out.size)).trans (below_only hg7 (by omega) (HF.out.trans (HB6.out.mono HF.out.size)).size)⟩
end Go.Proofs.YtdgedhaiefingaaDoor
