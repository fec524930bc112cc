/-
  WalResets: the walk.
-/
import Derived.Test.YtapdnoellleimaaDoorQB
namespace Go.Proofs.YtapdnoellleimaaDoor
open Go.RowKit Go.Maps

set_option maxRecDepth 100000 in
theorem keptF_all (k : Int) (d : List UInt8) : keptF k ⟨LG, d, d.length⟩ = d.length := by
  unfold keptF
  simp only
  omega
set_option maxRecDepth 100000 in
theorem loseF_all (k : Int) (d : List UInt8) : loseF k ⟨LG, d, d.length⟩ = ⟨LG, d, d.length⟩ := by
  unfold loseF
  rw [keptF_all]
  simp only
  rw [List.take_length]
set_option maxRecDepth 100000 in
theorem one_off_safe (d : List UInt8) (b : Bool) (a f k k' : Int) (hb : b = true → f = 0) : (oneX d d.length b a f k).off k' = oneX d d.length true a 0 k := by
  unfold DX.off
  cases b with
  | true =>
    rw [if_pos rfl, hb rfl]
  | false =>
    rw [if_neg (by simp)]
    show (⟨[loseF k' ⟨LG, d, d.length⟩], true, a, 0, k⟩ : DX) = _
    rw [loseF_all]
set_option maxRecDepth 100000 in
theorem one_size (d : List UInt8) (sf : Nat) (b : Bool) (a f k : Int) : sizeF (oneX d sf b a f k).fs LG = d.length := rfl
set_option maxRecDepth 100000 in
theorem one_install {d l : List UInt8} {sf : Nat} {a f k : Int} (hf : f ≠ 1) (hl : l.length ≤ 4194304) : (oneX d sf false a f k).install LG l = (0, oneX l l.length false (a + 1) (fuseN f) k) := by
  have ht : (oneX d sf false a f k).takes ((l.length : Int) - (d.length : Int)) = 0 := one_takes (by omega)
  have hb : (oneX d sf false a f k).burns = false := decide_eq_false hf
  unfold DX.install
  rw [one_size, if_neg (by rw [ht]; simp), hb, if_neg (by simp)]
  have hp := one_put d sf (fun _ => ⟨LG, l, l.length⟩)
  unfold DX.put DX.tick
  simp only [hp]
  rfl
set_option maxRecDepth 100000 in
theorem one_install_burn {d l : List UInt8} {a k : Int} (hl : l.length ≤ 4194304) : (oneX d d.length false a 1 k).install LG l = (21, oneX d d.length true (a + 1) 0 k) := by
  have ht : (oneX d d.length false a 1 k).takes ((l.length : Int) - (d.length : Int)) = 0 := one_takes (by omega)
  have hb : (oneX d d.length false a 1 k).burns = true := rfl
  unfold DX.install
  rw [one_size, if_neg (by rw [ht]; simp), hb, if_pos rfl]
  show ((21 : Int), (oneX d d.length false (a + 1) 0 k).off k) = _
  rw [one_off_safe _ _ _ _ _ _ (by simp)]
set_option maxRecDepth 100000 in
theorem one_sync_burn {d : List UInt8} {a k : Int} (hl : d.length ≤ 4194304) : (oneX d d.length false a 1 k).sync LG = (21, oneX d d.length true (a + 1) 0 k) := by
  have ht : (oneX d d.length false a 1 k).takes 0 = 0 := one_takes (by omega)
  have hb : (oneX d d.length false a 1 k).burns = true := rfl
  unfold DX.sync
  rw [if_neg (by rw [ht]; simp), hb, if_pos rfl]
  show ((21 : Int), (oneX d d.length false (a + 1) 0 k).off k) = _
  rw [one_off_safe _ _ _ _ _ _ (by simp)]
set_option maxRecDepth 100000 in
theorem one_open_burn {d : List UInt8} {a k : Int} (h : d.length ≤ 4194304) (hw : framesB (splitB d) = d) : (oneX d d.length false a 1 k).wopen LG = (21, [], oneX d d.length true (a + 1) 0 k) := by
  have hr := one_read d d.length a 1 k
  unfold DX.wopen
  rw [hr]
  simp only
  rw [if_neg (by decide), if_neg (by simp), hw, if_neg (show ¬ d.length < d.length by omega)]
  show (if (0 : Int) ≠ 0 then _ else if ((oneX d d.length false a 1 k).sync LG).1 ≠ 0 then (((oneX d d.length false a 1 k).sync LG).1, [], ((oneX d d.length false a 1 k).sync LG).2) else _) = _
  rw [if_neg (by simp), one_sync_burn h]
  rfl
set_option maxRecDepth 100000 in
theorem one_arm (d : List UInt8) (sf : Nat) (b : Bool) (a f k n k' : Int) : (oneX d sf b a f k).arm n k' = oneX d sf b a (max 0 n) k' := rfl
set_option maxRecDepth 100000 in
theorem one_on (d : List UInt8) (sf : Nat) (b : Bool) (a f k : Int) : (oneX d sf b a f k).on = oneX d sf false a f k := rfl

section
attribute [local go_sem ↓] bsT_def
set_option maxRecDepth 100000 in
set_option maxHeartbeats 4000000 in
theorem resets_walk (A0 : Option Addr) (c0 : Nat) (ts0 : List TX) (A1 : Option Addr) (c1 : Nat) (ts1 : List TX) (n k : Int) (hn : -9223372036854775808 ≤ n ∧ n < 9223372036854775808) (hk : -9223372036854775808 ≤ k ∧ k < 9223372036854775808)
    (hl0 : ts0.length ≤ 140737488351232) (hl1 : ts1.length ≤ 140737488351232) (w : World) (hs0 : TK.See w w.heap.size A0 ts0) (hq0 : ∀ t ∈ ts0, Sees w w.heap.size t.A (t.l.map bv) ∧ t.l.length ≤ 140737488351232) (hs1 : TK.See w w.heap.size A1 ts1) (hq1 : ∀ t ∈ ts1, Sees w w.heap.size t.A (t.l.map bv) ∧ t.l.length ≤ 140737488351232) (hR : Roots w) :
    Calls Tryd.prog 5 #[.slice A0 ts0.length c0, .slice A1 ts1.length c1, .int .i64 n, .int .i64 k] w fun e w' => e = .returned (.bool true) ∧ Below w.heap.size w w' := by
  have HAL := Lib.hid (alive_any17 w hR)
  have HS0 := Lib.hid hs0
  have HS1 := Lib.hid hs1
  have HQ0 := Lib.hid hq0
  have HQ1 := Lib.hid hq1
  have HR := Lib.hid hR
  have HL0 := Lib.hid hl0
  have HL1 := Lib.hid hl1
  have HNN := Lib.hid hn
  have HKK := Lib.hid hk
  clear hs0 hs1 hq0 hq1 hR hl0 hl1 hn hk
  go_enter Tryd.func5, Tryd.ntmps5
  go_upto_region 3 with (go_at_call 8; (with_reducible refine (HAL.out).mono ?_); rintro e w1 ⟨rfl, hb⟩; have HB := Lib.hid hb; clear hb)
  obtain ⟨w2, hw2⟩ : ∃ w2, w2 = w1.alloc (.cells (CaK.flat [⟨0, A0, ts0, c0, 0, 0, ⟨none, [], 0⟩⟩, ⟨0, A1, ts1, c1, 0, 0, ⟨none, [], 0⟩⟩]).toArray 44) := ⟨_, rfl⟩
  have hb2 : Below w1.heap.size w1 w2 := by rw [hw2]; exact (Below.refl _ _).alloc (Nat.le_refl _) _
  have hbs : (bsT 23 2 #[(0, .agg #[.int .i64 0, .slice A0 ts0.length c0, .int .i64 0, .int .i64 0, .slice none 0 0]), (1, .agg #[.int .i64 0, .slice A1 ts1.length c1, .int .i64 0, .int .i64 0, .slice none 0 0])]).run Tryd.prog w1 = .ok (.slice (some ⟨w1.heap.size, 0, none⟩) 2 2) w2 := by
    have h := EK.build CaK [⟨0, A0, ts0, c0, 0, 0, ⟨none, [], 0⟩⟩, ⟨0, A1, ts1, c1, 0, 0, ⟨none, [], 0⟩⟩] [.agg #[.int .i64 0, .slice A0 ts0.length c0, .int .i64 0, .int .i64 0, .slice none 0 0], .agg #[.int .i64 0, .slice A1 ts1.length c1, .int .i64 0, .int .i64 0, .slice none 0 0]] (by simp) (by show 2 * 5 ≤ _; omega) rfl w1
    rw [hw2]
    exact h
  have hx2 : Box w2 w1.heap.size 44 (CaK.flat [⟨0, A0, ts0, c0, 0, 0, ⟨none, [], 0⟩⟩, ⟨0, A1, ts1, c1, 0, 0, ⟨none, [], 0⟩⟩]).toArray := by rw [hw2]; exact Box.made _ _ _
  have HB2 : Hid (Below w.heap.size w w2) := Lib.hid (HB.out.trans (hb2.mono HB.out.size))
  have HT0 : Hid (TK.See w2 w2.heap.size A0 ts0) := Lib.hid ((Sees.below HS0.out HB2.out).more HB2.out.size)
  have HT1 : Hid (TK.See w2 w2.heap.size A1 ts1) := Lib.hid ((Sees.below HS1.out HB2.out).more HB2.out.size)
  have HGR := great_any17 [⟨0, A0, ts0, c0, 0, 0, ⟨none, [], 0⟩⟩, ⟨0, A1, ts1, c1, 0, 0, ⟨none, [], 0⟩⟩] (some ⟨w1.heap.size, 0, none⟩) 2 w2 ⟨Sees.of_box hx2 hx2.lt, by
    intro x hx
    rcases List.mem_cons.1 hx with rfl | hx
    · exact HT0.out
    · rw [List.mem_singleton.1 hx]; exact HT1.out, by
    intro x hx
    rcases List.mem_cons.1 hx with rfl | hx
    · exact ⟨Nat.zero_le _, HL0.out, fun t ht => (HQ0.out t ht).2⟩
    · rw [List.mem_singleton.1 hx]; exact ⟨Nat.zero_le _, HL1.out, fun t ht => (HQ1.out t ht).2⟩, by simp⟩
  have HGR := Lib.hid HGR
  clear hw2 hb2 hx2
  go_upto_region 5 with (go_at_call 9; refine (HGR.out).mono ?_; rintro e w3 ⟨r, rfl, hr, hb3⟩; clear hbs; have HR3 := Lib.hid hr; have HB3 := Lib.hid (HB2.out.trans (hb3.mono HB2.out.size)); clear hr hb3)
  · go_ret
    exact ⟨rfl, HB3.out⟩
  rename_i hrf _ _
  have hsm := HR3.out (by simpa using hrf)
  have hw0 : sumT ts0 + sumT ts1 ≤ 8192 := by
    have h := hsm.2.1
    simp only [wgtC, List.map_cons, List.map_nil, List.sum_cons, List.sum_nil, List.length_nil] at h
    omega
  have h20 : ts0.length ≤ 20 := hsm.2.2 ⟨0, A0, ts0, c0, 0, 0, ⟨none, [], 0⟩⟩ (by simp)
  have h21 : ts1.length ≤ 20 := hsm.2.2 ⟨0, A1, ts1, c1, 0, 0, ⟨none, [], 0⟩⟩ (by simp)
  have HOL : Hid ((framesB (ts0.map TX.l)).length ≤ 10000) := Lib.hid (by rw [sumT_frames]; omega)
  have HNL : Hid ((framesB (ts1.map TX.l)).length ≤ 10000) := Lib.hid (by rw [sumT_frames]; omega)
  have HSO : Hid (splitB (framesB (ts0.map TX.l)) = ts0.map TX.l) := Lib.hid (splitB_all _ (by
    intro x hx
    obtain ⟨t, ht, rfl⟩ := List.mem_map.1 hx
    have := sumT_mem ht
    omega))
  have HSN : Hid (splitB (framesB (ts1.map TX.l)) = ts1.map TX.l) := Lib.hid (splitB_all _ (by
    intro x hx
    obtain ⟨t, ht, rfl⟩ := List.mem_map.1 hx
    have := sumT_mem ht
    omega))
  have H20 := Lib.hid h20
  have H21 := Lib.hid h21
  obtain ⟨base, hbase⟩ : ∃ base, base = w3.heap.size := ⟨_, rfl⟩
  have HBS := Lib.hid hbase
  have HN := Lib.hid (dknew_c w3 base hbase)
  have HR3' : Hid (Roots w3) := Lib.hid (HR.out.of_below HB3.out)
  have HV0 : Hid (∀ wX, Below base w3 wX → TK.See wX wX.heap.size A0 ts0 ∧ ∀ t ∈ ts0, Sees wX wX.heap.size t.A (t.l.map bv)) := Lib.hid (fun wX hb => by
    have hbw : Below w.heap.size w wX := HB3.out.trans (hb.mono (by rw [hbase]; exact HB3.out.size))
    exact ⟨(Sees.below HS0.out hbw).more hbw.size, fun t ht => ((HQ0.out t ht).1.below hbw).more hbw.size⟩)
  have HV1 : Hid (∀ wX, Below base w3 wX → TK.See wX wX.heap.size A1 ts1 ∧ ∀ t ∈ ts1, Sees wX wX.heap.size t.A (t.l.map bv)) := Lib.hid (fun wX hb => by
    have hbw : Below w.heap.size w wX := HB3.out.trans (hb.mono (by rw [hbase]; exact HB3.out.size))
    exact ⟨(Sees.below HS1.out hbw).more hbw.size, fun t ht => ((HQ1.out t ht).1.below hbw).more hbw.size⟩)
  obtain ⟨O, hO⟩ : ∃ O, O = framesB (ts0.map TX.l) := ⟨_, rfl⟩
  obtain ⟨N, hN⟩ : ∃ N, N = framesB (ts1.map TX.l) := ⟨_, rfl⟩
  rw [← hO] at HOL HSO
  rw [← hN] at HNL HSN
  have HOO := Lib.hid hO
  have HNE := Lib.hid hN
  clear hsm hw0 h20 h21 hbase hO hN hrf HS0 HS1 HQ0 HQ1 HR3 HGR HT0 HT1
  go_upto_region 6 with (go_at_call 10; (with_reducible refine (HN.out).mono ?_); rintro e w4 ⟨p, rfl, hd⟩; have HO6 := Lib.hid (lgopen_c hd HBS.out HR3'.out LG LG_small ⟨by decide, by decide⟩ [] newX (new_open LG 0 0 0)); clear hd)
  go_upto_region 7 with (go_at_call 13; (with_reducible refine (HO6.out).mono ?_); rintro e w5 ⟨q, v5, ts5, rfl, hq5, _, _, hd5, _⟩)
  have HA7 := Lib.hid (lgappend_c hd5 hq5 HBS.out HR3'.out ts0 A0 ts0.length c0 rfl LG_small ⟨by decide, by decide⟩ (by rw [← HOO.out]; have := HOL.out; omega) (HV0.out _ hd5.below).1 (HV0.out _ hd5.below).2 0 (oneX O 0 false 1 0 0) (by rw [← HOO.out]; exact new_append (by decide) (by have := HOL.out; omega)))
  have HQ5 := Lib.hid hq5
  clear hd5 hq5
  go_upto_region 9 with (first
    | (go_at_call 16; (with_reducible refine (HA7.out).mono ?_); rintro e w6 ⟨rfl, hd6, hb6⟩; have HQ6 := Lib.hid (HQ5.out.bt hb6); have HS7 := Lib.hid (lgsync_c hd6 HQ6.out LG_small ⟨by show (0 : Int) ≤ 1 ∧ (1 : Int) < 1000000; decide, by show 1 < 1000000; decide⟩ 0 (oneX O O.length false 2 0 0) (one_sync (by decide) (by have := HOL.out; omega))); clear hd6 hb6)
    | (go_at_call 19; (with_reducible refine (HS7.out).mono ?_); rintro e w7 ⟨rfl, hd7, hb7⟩; have HQ7 := Lib.hid (HQ6.out.bt hb7); have HF9 := Lib.hid (dkarm_cb hd7 n k HNN.out HKK.out); clear hd7 hb7))
  have hins : ∃ e0 D b f, (oneX O O.length false 2 (max 0 n) k).install LG N = (e0, oneX D D.length b 3 f k) ∧ (b = true → f = 0) ∧ ((e0 = 0 ∧ D = N) ∨ (e0 = 21 ∧ D = O)) := by
    by_cases hf : max 0 n = 1
    · rw [hf]
      exact ⟨21, O, true, 0, one_install_burn (by have := HNL.out; omega), fun _ => rfl, .inr ⟨rfl, rfl⟩⟩
    · exact ⟨0, N, false, _, one_install hf (by have := HNL.out; omega), (fun h => by cases h), .inl ⟨rfl, rfl⟩⟩
  obtain ⟨e0, D, b, f, hins, hbf, hD⟩ := hins
  have HIN := Lib.hid hins
  have HBF := Lib.hid hbf
  have HDD := Lib.hid hD
  have HDL : Hid (D.length ≤ 10000 ∧ framesB (splitB D) = D) := Lib.hid (by
    rcases hD with ⟨_, rfl⟩ | ⟨_, rfl⟩
    · exact ⟨HNL.out, by rw [HSN.out, ← HNE.out]⟩
    · exact ⟨HOL.out, by rw [HSO.out, ← HOO.out]⟩)
  clear hins hbf hD
  go_upto_region 10 with (go_at_call 26; (with_reducible refine (HF9.out).mono ?_); rintro e w8 ⟨rfl, hd8, hb8⟩)
  have HR10 := Lib.hid (lgreset_c hd8 (HQ7.out.bt hb8) HBS.out HR3'.out ts1 A1 ts1.length c1 rfl LG_small (one_few _ _ _ _ _ _ (by show (0 : Int) ≤ 2 ∧ (2 : Int) < 1000000; decide)) (by rw [← HNE.out]; have := HNL.out; omega) (HV1.out _ hd8.below).1 (HV1.out _ hd8.below).2 e0 _ (by rw [← HNE.out]; exact HIN.out))
  clear hd8 hb8
  go_upto_region 11 with (go_at_call 21; (with_reducible refine (HR10.out).mono ?_); rintro e w9 ⟨rfl, hd9, _⟩; have hf11 := dkoff_cb hd9 k HKK.out; rw [one_off_safe _ _ _ _ _ _ HBF.out] at hf11; have HF11 := Lib.hid hf11; clear hf11 hd9)
  go_upto_region 14 with (first
    | (go_at_call 23; (with_reducible refine (HF11.out).mono ?_); rintro e w10 ⟨rfl, hd10, _⟩; have hf12 := dkon_cb hd10; rw [one_on] at hf12; have HF12 := Lib.hid hf12; clear hf12 hd10)
    | (go_at_call 25; (with_reducible refine (HF12.out).mono ?_); rintro e w11 ⟨rfl, hd11, _⟩; have hf13 := dkarm_cb hd11 1 k (by decide) HKK.out; rw [one_arm] at hf13; have HF13 := Lib.hid hf13; clear hf13 hd11)
    | (go_at_call 26; (with_reducible refine (HF13.out).mono ?_); rintro e w12 ⟨rfl, hd12, _⟩; have HO14 := Lib.hid (lgopen_not hd12 HBS.out HR3'.out LG LG_small (one_room _ _ _ _ _ _ 2 (by decide) (by decide)) 21 (by decide) _ (one_open_burn (by have := HDL.out.1; omega) HDL.out.2)); clear hd12))
  go_upto_region 17 with (first
    | (go_at_call 13; (with_reducible refine (HO14.out).mono ?_); rintro e w13 ⟨v13, rfl, _, hd13, _⟩; have hf15 := dkon_cb hd13; rw [one_on] at hf15; have HF15 := Lib.hid hf15; clear hf15 hd13 HO14 HF12 HF13)
    | (go_at_call 25; (with_reducible refine (HF15.out).mono ?_); rintro e w14 ⟨rfl, hd14, _⟩; have hf16 := dkarm_cb hd14 0 0 (by decide) (by decide); rw [one_arm] at hf16; have HF16 := Lib.hid hf16; clear hf16 hd14)
    | (go_at_call 26; (with_reducible refine (HF16.out).mono ?_); rintro e w15 ⟨rfl, hd15, _⟩; have HO17 := Lib.hid (lgopen_c hd15 HBS.out HR3'.out LG LG_small (one_room _ _ _ _ _ _ 2 (by decide) (by decide)) _ _ (one_open (by decide) (by have := HDL.out.1; omega) HDL.out.2)); clear hd15))
  go_upto_region 18 with (go_at_call 13; (with_reducible refine (HO17.out).mono ?_); rintro e w16 ⟨q16, v16, ts16, rfl, _, hr16, hl16, hd16, _⟩)
  obtain ⟨A16, c16, rfl, hs16, hq16⟩ := hr16.see
  have HL16 := Lib.hid hl16
  have HT18 := Lib.hid (texts_any17 ts1 A1 c1 (by have := H21.out; omega) w16 (HV1.out _ hd16.below).1 (HV1.out _ hd16.below).2)
  have HD16 := Lib.hid hd16
  have HS16 := Lib.hid hs16
  have HQ16 := Lib.hid hq16
  clear hr16 hl16 hd16 hs16 hq16
  go_upto_region 19 with (go_at_call 18; (with_reducible refine (HT18.out).mono ?_); rintro e w17 ⟨v17, rfl, ho17, hb17⟩)
  have HB17 : Hid (Below base w3 w17) := Lib.hid (HD16.out.below.trans (hb17.mono HD16.out.size))
  have HX17 : Hid (TK.See w17 w17.heap.size A16 ts16 ∧ ∀ t ∈ ts16, Sees w17 w17.heap.size t.A (t.l.map bv)) := Lib.hid ⟨EK.See.far HS16.out hb17, fun t ht => ((HQ16.out t ht).below hb17).more hb17.size⟩
  have HZ17 : Hid (base ≤ w17.heap.size) := Lib.hid (Nat.le_trans HD16.out.size hb17.size)
  have HLW : Hid (Below w.heap.size w w17) := Lib.hid (HB3.out.trans (HB17.out.mono (by rw [HBS.out]; exact HB3.out.size)))
  rcases HDD.out with ⟨rfl, rfl⟩ | ⟨rfl, rfl⟩
  · obtain ⟨A17, c17, rfl⟩ := ho17.slice
    have hl : ts16.map TX.l = ts1.map TX.l := by rw [HL16.out, HSN.out]
    have HSM := Lib.hid (same_true17 ts16 A16 c16 (strL (ts1.map TX.l)) A17 _ c17 rfl (by rw [hl]) (by have := congrArg List.length hl; rw [List.length_map, List.length_map] at this; have := H21.out; omega) w17 HX17.out.1 HX17.out.2 ho17.see)
    clear ho17 hb17 hl
    go_wp2_with (go_at_call 15; (with_reducible refine (HSM.out).mono ?_); rintro e w18 ⟨rfl, hb18⟩)
    go_ret
    exact ⟨rfl, HLW.out.trans (hb18.mono HLW.out.size)⟩
  · have HT20 := Lib.hid (texts_any17 ts0 A0 c0 (by have := H20.out; omega) w17 (HV0.out _ HB17.out).1 (HV0.out _ HB17.out).2)
    clear ho17 hb17
    go_upto_region 21 with (go_at_call 18; (with_reducible refine (HT20.out).mono ?_); rintro e w18 ⟨v18, rfl, ho18, hb18⟩)
    obtain ⟨A18, c18, rfl⟩ := ho18.slice
    have hl : ts16.map TX.l = ts0.map TX.l := by rw [HL16.out, HSO.out]
    have HSM := Lib.hid (same_true17 ts16 A16 c16 (strL (ts0.map TX.l)) A18 _ c18 rfl (by rw [hl]) (by have := congrArg List.length hl; rw [List.length_map, List.length_map] at this; have := H20.out; omega) w18 (EK.See.far HX17.out.1 hb18) (fun t ht => ((HX17.out.2 t ht).below hb18).more hb18.size) ho18.see)
    have HLW2 := Lib.hid (HLW.out.trans (hb18.mono HLW.out.size))
    clear ho18 hb18 hl
    go_wp2_with (go_at_call 15; (with_reducible refine (HSM.out).mono ?_); rintro e w19 ⟨rfl, hb19⟩)
    go_ret
    exact ⟨rfl, HLW2.out.trans (hb19.mono HLW2.out.size)⟩
end
end Go.Proofs.YtapdnoellleimaaDoor
