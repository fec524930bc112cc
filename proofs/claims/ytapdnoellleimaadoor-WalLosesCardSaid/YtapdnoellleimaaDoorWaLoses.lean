/-
  WalLoses: the walk. Written by gen_waloses.py.
-/
import Derived.Test.YtapdnoellleimaaDoorWaLoPl
namespace Go.Proofs.YtapdnoellleimaaDoor
open Go.RowKit Go.Maps

set_option maxRecDepth 100000 in
set_option maxHeartbeats 8000000 in
theorem wloses_walk (A0 : Option Addr) (c0 : Nat) (ts : List TX) (A1 : Option Addr) (c1 : Nat) (bs : List Bool) (n k : Int) (hn : -9223372036854775808 ≤ n ∧ n < 9223372036854775808) (hk : -9223372036854775808 ≤ k ∧ k < 9223372036854775808)
    (hl0 : ts.length ≤ 140737488351232) (hl1 : bs.length ≤ 140737488351232) (w : World) (hs0 : TK.See w w.heap.size A0 ts) (hq0 : ∀ t ∈ ts, Sees w w.heap.size t.A (t.l.map bv) ∧ t.l.length ≤ 140737488351232) (hs1 : BoK.See w w.heap.size A1 bs) (hR : Roots w) :
    Calls Tryd.prog 4 #[.slice A0 ts.length c0, .slice A1 bs.length c1, .int .i64 n, .int .i64 k] w fun e w' => e = .returned (.bool true) ∧ Below w.heap.size w w' := by
  have HAL := Lib.hid (alive_any17 w hR)
  obtain ⟨L, hL⟩ : ∃ m, m = ts.length := ⟨_, rfl⟩
  obtain ⟨M, hM⟩ : ∃ m, m = bs.length := ⟨_, rfl⟩
  rw [← hL, ← hM]
  have HLL := Lib.hid hL
  have HMM := Lib.hid hM
  have HS0 := Lib.hid hs0
  have HQ0 := Lib.hid hq0
  have HS1 := Lib.hid hs1
  have HR := Lib.hid hR
  have HNN := Lib.hid hn
  have HKK := Lib.hid hk
  have hl0' : (L : Int) ≤ 140737488351232 := by rw [hL]; omega
  have hl1' : (M : Int) ≤ 140737488351232 := by rw [hM]; omega
  clear hs0 hs1 hq0 hL hM hl0 hl1 hR hn hk
  go_enter Tryd.func4, Tryd.ntmps4
  go_upto_region 4 with (go_at_call 8; (with_reducible refine (HAL.out).mono ?_); rintro e w1 ⟨rfl, hb⟩; have HB := Lib.hid hb; clear hb)
  have HX0 : Hid (TK.See w1 w1.heap.size A0 ts) := Lib.hid (EK.See.far HS0.out HB.out)
  have HX1 : Hid (BoK.See w1 w1.heap.size A1 bs) := Lib.hid (EK.See.far HS1.out HB.out)
  have HXQ : Hid (∀ t ∈ ts, Sees w1 w1.heap.size t.A (t.l.map bv) ∧ t.l.length ≤ 140737488351232) := Lib.hid (fun t ht => ⟨((HQ0.out t ht).1.below HB.out).more HB.out.size, (HQ0.out t ht).2⟩)
  clear HS0 HS1 HQ0 HAL
  go_wp2
  go_loopw [9, 30] (fun s i wr => ∃ j : Nat, j ≤ L ∧ i = .int .i64 j ∧ s = .int .i64 ((sumT (ts.take j) : Nat) : Int) ∧ sumT (ts.take j) ≤ 8192 ∧ wr = w1) (fun _ i _ => L - (intOf i).toNat)
  case atStart => exact ⟨0, Nat.zero_le _, rfl, rfl, Nat.zero_le _, rfl⟩
  case round =>
    obtain ⟨j, hj, rfl, rfl, hjl, rfl⟩ := hrel
    by_cases hlt : j < L
    · obtain ⟨g, o, rfl, hc⟩ := TK_at HX0.out (by rw [← HLL.out]; exact hlt)
      have htl := (HXQ.out _ (List.getElem_mem (by rw [← HLL.out]; exact hlt : j < ts.length))).2
      have hcs := sumT_succ ts j (by rw [← HLL.out]; exact hlt)
      generalize htx : ts[j]'(by rw [← HLL.out]; exact hlt) = tx at *
      have htm : (tx.l.length : Int) ≤ 140737488351232 := by omega
      generalize hv : sumT (ts.take j) = v at *
      generalize htv : tx.l.length = tv at *
      have HCS := Lib.hid hcs
      clear hcs htl htx
      by_cases hbig : v + tv ≤ 8192
      · go_wp2
        go_roundw
        case rel => exact ⟨j + 1, by omega, by go_num, by rw [HCS.out]; simp, by rw [HCS.out]; exact hbig, trivial⟩
        case measure => simp [intOf]; omega
      · go_wp2
        go_ret
        exact ⟨rfl, HB.out⟩
    · rename World => w3
      have hjL : j = L := by omega
      have HSUM : Hid (sumT ts ≤ 8192) := Lib.hid (by
        rw [hjL, HLL.out, List.take_length] at hjl
        exact hjl)
      clear hjl
      by_cases h40 : L ≤ 40
      rotate_left
      · have hd40 : decide ((40 : Int) < (L : Int)) = true := decide_eq_true (by omega)
        have hi40 : (40 : Int) < (L : Int) := by omega
        go_wp2
        go_ret
        exact ⟨rfl, HB.out⟩
      have hd40 : decide ((40 : Int) < (L : Int)) = false := decide_eq_false (by omega)
      have hi40 : ¬ (40 : Int) < (L : Int) := by omega
      by_cases hML : L ≤ M
      rotate_left
      · have hdM : decide ((M : Int) < (L : Int)) = true := decide_eq_true (by omega)
        go_wp2
        go_ret
        exact ⟨rfl, HB.out⟩
      have hdM : decide ((M : Int) < (L : Int)) = false := decide_eq_false (by omega)
      have hiM : ¬ (M : Int) < (L : Int) := by omega
      have H40 := Lib.hid h40
      have HML := Lib.hid hML
      go_upto_region 13 with fail
      clear hjL hj hlt
      obtain ⟨base, hbase⟩ : ∃ base, base = w3.heap.size := ⟨_, rfl⟩
      have HBS := Lib.hid hbase
      have HN := Lib.hid (dknew_c w3 base hbase)
      have HR3 : Hid (Roots w3) := Lib.hid (HR.out.of_below HB.out)
      have HV : Hid (∀ wX, Below base w3 wX → TK.See wX wX.heap.size A0 ts ∧ ∀ t ∈ ts, Sees wX wX.heap.size t.A (t.l.map bv)) := Lib.hid (fun wX hb => by
        rw [hbase] at hb
        exact ⟨EK.See.far HX0.out hb, fun t ht => ((HXQ.out t ht).1.below hb).more hb.size⟩)
      have HV1 : Hid (∀ wX, Below base w3 wX → BoK.See wX wX.heap.size A1 bs) := Lib.hid (fun wX hb => by
        rw [hbase] at hb
        exact EK.See.far HX1.out hb)
      have HBW : Hid (∀ w', Below base w3 w' → Below w.heap.size w w') := Lib.hid (fun w' hb => HB.out.trans (hb.mono (by rw [hbase]; exact HB.out.size)))
      have HXL : Hid (∀ x ∈ ts.map TX.l, x.length < 4294967296) := Lib.hid (by
        intro x hx
        obtain ⟨t, ht, rfl⟩ := List.mem_map.1 hx
        have := sumT_mem ht
        have := HSUM.out
        omega)
      have HLEN : Hid ((framesB (ts.map TX.l)).length ≤ 4194304) := Lib.hid (by rw [sumT_frames]; have := HSUM.out; have := HLL.out; omega)
      clear hbase HX0 HX1 HXQ h40 hML hd40 hdM hi40 hiM
      go_upto_region 14 with (go_at_call 10; (with_reducible refine (HN.out).mono ?_); rintro e w4 ⟨p, rfl, hd⟩; have HO6 := Lib.hid (lgopen_c hd HBS.out HR3.out LG LG_small ⟨by decide, by decide⟩ [] newX (new_open LG 0 0 0)); clear hd)
      go_upto_region 17 with (go_at_call 13; (with_reducible refine (HO6.out).mono ?_); rintro e w5 ⟨q, v5, ts5, rfl, hq5, _, _, hd5, _⟩)
      have HQ5 := Lib.hid hq5
      have HA17 := Lib.hid (dkarm_cb hd5 n k HNN.out HKK.out)
      clear hd5 hq5 HN HO6
      go_upto_region 18 with (go_at_call 26; (with_reducible refine (HA17.out).mono ?_); rintro e w6 ⟨rfl, hd6, hb6⟩)
      have HD6 := Lib.hid hd6
      have HQ6 := Lib.hid (HQ5.out.bt hb6)
      have HI6 : Hid (LwInv (newX.arm n k) (frT ts 0) (frT ts 0) 0) := Lib.hid ⟨rfl, by show (0 : Int) ≤ 0 ∧ (0 : Int) ≤ 0; decide, .inl ⟨rfl, rfl, rfl⟩⟩
      clear hd6 hb6 HA17
      go_wp2
      go_loopw [15, 16, 17, 66] (fun ev mv sv i wx => ∃ (j s : Nat) (X : DX), j ≤ L ∧ s ≤ j ∧ i = .int .i64 j ∧ ev = .int .i64 0 ∧ mv = .int .i64 (j : Int) ∧ sv = .int .i64 (s : Int) ∧ Hid (LwInv X (frT ts j) (frT ts s) (2 * j)) ∧ Hid (DkC w3 wx base p X) ∧ Hid (LogW wx q p LG)) (fun _ _ _ i _ => L - (intOf i).toNat)
      case atStart => exact ⟨0, 0, _, Nat.zero_le _, Nat.le_refl _, rfl, rfl, rfl, rfl, HI6, HD6, HQ6⟩
      case round =>
        obtain ⟨j, sv, X, hj, hsj, rfl, rfl, rfl, rfl, HI, HDX, HQX⟩ := hrel
        clear HI6 HD6 HQ6 HQ5
        by_cases hlt : j < L
        · have hjt : j < ts.length := by rw [← HLL.out]; exact hlt
          have hjb : j < bs.length := by rw [← HMM.out]; have := HML.out; omega
          obtain ⟨g, o, rfl, hc⟩ := TK_at (HV.out wr HDX.out.below).1 hjt
          obtain ⟨g1, o1, rfl, _⟩ := BoK_at (HV1.out wr HDX.out.below) hjb
          have hfr := frT_succ ts j hjt
          have hmem := List.getElem_mem hjt
          have hle := frT_le ts (j + 1)
          have hsee := (HV.out wr HDX.out.below).2 _ hmem
          have hcb : ∀ w', Below base w3 w' → w'.cell? ⟨g1, o1 + j, none⟩ = some (.bool (bs[j]'hjb)) := fun w' h => BoK_cell (HV1.out w' h) hjb
          have htl := sumT_mem hmem
          generalize ts[j]'hjt = tx at *
          generalize bs[j]'hjb = bj at *
          have htl2 : tx.l.length ≤ 8192 := Nat.le_trans htl HSUM.out
          have hfl : (frT ts j).length + (frameB tx.l).length ≤ 4194304 := by
            have h := congrArg List.length hfr
            rw [List.length_append] at h
            have := HLEN.out
            omega
          obtain ⟨tv, htv⟩ : ∃ m, m = tx.l.length := ⟨_, rfl⟩
          rw [← htv] at hc
          have HCB := Lib.hid hcb
          have hL40 : (L : Int) ≤ 40 := by have := H40.out; omega
          have hjL : (j : Int) < (L : Int) := by omega
          have hjM : (j : Int) < (M : Int) := by have := HML.out; omega
          rcases lw_append HI.out (frameB tx.l) hfl with ⟨Y, hY, hF, hYa, hY0⟩ | ⟨Y, hY, hI2, hfs⟩
          · have HAP := Lib.hid (lgappend_one HDX.out HQX.out HBS.out HR3.out tx.A tx.l tv tx.c htv LG_small (HI.out.few (by omega)) (by omega) hsee 21 Y hY)
            rw [← hfr] at hF
            have HFIN : Hid (LwFin Y (frT ts (j + 1)) (frT ts sv)) := Lib.hid hF
            have HAC : Hid (0 ≤ Y.acts ∧ Y.acts ≤ 1000) := Lib.hid (by omega)
            have HMS : Hid (sv ≤ j + 1 ∧ j + 1 ≤ ts.length) := Lib.hid ⟨by omega, by omega⟩
            clear hF hY hYa hY0 hcb hfr hle hmem hsee htl htl2 hfl HI htv
            go_upto_region 30 with (go_at_call 16; (with_reducible refine (HAP.out).mono ?_); rintro e w4 ⟨rfl, hd, _, _⟩; have HDT := Lib.hid hd; clear hd)
            obtain ⟨jj, Y1, Y2, ho1, ho2, hj1, hj2, hr1, hr2⟩ := lw_end (xs := ts.map TX.l) (m := (j + 1)) (sv := sv) (by rw [List.length_map]; exact HMS.out.2) HMS.out.1 HXL.out (by have h := HFIN.out; rw [frT_map, frT_map] at h; exact h) HLEN.out HAC.out k
            have HO1 := Lib.hid ho1
            have HO2 := Lib.hid ho2
            have HR1 := Lib.hid hr1
            have HR2 := Lib.hid hr2
            have HJ : Hid (sv ≤ jj ∧ jj ≤ (j + 1)) := Lib.hid ⟨hj1, hj2⟩
            clear ho1 ho2 hr1 hr2 hj1 hj2
            have HF30 := Lib.hid (dkoff_cb HDT.out k HKK.out)
            go_upto_region 33 with (first
              | (go_at_call 23; (with_reducible refine (HF30.out).mono ?_); rintro e w30 ⟨rfl, hd30, _⟩; have HF31 := Lib.hid (dkon_cb hd30); clear hd30)
              | (go_at_call 25; (with_reducible refine (HF31.out).mono ?_); rintro e w31 ⟨rfl, hd31, _⟩; have HF32 := Lib.hid (dkarm_cb hd31 0 0 (by decide) (by decide)); clear hd31)
              | (go_at_call 26; (with_reducible refine (HF32.out).mono ?_); rintro e w32 ⟨rfl, hd32, _⟩; have HO33 := Lib.hid (lgopen_c hd32 HBS.out HR3.out LG LG_small HR1.out _ _ HO1.out); clear hd32))
            go_upto_region 34 with (go_at_call 13; (with_reducible refine (HO33.out).mono ?_); rintro e w33 ⟨q33, v33, ts33, rfl, _, hr33, hl33, hd33, _⟩)
            obtain ⟨A33, c33, rfl, hs33, hq33⟩ := hr33.see
            have hl3 : ts33.length = jj := by
              have h := congrArg List.length hl33
              rw [List.length_map, List.length_take, List.length_map] at h
              have := HMS.out
              have := HJ.out
              omega
            have HRC := Lib.hid hr33
            have HSE := Lib.hid hs33
            have HSQ := Lib.hid hq33
            have HLL3 := Lib.hid hl33
            have HL3 := Lib.hid hl3
            have HD33 := Lib.hid hd33
            have hi1 : ((sv : Nat) : Int) ≤ (ts33.length : Int) := by have := HJ.out; omega
            have hi2 : (ts33.length : Int) ≤ (((j + 1) : Nat) : Int) := by have := HJ.out; omega
            have hi3 : (ts33.length : Int) ≤ 1000 := by have := HJ.out; have := HMS.out; have := H40.out; omega
            have HWT := Lib.hid (HV.out _ HD33.out.below)
            clear hr33 hs33 hq33 hl33 hd33 HF30 HF31 HF32 HO33 hl3
            obtain ⟨n3, hn3⟩ : ∃ n3, n3 = ts33.length := ⟨_, rfl⟩
            rw [← hn3] at hi1 hi2 hi3 ⊢
            have HN3 := Lib.hid hn3
            clear hn3
            go_wp2
            go_loopw [122] (fun i wx => ∃ j3 : Nat, j3 ≤ n3 ∧ i = .int .i64 (j3 : Int) ∧ Hid (Below w33.heap.size w33 wx)) (fun i _ => n3 - (intOf i).toNat)
            case atStart => exact ⟨0, Nat.zero_le _, rfl, Below.refl _ _⟩
            case round =>
              obtain ⟨j3, hj3, rfl, HBX⟩ := hrel
              by_cases hlt3 : j3 < n3
              · have hjt : j3 < ts33.length := by rw [← HN3.out]; exact hlt3
                have hjs : j3 < ts.length := by have := HL3.out; have := HJ.out; have := HMS.out; have := HN3.out; omega
                obtain ⟨g3, o3, rfl, hc3⟩ := TK_at (EK.See.far HSE.out HBX.out) hjt
                obtain ⟨g4, o4, he4, hc4⟩ := TK_at (EK.See.far HWT.out.1 HBX.out) hjs
                cases he4
                have hx3 := ((HSQ.out _ (List.getElem_mem hjt)).below HBX.out).more HBX.out.size
                have hx4 := ((HWT.out.2 _ (List.getElem_mem hjs)).below HBX.out).more HBX.out.size
                have heq : ts33[j3].l = ts[j3].l := by
                  have h := congrArg (fun l => l[j3]?) HLL3.out
                  simp only [List.getElem?_map, List.getElem?_eq_getElem hjt, Option.map_some] at h
                  rw [List.getElem?_take, if_pos (by have := HL3.out; omega), List.getElem?_map, List.getElem?_eq_getElem hjs] at h
                  simpa using h
                generalize ts33[j3] = x3 at *
                generalize ts[j3] = x4 at *
                have hv3 := convs17 hx3 x3.c
                have hv4 := convs17 hx4 x4.c
                rw [heq] at hv3
                have hlx : x3.l.length = x4.l.length := by rw [heq]
                rw [hlx] at hc3
                have hjL3 : (j3 : Int) < (L : Int) := by have := HLL.out; omega
                have hn3L : (n3 : Int) ≤ 1000 := by omega
                clear heq hx3 hx4 hjt hjs hlx
                go_upto_region 39 with fail
                go_quiet (fail)
                have HB2 := Lib.hid (HBX.out.trans ((below_drewN (Below.refl wr.heap.size wr) nq).mono HBX.out.size))
                clear hc3 hc4 hv3 hv4
                generalize wr.drewN nq = wz at *
                go_wp2
                go_roundw
                case rel => exact ⟨j3 + 1, by omega, by go_num, HB2⟩
                case measure => simp [intOf]; omega
              · have HO42 := Lib.hid (lgopen_c (HD33.out.call HBX.out) HBS.out HR3.out LG LG_small HR2.out _ _ HO2.out)
                go_upto_region 43 with (go_at_call 13; (with_reducible refine (HO42.out).mono ?_); rintro e w43 ⟨q43, v43, ts43, rfl, _, hr43, hl43, hd43, hb43⟩)
                obtain ⟨A43, c43, rfl, hs43, hq43⟩ := hr43.see
                have hr34 := (HRC.out.call HBX.out).bt hb43
                have hlen43 : ts43.length ≤ 1000000 := by
                  have h := congrArg List.length hl43
                  rw [List.length_map, List.length_take, List.length_map] at h
                  have := HMS.out
                  have := H40.out
                  have := HJ.out
                  have := HLL.out
                  omega
                have HTX := texts_any17 ts33 A33 c33 (by have := HN3.out; omega) w43 hr34.own.see (fun t ht => (hr34.rows t ht).sees)
                rw [← HN3.out] at HTX
                have HTX := Lib.hid HTX
                have HL43 : Hid (ts43.map TX.l = ts33.map TX.l) := Lib.hid (by rw [hl43, HLL3.out])
                have HS43 := Lib.hid hs43
                have HQ43 := Lib.hid hq43
                have HD43 := Lib.hid hd43
                have HLE43 := Lib.hid hlen43
                clear hs43 hq43 hd43 hr34 hr43 hl43 hb43 hlen43
                go_wp2_with (first
                  | (go_at_call 18; (with_reducible refine (HTX.out).mono ?_); rintro e w44 ⟨v44, rfl, ho44, hb44⟩; obtain ⟨A44, c44, rfl⟩ := ho44.slice; have HB44 := Lib.hid (HD43.out.below.trans (hb44.mono HD43.out.size)); have HZ44 := Lib.hid (Nat.le_trans HD43.out.size hb44.size); have HSM := Lib.hid (same_true17 ts43 A43 c43 (strL (ts33.map TX.l)) A44 _ c44 rfl (by rw [HL43.out]) HLE43.out w44 (EK.See.far HS43.out hb44) (fun t ht => ((HQ43.out t ht).below hb44).more hb44.size) ho44.see); clear ho44 hb44)
                  | (go_at_call 15; (with_reducible refine (HSM.out).mono ?_); rintro e w45 ⟨rfl, hb45⟩))
                go_ret
                exact ⟨rfl, HBW.out _ (HB44.out.trans (hb45.mono HZ44.out))⟩
          · have HAP := Lib.hid (lgappend_one HDX.out HQX.out HBS.out HR3.out tx.A tx.l tv tx.c htv LG_small (HI.out.few (by omega)) (by omega) hsee 0 Y hY)
            rw [← hfr] at hI2 hfs
            have HI2 := Lib.hid hI2
            have HFS := Lib.hid hfs
            have HFL2 : Hid ((frT ts (j + 1)).length ≤ 4194304) := Lib.hid (by have := HLEN.out; omega)
            clear hY hcb hfr hle hmem hsee htl htl2 hfl HI htv hI2 hfs
            cases bj with
            | false =>
              go_upto_region 28 with (go_at_call 16; (with_reducible refine (HAP.out).mono ?_); rintro e w4 ⟨rfl, hd, hq4, _⟩; have HD4 := Lib.hid hd; have HQ4 := Lib.hid hq4; have hcc := HCB.out w4 hd.below; clear hd hq4)
              go_wp2
              go_roundw
              case rel => exact ⟨j + 1, sv, Y, by omega, by omega, by go_num, rfl, by go_num, rfl, HI2.out.mono (by omega), HD4, HQ4⟩
              case measure => simp [intOf]; omega
            | true =>
              go_upto_region 25 with (go_at_call 16; (with_reducible refine (HAP.out).mono ?_); rintro e w4 ⟨rfl, hd, hq4, _⟩; have HD4 := Lib.hid hd; have HQ4 := Lib.hid hq4; have hcc := HCB.out w4 hd.below; clear hd hq4)
              clear hcc
              rcases lw_sync HI2.out HFS.out HFL2.out with ⟨Z, hZ, hF, hZa, hZ0⟩ | ⟨Z, hZ, hI3⟩
              · have HSY := Lib.hid (lgsync_c HD4.out HQ4.out LG_small (HI2.out.few (by omega)) 21 Z hZ)
                have HFIN : Hid (LwFin Z (frT ts (j + 1)) (frT ts sv)) := Lib.hid hF
                have HAC : Hid (0 ≤ Z.acts ∧ Z.acts ≤ 1000) := Lib.hid (by omega)
                have HMS : Hid (sv ≤ j + 1 ∧ j + 1 ≤ ts.length) := Lib.hid ⟨by omega, by omega⟩
                clear hF hZ hZa hZ0
                go_upto_region 30 with (go_at_call 19; (with_reducible refine (HSY.out).mono ?_); rintro e w5 ⟨rfl, hd, _⟩; have HDT := Lib.hid hd; clear hd)
                obtain ⟨jj, Y1, Y2, ho1, ho2, hj1, hj2, hr1, hr2⟩ := lw_end (xs := ts.map TX.l) (m := (j + 1)) (sv := sv) (by rw [List.length_map]; exact HMS.out.2) HMS.out.1 HXL.out (by have h := HFIN.out; rw [frT_map, frT_map] at h; exact h) HLEN.out HAC.out k
                have HO1 := Lib.hid ho1
                have HO2 := Lib.hid ho2
                have HR1 := Lib.hid hr1
                have HR2 := Lib.hid hr2
                have HJ : Hid (sv ≤ jj ∧ jj ≤ (j + 1)) := Lib.hid ⟨hj1, hj2⟩
                clear ho1 ho2 hr1 hr2 hj1 hj2
                have HF30 := Lib.hid (dkoff_cb HDT.out k HKK.out)
                go_upto_region 33 with (first
                  | (go_at_call 23; (with_reducible refine (HF30.out).mono ?_); rintro e w30 ⟨rfl, hd30, _⟩; have HF31 := Lib.hid (dkon_cb hd30); clear hd30)
                  | (go_at_call 25; (with_reducible refine (HF31.out).mono ?_); rintro e w31 ⟨rfl, hd31, _⟩; have HF32 := Lib.hid (dkarm_cb hd31 0 0 (by decide) (by decide)); clear hd31)
                  | (go_at_call 26; (with_reducible refine (HF32.out).mono ?_); rintro e w32 ⟨rfl, hd32, _⟩; have HO33 := Lib.hid (lgopen_c hd32 HBS.out HR3.out LG LG_small HR1.out _ _ HO1.out); clear hd32))
                go_upto_region 34 with (go_at_call 13; (with_reducible refine (HO33.out).mono ?_); rintro e w33 ⟨q33, v33, ts33, rfl, _, hr33, hl33, hd33, _⟩)
                obtain ⟨A33, c33, rfl, hs33, hq33⟩ := hr33.see
                have hl3 : ts33.length = jj := by
                  have h := congrArg List.length hl33
                  rw [List.length_map, List.length_take, List.length_map] at h
                  have := HMS.out
                  have := HJ.out
                  omega
                have HRC := Lib.hid hr33
                have HSE := Lib.hid hs33
                have HSQ := Lib.hid hq33
                have HLL3 := Lib.hid hl33
                have HL3 := Lib.hid hl3
                have HD33 := Lib.hid hd33
                have hi1 : ((sv : Nat) : Int) ≤ (ts33.length : Int) := by have := HJ.out; omega
                have hi2 : (ts33.length : Int) ≤ (((j + 1) : Nat) : Int) := by have := HJ.out; omega
                have hi3 : (ts33.length : Int) ≤ 1000 := by have := HJ.out; have := HMS.out; have := H40.out; omega
                have HWT := Lib.hid (HV.out _ HD33.out.below)
                clear hr33 hs33 hq33 hl33 hd33 HF30 HF31 HF32 HO33 hl3
                obtain ⟨n3, hn3⟩ : ∃ n3, n3 = ts33.length := ⟨_, rfl⟩
                rw [← hn3] at hi1 hi2 hi3 ⊢
                have HN3 := Lib.hid hn3
                clear hn3
                go_wp2
                go_loopw [122] (fun i wx => ∃ j3 : Nat, j3 ≤ n3 ∧ i = .int .i64 (j3 : Int) ∧ Hid (Below w33.heap.size w33 wx)) (fun i _ => n3 - (intOf i).toNat)
                case atStart => exact ⟨0, Nat.zero_le _, rfl, Below.refl _ _⟩
                case round =>
                  obtain ⟨j3, hj3, rfl, HBX⟩ := hrel
                  by_cases hlt3 : j3 < n3
                  · have hjt : j3 < ts33.length := by rw [← HN3.out]; exact hlt3
                    have hjs : j3 < ts.length := by have := HL3.out; have := HJ.out; have := HMS.out; have := HN3.out; omega
                    obtain ⟨g3, o3, rfl, hc3⟩ := TK_at (EK.See.far HSE.out HBX.out) hjt
                    obtain ⟨g4, o4, he4, hc4⟩ := TK_at (EK.See.far HWT.out.1 HBX.out) hjs
                    cases he4
                    have hx3 := ((HSQ.out _ (List.getElem_mem hjt)).below HBX.out).more HBX.out.size
                    have hx4 := ((HWT.out.2 _ (List.getElem_mem hjs)).below HBX.out).more HBX.out.size
                    have heq : ts33[j3].l = ts[j3].l := by
                      have h := congrArg (fun l => l[j3]?) HLL3.out
                      simp only [List.getElem?_map, List.getElem?_eq_getElem hjt, Option.map_some] at h
                      rw [List.getElem?_take, if_pos (by have := HL3.out; omega), List.getElem?_map, List.getElem?_eq_getElem hjs] at h
                      simpa using h
                    generalize ts33[j3] = x3 at *
                    generalize ts[j3] = x4 at *
                    have hv3 := convs17 hx3 x3.c
                    have hv4 := convs17 hx4 x4.c
                    rw [heq] at hv3
                    have hlx : x3.l.length = x4.l.length := by rw [heq]
                    rw [hlx] at hc3
                    have hjL3 : (j3 : Int) < (L : Int) := by have := HLL.out; omega
                    have hn3L : (n3 : Int) ≤ 1000 := by omega
                    clear heq hx3 hx4 hjt hjs hlx
                    go_upto_region 39 with fail
                    go_quiet (fail)
                    have HB2 := Lib.hid (HBX.out.trans ((below_drewN (Below.refl wr.heap.size wr) nq).mono HBX.out.size))
                    clear hc3 hc4 hv3 hv4
                    generalize wr.drewN nq = wz at *
                    go_wp2
                    go_roundw
                    case rel => exact ⟨j3 + 1, by omega, by go_num, HB2⟩
                    case measure => simp [intOf]; omega
                  · have HO42 := Lib.hid (lgopen_c (HD33.out.call HBX.out) HBS.out HR3.out LG LG_small HR2.out _ _ HO2.out)
                    go_upto_region 43 with (go_at_call 13; (with_reducible refine (HO42.out).mono ?_); rintro e w43 ⟨q43, v43, ts43, rfl, _, hr43, hl43, hd43, hb43⟩)
                    obtain ⟨A43, c43, rfl, hs43, hq43⟩ := hr43.see
                    have hr34 := (HRC.out.call HBX.out).bt hb43
                    have hlen43 : ts43.length ≤ 1000000 := by
                      have h := congrArg List.length hl43
                      rw [List.length_map, List.length_take, List.length_map] at h
                      have := HMS.out
                      have := H40.out
                      have := HJ.out
                      have := HLL.out
                      omega
                    have HTX := texts_any17 ts33 A33 c33 (by have := HN3.out; omega) w43 hr34.own.see (fun t ht => (hr34.rows t ht).sees)
                    rw [← HN3.out] at HTX
                    have HTX := Lib.hid HTX
                    have HL43 : Hid (ts43.map TX.l = ts33.map TX.l) := Lib.hid (by rw [hl43, HLL3.out])
                    have HS43 := Lib.hid hs43
                    have HQ43 := Lib.hid hq43
                    have HD43 := Lib.hid hd43
                    have HLE43 := Lib.hid hlen43
                    clear hs43 hq43 hd43 hr34 hr43 hl43 hb43 hlen43
                    go_wp2_with (first
                      | (go_at_call 18; (with_reducible refine (HTX.out).mono ?_); rintro e w44 ⟨v44, rfl, ho44, hb44⟩; obtain ⟨A44, c44, rfl⟩ := ho44.slice; have HB44 := Lib.hid (HD43.out.below.trans (hb44.mono HD43.out.size)); have HZ44 := Lib.hid (Nat.le_trans HD43.out.size hb44.size); have HSM := Lib.hid (same_true17 ts43 A43 c43 (strL (ts33.map TX.l)) A44 _ c44 rfl (by rw [HL43.out]) HLE43.out w44 (EK.See.far HS43.out hb44) (fun t ht => ((HQ43.out t ht).below hb44).more hb44.size) ho44.see); clear ho44 hb44)
                      | (go_at_call 15; (with_reducible refine (HSM.out).mono ?_); rintro e w45 ⟨rfl, hb45⟩))
                    go_ret
                    exact ⟨rfl, HBW.out _ (HB44.out.trans (hb45.mono HZ44.out))⟩
              · have HSY := Lib.hid (lgsync_c HD4.out HQ4.out LG_small (HI2.out.few (by omega)) 0 Z hZ)
                have HI3 : Hid (LwInv Z (frT ts (j + 1)) (frT ts (j + 1)) (2 * ((j + 1 : Nat) : Int))) := Lib.hid (hI3.mono (by omega))
                clear hZ hI3
                go_wp2_with (go_at_call 19; (with_reducible refine (HSY.out).mono ?_); rintro e w5 ⟨rfl, hd, hb5⟩; have HD5 := Lib.hid hd; have HQ5 := Lib.hid (HQ4.out.bt hb5); clear hd hb5)
                go_roundw
                case rel => exact ⟨j + 1, j + 1, Z, by omega, by omega, by go_num, rfl, by go_num, by go_num, HI3, HD5, HQ5⟩
                case measure => simp [intOf]; omega
        · have hjL : j = L := by omega
          subst hjL
          have HFIN : Hid (LwFin X (frT ts j) (frT ts sv)) := Lib.hid HI.out.fin
          have HAC : Hid (0 ≤ X.acts ∧ X.acts ≤ 1000) := Lib.hid (by have := HI.out.acts; have := H40.out; omega)
          have HMS : Hid (sv ≤ j ∧ j ≤ ts.length) := Lib.hid ⟨by omega, by rw [← HLL.out]; omega⟩
          have HDT := Lib.hid HDX.out
          clear HI HDX hj hsj
          go_upto_region 30 with fail
          clear hlt
          obtain ⟨jj, Y1, Y2, ho1, ho2, hj1, hj2, hr1, hr2⟩ := lw_end (xs := ts.map TX.l) (m := j) (sv := sv) (by rw [List.length_map]; exact HMS.out.2) HMS.out.1 HXL.out (by have h := HFIN.out; rw [frT_map, frT_map] at h; exact h) HLEN.out HAC.out k
          have HO1 := Lib.hid ho1
          have HO2 := Lib.hid ho2
          have HR1 := Lib.hid hr1
          have HR2 := Lib.hid hr2
          have HJ : Hid (sv ≤ jj ∧ jj ≤ j) := Lib.hid ⟨hj1, hj2⟩
          clear ho1 ho2 hr1 hr2 hj1 hj2
          have HF30 := Lib.hid (dkoff_cb HDT.out k HKK.out)
          go_upto_region 33 with (first
            | (go_at_call 23; (with_reducible refine (HF30.out).mono ?_); rintro e w30 ⟨rfl, hd30, _⟩; have HF31 := Lib.hid (dkon_cb hd30); clear hd30)
            | (go_at_call 25; (with_reducible refine (HF31.out).mono ?_); rintro e w31 ⟨rfl, hd31, _⟩; have HF32 := Lib.hid (dkarm_cb hd31 0 0 (by decide) (by decide)); clear hd31)
            | (go_at_call 26; (with_reducible refine (HF32.out).mono ?_); rintro e w32 ⟨rfl, hd32, _⟩; have HO33 := Lib.hid (lgopen_c hd32 HBS.out HR3.out LG LG_small HR1.out _ _ HO1.out); clear hd32))
          go_upto_region 34 with (go_at_call 13; (with_reducible refine (HO33.out).mono ?_); rintro e w33 ⟨q33, v33, ts33, rfl, _, hr33, hl33, hd33, _⟩)
          obtain ⟨A33, c33, rfl, hs33, hq33⟩ := hr33.see
          have hl3 : ts33.length = jj := by
            have h := congrArg List.length hl33
            rw [List.length_map, List.length_take, List.length_map] at h
            have := HMS.out
            have := HJ.out
            omega
          have HRC := Lib.hid hr33
          have HSE := Lib.hid hs33
          have HSQ := Lib.hid hq33
          have HLL3 := Lib.hid hl33
          have HL3 := Lib.hid hl3
          have HD33 := Lib.hid hd33
          have hi1 : ((sv : Nat) : Int) ≤ (ts33.length : Int) := by have := HJ.out; omega
          have hi2 : (ts33.length : Int) ≤ ((j : Nat) : Int) := by have := HJ.out; omega
          have hi3 : (ts33.length : Int) ≤ 1000 := by have := HJ.out; have := HMS.out; have := H40.out; omega
          have HWT := Lib.hid (HV.out _ HD33.out.below)
          clear hr33 hs33 hq33 hl33 hd33 HF30 HF31 HF32 HO33 hl3
          obtain ⟨n3, hn3⟩ : ∃ n3, n3 = ts33.length := ⟨_, rfl⟩
          rw [← hn3] at hi1 hi2 hi3 ⊢
          have HN3 := Lib.hid hn3
          clear hn3
          go_wp2
          go_loopw [122] (fun i wx => ∃ j3 : Nat, j3 ≤ n3 ∧ i = .int .i64 (j3 : Int) ∧ Hid (Below w33.heap.size w33 wx)) (fun i _ => n3 - (intOf i).toNat)
          case atStart => exact ⟨0, Nat.zero_le _, rfl, Below.refl _ _⟩
          case round =>
            obtain ⟨j3, hj3, rfl, HBX⟩ := hrel
            by_cases hlt3 : j3 < n3
            · have hjt : j3 < ts33.length := by rw [← HN3.out]; exact hlt3
              have hjs : j3 < ts.length := by have := HL3.out; have := HJ.out; have := HMS.out; have := HN3.out; omega
              obtain ⟨g3, o3, rfl, hc3⟩ := TK_at (EK.See.far HSE.out HBX.out) hjt
              obtain ⟨g4, o4, he4, hc4⟩ := TK_at (EK.See.far HWT.out.1 HBX.out) hjs
              cases he4
              have hx3 := ((HSQ.out _ (List.getElem_mem hjt)).below HBX.out).more HBX.out.size
              have hx4 := ((HWT.out.2 _ (List.getElem_mem hjs)).below HBX.out).more HBX.out.size
              have heq : ts33[j3].l = ts[j3].l := by
                have h := congrArg (fun l => l[j3]?) HLL3.out
                simp only [List.getElem?_map, List.getElem?_eq_getElem hjt, Option.map_some] at h
                rw [List.getElem?_take, if_pos (by have := HL3.out; omega), List.getElem?_map, List.getElem?_eq_getElem hjs] at h
                simpa using h
              generalize ts33[j3] = x3 at *
              generalize ts[j3] = x4 at *
              have hv3 := convs17 hx3 x3.c
              have hv4 := convs17 hx4 x4.c
              rw [heq] at hv3
              have hlx : x3.l.length = x4.l.length := by rw [heq]
              rw [hlx] at hc3
              have hjL3 : (j3 : Int) < (j : Int) := by have := HLL.out; omega
              have hn3L : (n3 : Int) ≤ 1000 := by omega
              clear heq hx3 hx4 hjt hjs hlx
              go_upto_region 39 with fail
              go_quiet (fail)
              have HB2 := Lib.hid (HBX.out.trans ((below_drewN (Below.refl wr.heap.size wr) nq).mono HBX.out.size))
              clear hc3 hc4 hv3 hv4
              generalize wr.drewN nq = wz at *
              go_wp2
              go_roundw
              case rel => exact ⟨j3 + 1, by omega, by go_num, HB2⟩
              case measure => simp [intOf]; omega
            · have HO42 := Lib.hid (lgopen_c (HD33.out.call HBX.out) HBS.out HR3.out LG LG_small HR2.out _ _ HO2.out)
              go_upto_region 43 with (go_at_call 13; (with_reducible refine (HO42.out).mono ?_); rintro e w43 ⟨q43, v43, ts43, rfl, _, hr43, hl43, hd43, hb43⟩)
              obtain ⟨A43, c43, rfl, hs43, hq43⟩ := hr43.see
              have hr34 := (HRC.out.call HBX.out).bt hb43
              have hlen43 : ts43.length ≤ 1000000 := by
                have h := congrArg List.length hl43
                rw [List.length_map, List.length_take, List.length_map] at h
                have := HMS.out
                have := H40.out
                have := HJ.out
                have := HLL.out
                omega
              have HTX := texts_any17 ts33 A33 c33 (by have := HN3.out; omega) w43 hr34.own.see (fun t ht => (hr34.rows t ht).sees)
              rw [← HN3.out] at HTX
              have HTX := Lib.hid HTX
              have HL43 : Hid (ts43.map TX.l = ts33.map TX.l) := Lib.hid (by rw [hl43, HLL3.out])
              have HS43 := Lib.hid hs43
              have HQ43 := Lib.hid hq43
              have HD43 := Lib.hid hd43
              have HLE43 := Lib.hid hlen43
              clear hs43 hq43 hd43 hr34 hr43 hl43 hb43 hlen43
              go_wp2_with (first
                | (go_at_call 18; (with_reducible refine (HTX.out).mono ?_); rintro e w44 ⟨v44, rfl, ho44, hb44⟩; obtain ⟨A44, c44, rfl⟩ := ho44.slice; have HB44 := Lib.hid (HD43.out.below.trans (hb44.mono HD43.out.size)); have HZ44 := Lib.hid (Nat.le_trans HD43.out.size hb44.size); have HSM := Lib.hid (same_true17 ts43 A43 c43 (strL (ts33.map TX.l)) A44 _ c44 rfl (by rw [HL43.out]) HLE43.out w44 (EK.See.far HS43.out hb44) (fun t ht => ((HQ43.out t ht).below hb44).more hb44.size) ho44.see); clear ho44 hb44)
                | (go_at_call 15; (with_reducible refine (HSM.out).mono ?_); rintro e w45 ⟨rfl, hb45⟩))
              go_ret
              exact ⟨rfl, HBW.out _ (HB44.out.trans (hb45.mono HZ44.out))⟩
end Go.Proofs.YtapdnoellleimaaDoor
