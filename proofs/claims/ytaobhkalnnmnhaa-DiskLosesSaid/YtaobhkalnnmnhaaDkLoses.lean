/-
  DiskLoses: the walk. Written by gen_dkloses.py.
-/
import Derived.Test.YtaobhkalnnmnhaaDkLoKit
namespace Go.Proofs.Ytaobhkalnnmnhaa
open Go.RowKit Go.Maps

noncomputable def slS (v h : Value) : Sem Value := Instr.slice 9 v none (some h) none
set_option maxRecDepth 100000 in
theorem slS_def (v h : Value) : Instr.slice 9 v none (some h) none = slS v h := rfl
noncomputable def adS (a b : Value) : Sem Value := binOp .add 9 a b
set_option maxRecDepth 100000 in
theorem adS_def (a b : Value) : binOp .add 9 a b = adS a b := rfl
attribute [local go_sem ↓] slS_def adS_def
set_option maxRecDepth 100000 in
set_option maxHeartbeats 2000000 in
theorem loses_walk (A0 : Option Addr) (c0 : Nat) (ts : List TX) (A1 : Option Addr) (c1 : Nat) (bs : List Bool) (n k : Int) (hn : -9223372036854775808 ≤ n ∧ n < 9223372036854775808) (hk : -9223372036854775808 ≤ k ∧ k < 9223372036854775808)
    (hl0 : ts.length ≤ 140737488351232) (hl1 : bs.length ≤ 140737488351232) (w : World) (hs0 : TK.See w w.heap.size A0 ts) (hq0 : ∀ t ∈ ts, Sees w w.heap.size t.A (t.l.map bv) ∧ t.l.length ≤ 140737488351232) (hs1 : BoK.See w w.heap.size A1 bs) :
    Calls Try.prog 3 #[.slice A0 ts.length c0, .slice A1 bs.length c1, .int .i64 n, .int .i64 k] w fun e w' => e = .returned (.bool true) ∧ Below w.heap.size w w' := by
  have HAL := Lib.hid (alive_any16 w)
  obtain ⟨L, hL⟩ : ∃ m, m = ts.length := ⟨_, rfl⟩
  obtain ⟨M, hM⟩ : ∃ m, m = bs.length := ⟨_, rfl⟩
  rw [← hL, ← hM]
  have HLL := Lib.hid hL
  have HMM := Lib.hid hM
  have HS0 := Lib.hid hs0
  have HQ0 := Lib.hid hq0
  have HS1 := Lib.hid hs1
  have hl0' : (L : Int) ≤ 140737488351232 := by rw [hL]; omega
  have hl1' : (M : Int) ≤ 140737488351232 := by rw [hM]; omega
  clear hs0 hs1 hq0 hL hM hl0 hl1
  go_enter Try.func3, Try.ntmps3
  go_upto_region 4 with (go_at_call 8; (with_reducible refine (HAL.out).mono ?_); rintro e w1 ⟨rfl, hb⟩; have HB := Lib.hid hb; clear hb)
  have HX0 : Hid (TK.See w1 w1.heap.size A0 ts) := Lib.hid (EK.See.far HS0.out HB.out)
  have HX1 : Hid (BoK.See w1 w1.heap.size A1 bs) := Lib.hid (EK.See.far HS1.out HB.out)
  have HXQ : Hid (∀ t ∈ ts, Sees w1 w1.heap.size t.A (t.l.map bv) ∧ t.l.length ≤ 140737488351232) := Lib.hid (fun t ht => ⟨((HQ0.out t ht).1.below HB.out).more HB.out.size, (HQ0.out t ht).2⟩)
  clear HS0 HS1 HQ0 HAL
  go_wp2
  go_loopw [9, 25] (fun s i wr => ∃ j : Nat, j ≤ L ∧ i = .int .i64 j ∧ s = .int .i64 ((catT ts j).length : Int) ∧ (catT ts j).length ≤ 32768 ∧ wr = w1) (fun _ i _ => L - (intOf i).toNat)
  case atStart => exact ⟨0, Nat.zero_le _, rfl, rfl, Nat.zero_le _, rfl⟩
  case round =>
    obtain ⟨j, hj, rfl, rfl, hjl, rfl⟩ := hrel
    by_cases hlt : j < L
    · obtain ⟨g, o, rfl, hc⟩ := TK_at HX0.out (by rw [← HLL.out]; exact hlt)
      have htl := (HXQ.out _ (List.getElem_mem (by rw [← HLL.out]; exact hlt : j < ts.length))).2
      have hcs := catT_mono ts j (by rw [← HLL.out]; exact hlt)
      generalize htx : ts[j]'(by rw [← HLL.out]; exact hlt) = tx at *
      have htm : (tx.l.length : Int) ≤ 140737488351232 := by omega
      generalize hv : (catT ts j).length = v at *
      generalize htv : tx.l.length = tv at *
      have HCS := Lib.hid hcs
      clear hcs htl htx
      by_cases hbig : v + tv ≤ 32768
      · go_wp2
        go_roundw
        case rel => exact ⟨j + 1, by omega, by go_num, by rw [← HCS.out]; simp, by rw [← HCS.out]; exact hbig, trivial⟩
        case measure => simp [intOf]; omega
      · go_wp2
        go_ret
        exact ⟨rfl, HB.out⟩
    · rename World => wz
      have hcat : (catT ts L).length ≤ 32768 := by
        have : j = L := by omega
        rw [← this]
        exact hjl
      have HCT := Lib.hid hcat
      clear hcat hjl
      by_cases h50 : L ≤ 50
      rotate_left
      · go_wp2
        go_ret
        exact ⟨rfl, HB.out⟩
      by_cases hML : L ≤ M
      rotate_left
      · go_wp2
        go_ret
        exact ⟨rfl, HB.out⟩
      go_upto_region 13 with fail
      obtain ⟨base, hbase⟩ : ∃ base, base = wz.heap.size := ⟨_, rfl⟩
      have HN := Lib.hid (dknew_c wz base hbase)
      have HTQ : Hid (∀ t ∈ ts, Sees wz base t.A (t.l.map bv)) := Lib.hid (fun t ht => by rw [hbase]; exact (HXQ.out t ht).1)
      have HT0 : Hid (TK.See wz base A0 ts) := Lib.hid (by rw [hbase]; exact HX0.out)
      have HT1 : Hid (BoK.See wz base A1 bs) := Lib.hid (by rw [hbase]; exact HX1.out)
      have HBW : Hid (∀ w', Below base wz w' → Below w.heap.size w w') := Lib.hid (fun w' hb => HB.out.trans (hb.mono (by rw [hbase]; exact HB.out.size)))
      have nf := nm_small (l := [102]) (by decide)
      clear hbase HX0 HX1 HXQ hj hlt
      go_upto_region 14 with (go_at_call 9; (with_reducible refine (HN.out).mono ?_); rintro e w2 ⟨p, rfl, hd⟩; have HA1 := Lib.hid (dkarm_c hd n k hn hk); clear hd)
      go_upto_region 15 with (go_at_call 10; (with_reducible refine (HA1.out).mono ?_); rintro e w3 ⟨rfl, hd⟩; have HD3 := Lib.hid hd; clear hd)
      have HI3 := Lib.hid (lo_new n k)
      clear HA1 HN
      go_wp2
      go_loopw [13, 14, 53] (fun a s i wx => ∃ (j : Nat) (X : DX) (sf : List UInt8), j ≤ L ∧ i = .int .i64 j ∧ a = str (catT ts j) ∧ s = str sf ∧ Hid (LoInv X (catT ts j) sf (2 * j)) ∧ Hid (DkC wz wx base p X)) (fun _ _ i _ => L - (intOf i).toNat)
      case atStart => exact ⟨0, _, [], Nat.zero_le _, rfl, rfl, rfl, HI3, HD3⟩
      case round =>
        obtain ⟨j, X, sf, hj, rfl, rfl, rfl, HI, HD⟩ := hrel
        clear HI3 HD3
        by_cases hlt : j < L
        · have hjt : j < ts.length := by rw [← HLL.out]; exact hlt
          have hjb : j < bs.length := by rw [← HMM.out]; omega
          obtain ⟨g, o, rfl, hc⟩ := TK_at (HD.out.sees HT0.out) hjt
          obtain ⟨g1, o1, rfl, _⟩ := BoK_at (HD.out.sees HT1.out) hjb
          have hlen := catT_mono ts j hjt
          have hcat := catT_succ ts j hjt
          have hle := catT_le ts (show j + 1 ≤ L by omega) (by rw [HLL.out]; exact Nat.le_refl _)
          have hmem := List.getElem_mem hjt
          have hcb : ∀ w', BoK.See w' w'.heap.size (some ⟨g1, o1, none⟩) bs → w'.cell? ⟨g1, o1 + j, none⟩ = some (.bool (bs[j]'hjb)) := fun w' h => BoK_cell h hjb
          generalize ts[j]'hjt = tx at *
          generalize bs[j]'hjb = bj at *
          have HSE : Hid (Sees wz base tx.A (tx.l.map bv)) := Lib.hid (HTQ.out tx hmem)
          have hsmall : (catT ts (j + 1)).length ≤ 32768 := Nat.le_trans hle HCT.out
          obtain ⟨tv, htv⟩ : ∃ m, m = tx.l.length := ⟨_, rfl⟩
          rw [← htv] at hc
          have hadd : ∀ w, (adS (str (catT ts j)) (str tx.l)).run Try.prog w = .ok (str (catT ts (j + 1))) w := fun w => by
            have h := str_add16 (catT ts j) tx.l (by rw [← hcat]; omega) w
            rw [← hcat] at h
            exact h
          have hcv : ∀ w', Sees w' w'.heap.size tx.A (tx.l.map bv) → (convert 25 9 (.slice tx.A tv tx.c)).run Try.prog w' = .ok (str tx.l) w' := fun w' h => conv0_16 h tv tx.c htv
          have HCV := Lib.hid hcv
          have HCB := Lib.hid hcb
          have hap := dkappend_c HD.out [102] tx.l tx.A tv tx.c htv nf (HI.out.few (by omega)) (HD.out.sees HSE.out)
          have hsum : (catT ts j).length + tx.l.length ≤ 4194304 := by omega
          rcases lo_append HI.out tx.l hsum with ⟨_, Y, hY, hF⟩ | ⟨_, Y, hY, hI2, hfs⟩
          · rw [hY] at hap
            rw [← hcat] at hF
            have HF := Lib.hid hF
            have HAP := Lib.hid hap
            clear hap hF hY hcv hcb hcat hlen hle hmem hsum HD HI htv
            go_upto_region 27 with (go_at_call 11; (with_reducible refine (HAP.out).mono ?_); rintro e w4 ⟨rfl, hd⟩; have HD := Lib.hid hd; have hcv := HCV.out w4 (hd.sees HSE.out); clear hd)
            have HA7 := Lib.hid (dkoff_c HD.out k hk)
            go_upto_region 28 with (go_at_call 13; (with_reducible refine (HA7.out).mono ?_); rintro e w7 ⟨rfl, hd⟩; have HA8 := Lib.hid (dkon_c hd); clear hd)
            rcases lo_end HF.out k with ⟨hr, hsf⟩ | ⟨d, q, r, hr, hdq, hal⟩
            · subst hsf
              have HRR := Lib.hid hr
              clear hr
              go_wp2_with (first
                | (go_at_call 14; (with_reducible refine (HA8.out).mono ?_); rintro e w8 ⟨rfl, hd⟩; have HA9 := Lib.hid (dkread_c hd [102] [] 0 7 rfl HRR.out nf); clear hd)
                | (go_at_call 15; (with_reducible refine (HA9.out).mono ?_); rintro e w9 ⟨A9, c9, rfl, ho, hb, hd⟩; have HD9 := Lib.hid hd; clear ho hb hd))
              go_ret
              exact ⟨rfl, HBW.out _ HD9.out.below⟩
            · obtain ⟨n9, hn9⟩ : ∃ n, n = d.length := ⟨_, rfl⟩
              have HRR := Lib.hid hr
              have HN9 := Lib.hid hn9
              have hle1 : sf.length ≤ n9 := by rw [hn9, hdq, List.length_append]; omega
              have hle2 : n9 ≤ (catT ts (j + 1)).length := by rw [hal, hn9, List.length_append]; omega
              have hcut : ∀ w, (slS (str (catT ts (j + 1))) (.int .i64 (n9 : Int))).run Try.prog w = .ok (str d) w := fun w => by
                have h := str_cut16 (catT ts (j + 1)) n9 hle2 w
                rw [show (catT ts (j + 1)).take n9 = d by rw [hal, hn9, List.take_left']; rfl] at h
                exact h
              clear hr hdq hn9 hal
              generalize catT ts (j + 1) = alv at *
              go_wp2_with (first
                | (go_at_call 14; (with_reducible refine (HA8.out).mono ?_); rintro e w8 ⟨rfl, hd⟩; have HA9 := Lib.hid (dkread_c hd [102] d n9 0 HN9.out HRR.out nf); clear hd)
                | (go_at_call 15; (with_reducible refine (HA9.out).mono ?_); rintro e w9 ⟨A9, c9, rfl, ho, hb, hd⟩; have hcv := conv16 ho; have hlen9 : d.length = n9 := HN9.out.symm; have HD9 := Lib.hid hd; clear ho hb hd))
              go_ret
              exact ⟨rfl, HBW.out _ HD9.out.below⟩
          · rw [hY] at hap
            rw [← hcat] at hI2 hfs
            have HAP := Lib.hid hap
            cases bj with
            | true =>
              rcases lo_sync hI2 hfs (by omega) with ⟨_, Z, hZ, hF⟩ | ⟨_, Z, hZ, hI3⟩
              · have HF := Lib.hid hF
                have HYF := Lib.hid (hI2.few (by omega))
                have HZE := Lib.hid hZ
                clear hap hF hY hcv hcb hcat hlen hle hmem hsum HD HI htv hZ hI2 hfs
                go_upto_region 27 with (first
                  | (go_at_call 11; (with_reducible refine (HAP.out).mono ?_); rintro e w4 ⟨rfl, hd⟩; have hcv := HCV.out w4 (hd.sees HSE.out); have hcb := HCB.out w4 (hd.sees HT1.out); have hsy := dksync_c hd [102] nf HYF.out; rw [HZE.out] at hsy; have HSY := Lib.hid hsy; clear hd hsy)
                  | (go_at_call 12; (with_reducible refine (HSY.out).mono ?_); rintro e w5 ⟨rfl, hd⟩; have HD := Lib.hid hd; clear hd))
                have HA7 := Lib.hid (dkoff_c HD.out k hk)
                go_upto_region 28 with (go_at_call 13; (with_reducible refine (HA7.out).mono ?_); rintro e w7 ⟨rfl, hd⟩; have HA8 := Lib.hid (dkon_c hd); clear hd)
                rcases lo_end HF.out k with ⟨hr, hsf⟩ | ⟨d, q, r, hr, hdq, hal⟩
                · subst hsf
                  have HRR := Lib.hid hr
                  clear hr
                  go_wp2_with (first
                    | (go_at_call 14; (with_reducible refine (HA8.out).mono ?_); rintro e w8 ⟨rfl, hd⟩; have HA9 := Lib.hid (dkread_c hd [102] [] 0 7 rfl HRR.out nf); clear hd)
                    | (go_at_call 15; (with_reducible refine (HA9.out).mono ?_); rintro e w9 ⟨A9, c9, rfl, ho, hb, hd⟩; have HD9 := Lib.hid hd; clear ho hb hd))
                  go_ret
                  exact ⟨rfl, HBW.out _ HD9.out.below⟩
                · obtain ⟨n9, hn9⟩ : ∃ n, n = d.length := ⟨_, rfl⟩
                  have HRR := Lib.hid hr
                  have HN9 := Lib.hid hn9
                  have hle1 : sf.length ≤ n9 := by rw [hn9, hdq, List.length_append]; omega
                  have hle2 : n9 ≤ (catT ts (j + 1)).length := by rw [hal, hn9, List.length_append]; omega
                  have hcut : ∀ w, (slS (str (catT ts (j + 1))) (.int .i64 (n9 : Int))).run Try.prog w = .ok (str d) w := fun w => by
                    have h := str_cut16 (catT ts (j + 1)) n9 hle2 w
                    rw [show (catT ts (j + 1)).take n9 = d by rw [hal, hn9, List.take_left']; rfl] at h
                    exact h
                  clear hr hdq hn9 hal
                  generalize catT ts (j + 1) = alv at *
                  go_wp2_with (first
                    | (go_at_call 14; (with_reducible refine (HA8.out).mono ?_); rintro e w8 ⟨rfl, hd⟩; have HA9 := Lib.hid (dkread_c hd [102] d n9 0 HN9.out HRR.out nf); clear hd)
                    | (go_at_call 15; (with_reducible refine (HA9.out).mono ?_); rintro e w9 ⟨A9, c9, rfl, ho, hb, hd⟩; have hcv := conv16 ho; have hlen9 : d.length = n9 := HN9.out.symm; have HD9 := Lib.hid hd; clear ho hb hd))
                  go_ret
                  exact ⟨rfl, HBW.out _ HD9.out.below⟩
              · have HYF := Lib.hid (hI2.few (by omega))
                have HZE := Lib.hid hZ
                have HI4 : Hid (LoInv Z (catT ts (j + 1)) (catT ts (j + 1)) (2 * ((j + 1 : Nat) : Int))) := Lib.hid (hI3.mono (by omega))
                clear hap hY hcv hcb hcat hlen hle hmem hsum HD HI htv hZ hI2 hfs hI3
                go_wp2_with (first
                  | (go_at_call 11; (with_reducible refine (HAP.out).mono ?_); rintro e w4 ⟨rfl, hd⟩; have hcv := HCV.out w4 (hd.sees HSE.out); have hcb := HCB.out w4 (hd.sees HT1.out); have hsy := dksync_c hd [102] nf HYF.out; rw [HZE.out] at hsy; have HSY := Lib.hid hsy; clear hd hsy)
                  | (go_at_call 12; (with_reducible refine (HSY.out).mono ?_); rintro e w5 ⟨rfl, hd⟩; have HD := Lib.hid hd; clear hd))
                go_roundw
                case rel => exact ⟨j + 1, Z, catT ts (j + 1), by omega, by go_num, rfl, rfl, HI4, HD⟩
                case measure => simp [intOf]; omega
            | false =>
              have HI4 : Hid (LoInv Y (catT ts (j + 1)) sf (2 * ((j + 1 : Nat) : Int))) := Lib.hid (hI2.mono (by omega))
              clear hap hY hcv hcb hcat hlen hle hmem hsum HD HI htv hI2 hfs
              go_wp2_with (go_at_call 11; (with_reducible refine (HAP.out).mono ?_); rintro e w4 ⟨rfl, hd⟩; have hcv := HCV.out w4 (hd.sees HSE.out); have hcb := HCB.out w4 (hd.sees HT1.out); have HD := Lib.hid hd; clear hd)
              go_roundw
              case rel => exact ⟨j + 1, Y, sf, by omega, by go_num, rfl, rfl, HI4, HD⟩
              case measure => simp [intOf]; omega
        · obtain rfl : j = L := by omega
          have HF := Lib.hid HI.out.fin
          go_upto_region 27 with fail
          have HA7 := Lib.hid (dkoff_c HD.out k hk)
          go_upto_region 28 with (go_at_call 13; (with_reducible refine (HA7.out).mono ?_); rintro e w7 ⟨rfl, hd⟩; have HA8 := Lib.hid (dkon_c hd); clear hd)
          rcases lo_end HF.out k with ⟨hr, hsf⟩ | ⟨d, q, r, hr, hdq, hal⟩
          · subst hsf
            have HRR := Lib.hid hr
            clear hr
            go_wp2_with (first
              | (go_at_call 14; (with_reducible refine (HA8.out).mono ?_); rintro e w8 ⟨rfl, hd⟩; have HA9 := Lib.hid (dkread_c hd [102] [] 0 7 rfl HRR.out nf); clear hd)
              | (go_at_call 15; (with_reducible refine (HA9.out).mono ?_); rintro e w9 ⟨A9, c9, rfl, ho, hb, hd⟩; have HD9 := Lib.hid hd; clear ho hb hd))
            go_ret
            exact ⟨rfl, HBW.out _ HD9.out.below⟩
          · obtain ⟨n9, hn9⟩ : ∃ n, n = d.length := ⟨_, rfl⟩
            have HRR := Lib.hid hr
            have HN9 := Lib.hid hn9
            have hle1 : sf.length ≤ n9 := by rw [hn9, hdq, List.length_append]; omega
            have hle2 : n9 ≤ (catT ts j).length := by rw [hal, hn9, List.length_append]; omega
            have hcut : ∀ w, (slS (str (catT ts j)) (.int .i64 (n9 : Int))).run Try.prog w = .ok (str d) w := fun w => by
              have h := str_cut16 (catT ts j) n9 hle2 w
              rw [show (catT ts j).take n9 = d by rw [hal, hn9, List.take_left']; rfl] at h
              exact h
            clear hr hdq hn9 hal
            generalize catT ts j = alv at *
            go_wp2_with (first
              | (go_at_call 14; (with_reducible refine (HA8.out).mono ?_); rintro e w8 ⟨rfl, hd⟩; have HA9 := Lib.hid (dkread_c hd [102] d n9 0 HN9.out HRR.out nf); clear hd)
              | (go_at_call 15; (with_reducible refine (HA9.out).mono ?_); rintro e w9 ⟨A9, c9, rfl, ho, hb, hd⟩; have hcv := conv16 ho; have hlen9 : d.length = n9 := HN9.out.symm; have HD9 := Lib.hid hd; clear ho hb hd))
            go_ret
            exact ⟨rfl, HBW.out _ HD9.out.below⟩
end Go.Proofs.Ytaobhkalnnmnhaa
