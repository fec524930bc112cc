/-
  wapentakelaw17.WalDoes.
-/
import Derived.Test.YtapdnoellleimaaDoorQD
import Derived.Deep.DeepCutAuto
import Derived.Deep.CutBlock
namespace Go.Proofs.YtapdnoellleimaaDoor
open Go.RowKit Go.Maps

def CaX.InI (x : CaX) : Prop := (-9223372036854775808 ≤ x.n ∧ x.n < 9223372036854775808) ∧ (-9223372036854775808 ≤ x.k ∧ x.k < 9223372036854775808)
section
attribute [local go_sem ↓] ldCa_def stCa_def
set_option maxRecDepth 100000 in
set_option maxHeartbeats 8000000 in
theorem does_walk (Ar : Option Addr) (raw : List UInt8) (cr : Nat) (A : Option Addr) (xs : List CaX) (c : Nat) (hlr : raw.length ≤ 140737488351232) (w : World) (hr : Sees w w.heap.size Ar (raw.map bv)) (hS : CaSee w A xs)
    (hq : ∀ x ∈ xs, Sees w w.heap.size x.b.A (x.b.l.map bv) ∧ (∀ t ∈ x.ts, Sees w w.heap.size t.A (t.l.map bv)) ∧ x.InI) (hR : Roots w) :
    Calls Tryd.prog 3 #[.slice Ar raw.length cr, .slice A xs.length c] w fun e w' => e = .returned (.bool true) ∧ Below w.heap.size w w' := by
  have HAL := Lib.hid (alive_any17 w hR)
  have HS := Lib.hid hS
  have HRW := Lib.hid hr
  have HQ := Lib.hid hq
  have HR := Lib.hid hR
  have hlr2 : (raw.length : Int) ≤ 140737488351232 := by omega
  have hlx : (xs.length : Int) ≤ 140737488351232 := by have := hS.len; omega
  clear hr hS hq hR hlr
  go_enter Tryd.func3, Tryd.ntmps3
  go_upto_region 3 with (go_at_call 8; (with_reducible refine (HAL.out).mono ?_); rintro e w1 ⟨rfl, hb⟩; have HB := Lib.hid hb; clear hb)
  have HGR := Lib.hid (great_any17 xs A c w1 ⟨EK.See.far HS.out.rows HB.out, fun x hx => EK.See.far (HS.out.lists x hx) HB.out, HS.out.few, HS.out.len⟩)
  by_cases h8 : ¬ ((8192 : Int) < (raw.length : Int))
  rotate_left
  · have h8 : (8192 : Int) < (raw.length : Int) := by omega
    go_wp2_with (go_at_call 9; refine (HGR.out).mono ?_; rintro e w2 ⟨r, rfl, hr, hb2⟩; have HB2 := Lib.hid (HB.out.trans (hb2.mono HB.out.size)); clear hb2 hr; cases r)
    all_goals
      go_ret
      exact ⟨rfl, HB2.out⟩
  have h8 : (raw.length : Int) ≤ 8192 := by omega
  go_upto_region 5 with (go_at_call 9; refine (HGR.out).mono ?_; rintro e w2 ⟨r, rfl, hr, hb2⟩; have HB2 := Lib.hid (HB.out.trans (hb2.mono HB.out.size)); have HRR := Lib.hid hr; clear hb2 hr; cases r)
  rotate_left
  · go_ret
    exact ⟨rfl, HB2.out⟩
  have hsm := HRR.out trivial
  have HWG := Lib.hid hsm.2.1
  have HT20 := Lib.hid hsm.2.2
  have h40 : (xs.length : Int) ≤ 40 := by omega
  have H8 : Hid (raw.length ≤ 8192) := Lib.hid (by omega)
  obtain ⟨base, hbase⟩ : ∃ base, base = w2.heap.size := ⟨_, rfl⟩
  have HBS := Lib.hid hbase
  have HN := Lib.hid (dknew_c w2 base hbase)
  have HR2 : Hid (Roots w2) := Lib.hid (HR.out.of_below HB2.out)
  have HV : Hid (∀ wX, Below base w2 wX → Sees wX wX.heap.size Ar (raw.map bv) ∧ CaK.See wX wX.heap.size A xs ∧ ∀ x ∈ xs, TK.See wX wX.heap.size x.A x.ts ∧ Sees wX wX.heap.size x.b.A (x.b.l.map bv) ∧ ∀ t ∈ x.ts, Sees wX wX.heap.size t.A (t.l.map bv)) := Lib.hid (fun wX hb => by
    have hbw : Below w.heap.size w wX := HB2.out.trans (hb.mono (by rw [hbase]; exact HB2.out.size))
    exact ⟨(HRW.out.below hbw).more hbw.size, EK.See.far HS.out.rows hbw, fun x hx => ⟨EK.See.far (HS.out.lists x hx) hbw, ((HQ.out x hx).1.below hbw).more hbw.size, fun t ht => (((HQ.out x hx).2.1 t ht).below hbw).more hbw.size⟩⟩)
  have HBF : Hid (∀ wX, Below base w2 wX → Below w.heap.size w wX) := Lib.hid (fun wX hb => HB2.out.trans (hb.mono (by rw [hbase]; exact HB2.out.size)))
  have HII : Hid (∀ x ∈ xs, x.InI) := Lib.hid (fun x hx => (HQ.out x hx).2.2)
  clear hsm hbase HS HRW HQ HRR HGR HAL hlx hlr2
  go_upto_region 6 with (go_at_call 10; (with_reducible refine (HN.out).mono ?_); rintro e w3 ⟨p, rfl, hd⟩; have HD3 := Lib.hid hd; clear hd)
  obtain ⟨m, hm⟩ : ∃ m, m = w3.heap.size := ⟨_, rfl⟩
  rw [← hm]
  obtain ⟨w4, hw4⟩ : ∃ w4, w4 = w3.alloc (.cells #[.slice none 0 0, .bool false, .int .i64 0, .int .i64 0, .int .i64 0] 31) := ⟨_, rfl⟩
  have hb4 : Below w3.heap.size w3 w4 := by rw [hw4]; exact (Below.refl _ _).alloc (Nat.le_refl _) _
  have hr4 : RmIs w4 base m newX := by
    refine rm_new (by rw [hm]; exact HD3.out.size) ?_
    rw [hw4, hm]
    exact Box.made _ _ _
  rw [← hw4]
  have hap : newX.append LG raw = (0, oneX raw 0 false 1 0 0) := new_append (by decide) (by have := H8.out; omega)
  have HAP := Lib.hid hap
  have hd4 := HD3.out.call hb4
  have HA4 := Lib.hid (dkappend_cb hd4 raw Ar raw.length cr rfl ⟨by decide, by decide⟩ (HV.out _ hd4.below).1 0 _ hap)
  have HR4 := Lib.hid hr4
  clear hm hw4 hb4 hr4 hap hd4 HD3 HN
  go_upto_region 7 with (go_at_call 11; (with_reducible refine (HA4.out).mono ?_); rintro e w5 ⟨rfl, hd5, hb5⟩; have hcv := bytes_conv17 (HV.out _ hd5.below).1 cr; have HM5 := Lib.hid (rm_append base m newX raw w5 (HR4.out.bt hb5) (by show 0 + raw.length ≤ _; have := H8.out; omega) (by decide) 0 _ HAP.out); have HD5 := Lib.hid hd5; clear hd5 hb5)
  obtain ⟨X1, hX1⟩ : ∃ X1, X1 = oneX raw 0 false 1 0 0 := ⟨_, rfl⟩
  have hB1 : totF X1.fs ≤ 8192 ∧ X1.acts = 1 := by
    rw [hX1]
    exact ⟨by show (([⟨LG, raw, 0⟩] : List FX).map fun f => f.data.length).sum ≤ 8192; simp; exact H8.out, rfl⟩
  rw [← hX1] at HM5
  go_upto_region 8 with (go_at_call 12; (with_reducible refine (HM5.out).mono ?_); rintro e w6 ⟨rfl, hr6, hf6⟩; have HR6 := Lib.hid hr6; have HD6 := Lib.hid (HD5.out.rt hf6); clear hr6 hf6)
  rw [← hX1] at HD6
  obtain ⟨e0, L, Y, hZ⟩ : ∃ e0 L Y, X1.wopen LG = (e0, L, Y) := ⟨_, _, _, rfl⟩
  have hgw := gr_wopen HR6.out.one (by have := hB1.1; omega)
  rw [hZ] at hgw
  obtain ⟨hgr, hll⟩ := hgw
  have HLL : Hid (L.length ≤ 100000) := Lib.hid hll
  have HGY : Hid (totF Y.fs ≤ 8192 ∧ 0 ≤ Y.acts ∧ Y.acts ≤ 3) := Lib.hid (by
    obtain ⟨h1, h2, h3⟩ := hgr
    have := hB1.1
    have := hB1.2
    refine ⟨?_, ?_, ?_⟩
    · show totF Y.fs ≤ _
      have h1' : totF Y.fs ≤ totF X1.fs + 0 := h1
      omega
    · have h2' : X1.acts ≤ Y.acts := h2
      omega
    · have h3' : Y.acts ≤ X1.acts + 2 := h3
      omega)
  have HRO : Hid (X1.Room 2) := Lib.hid (HR6.out.room (by rw [hB1.2]; decide))
  have HZ := Lib.hid hZ
  have HO6 := Lib.hid (lgopen_both HD6.out HBS.out HR2.out HRO.out e0 L Y hZ)
  have HT1 : Hid (totF X1.fs ≤ 100000) := Lib.hid (by have := hB1.1; omega)
  clear hX1 hB1 hZ hgr hll HM5 hcv HA4 HR4 HD5 HAP
  go_upto_region 9 with (go_at_call 13; (with_reducible refine (HO6.out).mono ?_); rintro e w7 ⟨lv, A7, c7, ts7, rfl, hlv7, hr7, hl7, hd7, hb7⟩; have HO7 := Lib.hid (ropen_any base m X1 w7 (HR6.out.bt hb7) HT1.out HRO.out e0 L Y HZ.out); have HLV7 := Lib.hid hlv7; have HRC7 := Lib.hid hr7; have HL7 := Lib.hid hl7; have HD7 := Lib.hid hd7; clear hlv7 hr7 hl7 hd7 hb7)
  go_upto_region 10 with (go_at_call 14; (with_reducible refine (HO7.out).mono ?_); rintro e w8 ⟨v8, rfl, ho8, hr8, hf8⟩; have HLV8 := Lib.hid (HLV7.out.rt hf8); have HRC8 := Lib.hid (HRC7.out.rt hf8); have HD8 := Lib.hid (HD7.out.rt hf8); have HR8 := Lib.hid hr8; have HO8 := Lib.hid ho8; clear hr8 hf8 ho8)
  obtain ⟨A8, c8, rfl⟩ := HO8.out.slice
  obtain ⟨_, _, he8, hs8, ht8⟩ := HRC8.out.see
  injection he8 with he81 _ he83
  subst he81
  have hl8 : ts7.length = L.length := by rw [← HL7.out, List.length_map]
  have HSM := Lib.hid (same_true17 ts7 _ c7 (strL L) A8 (strL L).length c8 rfl (by rw [HL7.out]) (by rw [hl8]; have := HLL.out; omega) w8 hs8 ht8 HO8.out.see)
  clear HO6 HRO HT1 HLV7 HRC7 HD7 HR6 HD6 hs8 ht8 hl8 he83 HO7
  go_upto_region 12 with (go_at_call 15; (with_reducible refine (HSM.out).mono ?_); rintro e w9 ⟨rfl, hb9⟩; have HLV9 := Lib.hid (HLV8.out.call hb9); have HD9 := Lib.hid (HD8.out.call hb9); have HR9 := Lib.hid (HR8.out.call hb9); clear hb9)
  clear HSM HLV8 HD8 HR8 HRC8 HO8 HL7 HLL HZ
  go_wp2
  go_loopw [7, 64] (fun lv i wr => ∃ (k : Nat) (X : DX), k ≤ xs.length ∧ i = .int .i64 (k : Int) ∧ Hid (LvW wr p lv) ∧ Hid (DkC w2 wr base p X) ∧ Hid (RmIs wr base m X) ∧ Hid (totF X.fs ≤ 8192 + wgtC (xs.take k) + 240 * k ∧ 0 ≤ X.acts ∧ X.acts ≤ 3 + 2 * (k : Int))) (fun _ i _ => xs.length - (intOf i).toNat)
  case atStart => exact ⟨0, Y, Nat.zero_le _, rfl, HLV9, HD9, HR9, Lib.hid ⟨by have := HGY.out.1; omega, HGY.out.2.1, by have := HGY.out.2.2; simpa using this⟩⟩
  case round =>
    obtain ⟨k, X, hk, rfl, HLV, HD, HRM, HBD⟩ := hrel
    clear HLV9 HD9 HR9 HGY
    by_cases hlt : k < xs.length
    rotate_left
    · obtain rfl : k = xs.length := by omega
      clear hlt hk
      have HC1 := Lib.hid (walopen_nil LG wr)
      have HFB := Lib.hid (HBF.out _ HD.out.below)
      go_wp2_with (first
        | (go_at_call 13; (with_reducible refine (HC1.out).mono ?_); rintro e w10 ⟨rfl, hb10⟩; have HFB2 := Lib.hid (HFB.out.trans (hb10.mono HFB.out.size)); have HC2 := Lib.hid (logappend_nil (.slice none 0 0) w10); have HC3 := Lib.hid (logsync_nil w10); have HC4 := Lib.hid (logreset_nil (.slice none 0 0) w10); clear hb10)
        | (go_at_call 16; (with_reducible refine (HC2.out).mono ?_); rintro e w11 ⟨rfl, rfl⟩)
        | (go_at_call 19; (with_reducible refine (HC3.out).mono ?_); rintro e w11 ⟨rfl, rfl⟩)
        | (go_at_call 21; (with_reducible refine (HC4.out).mono ?_); rintro e w11 ⟨rfl, rfl⟩))
      go_ret
      exact ⟨rfl, HFB2.out⟩
    have hV0 := HV.out _ HD.out.below
    obtain ⟨g, o, rfl, hrg⟩ := CaK_at hV0.2.1 hlt
    have hld := range_ca hrg
    have HSU := Lib.hid (wgtC_succ xs k hlt)
    have hmem := List.getElem_mem hlt
    have h20 := HT20.out _ hmem
    obtain ⟨x, hx⟩ : ∃ x, x = xs[k] := ⟨_, rfl⟩
    rw [← hx] at hld hmem HSU h20
    have HXM := Lib.hid hmem
    have HSZ : Hid (wgtC (xs.take (k + 1)) ≤ 8192) := Lib.hid (by
      have h1 : wgtC xs = wgtC (xs.take (k + 1)) + wgtC (xs.drop (k + 1)) := by
        conv => lhs; rw [← List.take_append_drop (k + 1) xs]
        unfold wgtC
        rw [List.map_append, List.sum_append]
      have := HWG.out
      omega)
    have H20 := Lib.hid h20
    have HSB : Hid (sumT x.ts + x.b.l.length ≤ 8192 ∧ (framesB (x.ts.map TX.l)).length ≤ 240 + sumT x.ts ∧ totF X.fs ≤ 30000 ∧ 0 ≤ X.acts ∧ X.acts ≤ 100) := Lib.hid (by
      have h1 := HSU.out
      have h2 := HSZ.out
      have h3 := HBD.out
      rw [sumT_frames]
      refine ⟨by omega, by omega, by omega, h3.2.1, by omega⟩)
    obtain ⟨w10, hst, hbx, hbl⟩ := laid_ca wr #[.int .i64 0, .slice none 0 0, .int .i64 0, .int .i64 0, .slice none 0 0] rfl x
    have HW : Hid (WlW w2 w10 base p m wr.heap.size x u7 X X) := Lib.hid ⟨HD.out.call hbl, HRM.out.call hbl, HLV.out.call hbl, hbx⟩
    have b0 : w10.cell? ⟨wr.heap.size, 0, none⟩ = some (.int .i64 x.kind) := hbx.cell 0
    clear hV0 hrg hmem hx h20 hbx hbl HD HRM HLV
    go_upto_block 2 with fail
    clear hst hld
    generalize wr.heap.size = cb at *
    obtain ⟨lv, hlv⟩ : ∃ lv, lv = u7 := ⟨_, rfl⟩
    rw [← hlv] at HW ⊢
    clear hlv
    go_cut [7, 14] (fun lv2 ok wx => ok = .bool true ∧ ∃ Y : DX, Hid (WlW w2 wx base p m cb x lv2 Y Y) ∧ Hid (totF Y.fs ≤ totF X.fs + (240 + sumT x.ts + x.b.l.length) ∧ X.acts ≤ Y.acts ∧ Y.acts ≤ X.acts + 2))
    case first =>
      by_cases q0 : x.kind = 0
      · have e0 : (x.kind == 0) = true := by simp [q0]
        clear q0
        rcases HW.out.lg with hlv | ⟨q, hlv, hq⟩
        · subst hlv
          go_upto_region 18 with fail
          obtain ⟨wd, hwd⟩ : ∃ wd, wd = w10.drew := ⟨_, rfl⟩
          have HWD : Hid (WlW w2 wd base p m cb x (.pointer none) X X) := Lib.hid (by rw [hwd]; exact HW.out.call (drew_below _))
          refine wp_region_held_drew (S := fun _ => True) (by kernel_rfl) trivial (fun hS => ?_)
          rw [← hwd]
          clear hwd
          (refine take_at8 (i := 0) (d := 72) (v := .pointer none) rfl (by kernel_rfl) (by kernel_rfl) (by kernel_rfl) (fun _ _ _ h => h) rfl (Or.inl ⟨by kernel_rfl, fun w hSw => by go_simp⟩) hS ?_)
          (refine take_at8 (i := 1) (d := 73) (v := .bool true) rfl (by kernel_rfl) (by kernel_rfl) (by kernel_rfl) (fun _ _ _ h => h) rfl (Or.inl ⟨by kernel_rfl, fun w hSw => by go_simp⟩) hS ?_)
          (refine take_at8 (i := 2) (d := 74) (v := .bool true) rfl (by kernel_rfl) (by kernel_rfl) (by kernel_rfl) (fun _ _ _ h => h) rfl (Or.inl ⟨by kernel_rfl, fun w hSw => by go_simp⟩) hS ?_)
          (refine take_at8 (i := 3) (d := 75) (v := undef) rfl (by kernel_rfl) (by kernel_rfl) (by kernel_rfl) (fun _ _ _ h => h) rfl (Or.inr ⟨by kernel_rfl, rfl⟩) hS ?_)
          (refine take_at8 (i := 4) (d := 76) (v := undef) rfl (by kernel_rfl) (by kernel_rfl) (by kernel_rfl) (fun _ _ _ h => h) rfl (Or.inr ⟨by kernel_rfl, rfl⟩) hS ?_)
          (refine take_at8 (i := 5) (d := 77) (v := undef) rfl (by kernel_rfl) (by kernel_rfl) (by kernel_rfl) (fun _ _ _ h => h) rfl (Or.inr ⟨by kernel_rfl, rfl⟩) hS ?_)
          (refine take_at8 (i := 6) (d := 78) (v := undef) rfl (by kernel_rfl) (by kernel_rfl) (by kernel_rfl) (fun _ _ _ h => h) rfl (Or.inr ⟨by kernel_rfl, rfl⟩) hS ?_)
          (refine take_at8 (i := 7) (d := 79) (v := undef) rfl (by kernel_rfl) (by kernel_rfl) (by kernel_rfl) (fun _ _ _ h => h) rfl (Or.inr ⟨by kernel_rfl, rfl⟩) hS ?_)
          (refine take_at8 (i := 8) (d := 80) (v := undef) rfl (by kernel_rfl) (by kernel_rfl) (by kernel_rfl) (fun _ _ _ h => h) rfl (Or.inr ⟨by kernel_rfl, rfl⟩) hS ?_)
          (refine take_at8 (i := 9) (d := 81) (v := undef) rfl (by kernel_rfl) (by kernel_rfl) (by kernel_rfl) (fun _ _ _ h => h) rfl (Or.inr ⟨by kernel_rfl, rfl⟩) hS ?_)
          (refine take_at8 (i := 10) (d := 82) (v := undef) rfl (by kernel_rfl) (by kernel_rfl) (by kernel_rfl) (fun _ _ _ h => h) rfl (Or.inr ⟨by kernel_rfl, rfl⟩) hS ?_)
          (refine take_at8 (i := 11) (d := 83) (v := undef) rfl (by kernel_rfl) (by kernel_rfl) (by kernel_rfl) (fun _ _ _ h => h) rfl (Or.inr ⟨by kernel_rfl, rfl⟩) hS ?_)
          (refine take_at8 (i := 12) (d := 84) (v := undef) rfl (by kernel_rfl) (by kernel_rfl) (by kernel_rfl) (fun _ _ _ h => h) rfl (Or.inr ⟨by kernel_rfl, rfl⟩) hS ?_)
          (refine take_at8 (i := 13) (d := 85) (v := undef) rfl (by kernel_rfl) (by kernel_rfl) (by kernel_rfl) (fun _ _ _ h => h) rfl (Or.inr ⟨by kernel_rfl, rfl⟩) hS ?_)
          (refine take_at8 (i := 14) (d := 86) (v := .bool true) rfl (by kernel_rfl) (by kernel_rfl) (by kernel_rfl) (fun _ _ _ h => h) rfl (Or.inl ⟨by kernel_rfl, fun w hSw => by go_simp⟩) hS ?_)
          (refine take_at8 (i := 15) (d := 14) (v := .bool true) rfl (by kernel_rfl) (by kernel_rfl) (by kernel_rfl) (fun _ _ _ h => h) rfl (Or.inl ⟨by kernel_rfl, fun w hSw => by go_simp⟩) hS ?_)
          refine wpAnyH_done (by kernel_rfl) ?_ _
          go_simp
          go_wp2
          go_meet
          exact ⟨rfl, X, HWD, Lib.hid ⟨by omega, by omega, by omega⟩⟩
        · subst hlv
          obtain ⟨a0, Y, hA⟩ : ∃ a0 Y, X.append LG (framesB (x.ts.map TX.l)) = (a0, Y) := ⟨_, _, rfl⟩
          have HA := Lib.hid hA
          have HFL : Hid ((framesB (x.ts.map TX.l)).length ≤ 10000 ∧ totF X.fs + (framesB (x.ts.map TX.l)).length ≤ 1000000) := Lib.hid (by have := HSB.out; omega)
          have HGR : Hid (totF Y.fs ≤ totF X.fs + (240 + sumT x.ts + x.b.l.length) ∧ X.acts ≤ Y.acts ∧ Y.acts ≤ X.acts + 2) := Lib.hid (by
            have hg := gr_append HW.out.rm.one (framesB (x.ts.map TX.l)) HFL.out.2
            rw [hA] at hg
            obtain ⟨g1, g2, g3⟩ := hg
            have g1' : totF Y.fs ≤ totF X.fs + (framesB (x.ts.map TX.l)).length := g1
            have g2' : X.acts ≤ Y.acts := g2
            have g3' : Y.acts ≤ X.acts + 1 := g3
            have := HSB.out
            omega)
          have HFW : Hid (X.Few) := Lib.hid HW.out.rm.few
          have HAC : Hid (X.acts + 1 < 1000000) := Lib.hid (by have := HSB.out; omega)
          clear hA hq
          go_upto_region 18 with fail
          obtain ⟨wd, hwd⟩ : ∃ wd, wd = w10.drew := ⟨_, rfl⟩
          have HWD : Hid (WlW w2 wd base p m cb x (.pointer (some ⟨q, 0, none⟩)) X X) := Lib.hid (by rw [hwd]; exact HW.out.call (drew_below _))
          refine wp_region_held_drew (S := fun w' => w'.cell? ⟨cb, 1, none⟩ = some (.slice x.A x.ts.length x.c)) (by kernel_rfl) (by rw [← hwd]; exact HWD.out.cells.2.1) (fun hS => ?_)
          rw [← hwd] at hS ⊢
          clear hwd
          have hvd := HV.out _ HWD.out.dk.below
          have hqd : LogW wd q p LG := by
            rcases HWD.out.lg with e | ⟨q', e, hl⟩
            · cases e
            · injection e with e; injection e with e; injection e with e; subst e; exact hl
          have HC1 := Lib.hid (lgappend_c HWD.out.dk hqd HBS.out HR2.out x.ts x.A x.ts.length x.c rfl LG_small HFW.out (by have := HFL.out; omega) (hvd.2.2 x HXM.out).1 (hvd.2.2 x HXM.out).2.2 a0 Y HA.out)
          clear hvd hqd
          (refine take_at8 (i := 0) (d := 72) (v := .pointer (some ⟨q, 0, none⟩)) rfl (by kernel_rfl) (by kernel_rfl) (by kernel_rfl) (fun _ _ _ h => h) rfl (Or.inl ⟨by kernel_rfl, fun w hSw => by go_simp⟩) hS ?_)
          (refine take_at8 (i := 1) (d := 73) (v := .bool false) rfl (by kernel_rfl) (by kernel_rfl) (by kernel_rfl) (fun _ _ _ h => h) rfl (Or.inl ⟨by kernel_rfl, fun w hSw => by go_simp⟩) hS ?_)
          (refine take_at8 (i := 2) (d := 74) (v := .bool false) rfl (by kernel_rfl) (by kernel_rfl) (by kernel_rfl) (fun _ _ _ h => h) rfl (Or.inl ⟨by kernel_rfl, fun w hSw => by go_simp⟩) hS ?_)
          (refine take_at8 (i := 3) (d := 75) (v := .pointer (some ⟨q, 0, none⟩)) rfl (by kernel_rfl) (by kernel_rfl) (by kernel_rfl) (fun _ _ _ h => h) rfl (Or.inl ⟨by kernel_rfl, fun w hSw => by go_simp⟩) hS ?_)
          (refine take_at8 (i := 4) (d := 76) (v := .pointer (some ⟨cb, 1, none⟩)) rfl (by kernel_rfl) (by kernel_rfl) (by kernel_rfl) (fun _ _ _ h => h) rfl (Or.inl ⟨by kernel_rfl, fun w hSw => by go_simp⟩) hS ?_)
          (refine take_at8 (i := 5) (d := 77) (v := .slice x.A x.ts.length x.c) rfl (by kernel_rfl) (by kernel_rfl) (by kernel_rfl) (fun _ _ _ h => h) rfl (Or.inl ⟨by kernel_rfl, fun w hSw => by have hc := hSw; go_simp⟩) hS ?_)
          (refine take_at8 (i := 7) (d := 79) (v := .pointer (some ⟨m, 0, none⟩)) rfl (by kernel_rfl) (by kernel_rfl) (by kernel_rfl) (fun _ _ _ h => h) rfl (Or.inl ⟨by kernel_rfl, fun w hSw => by go_simp⟩) hS ?_)
          (refine take_at8 (i := 8) (d := 80) (v := .pointer (some ⟨cb, 1, none⟩)) rfl (by kernel_rfl) (by kernel_rfl) (by kernel_rfl) (fun _ _ _ h => h) rfl (Or.inl ⟨by kernel_rfl, fun w hSw => by go_simp⟩) hS ?_)
          (refine take_at8 (i := 9) (d := 81) (v := .slice x.A x.ts.length x.c) rfl (by kernel_rfl) (by kernel_rfl) (by kernel_rfl) (fun _ _ _ h => h) rfl (Or.inl ⟨by kernel_rfl, fun w hSw => by have hc := hSw; go_simp⟩) hS ?_)
          refine wpAnyH_ready (rs := [6]) (by decide +kernel) (by simp) (AllReadyH.cons rfl (fun K hK => ?_) AllReadyH.nil)
          go_simp
          (go_at_call 16; (with_reducible refine (HC1.out).mono ?_); rintro e w11 ⟨rfl, hd11, hb11⟩)
          have HW11 := Lib.hid (HWD.out.bt hb11 hd11)
          clear hd11 hb11
          have hv11 := HV.out _ HW11.out.dk.below
          have HC2 := Lib.hid (texts_any17 x.ts x.A x.c (by have := H20.out; omega) w11 (hv11.2.2 x HXM.out).1 (hv11.2.2 x HXM.out).2.2)
          clear hv11
          refine hK.out _ _ (HW11.out.cells.2.1) (fun hS => ?_)
          clear hK K
          (try simp only [Act.put])
          refine wpAnyH_ready (rs := [10]) (by decide +kernel) (by simp) (AllReadyH.cons rfl (fun K hK => ?_) AllReadyH.nil)
          go_simp
          (go_at_call 18; (with_reducible refine (HC2.out).mono ?_); rintro e w12 ⟨v12, rfl, ho12, hb12⟩)
          have HW12 := Lib.hid (HW11.out.call hb12)
          clear hb12
          obtain ⟨A12, c12, rfl⟩ := ho12.slice
          have HC3 := Lib.hid (rframes_any (x.ts.map TX.l) (strL (x.ts.map TX.l)) rfl A12 c12 (by have := HFL.out; omega) w12 ho12.see)
          clear ho12
          refine hK.out _ _ (HW12.out.cells.2.1) (fun hS => ?_)
          clear hK K
          (try simp only [Act.put])
          refine wpAnyH_ready (rs := [11]) (by decide +kernel) (by simp) (AllReadyH.cons rfl (fun K hK => ?_) AllReadyH.nil)
          go_simp
          (go_at_call 17; (with_reducible refine (HC3.out).mono ?_); rintro e w13 ⟨rfl, hb13⟩)
          have HW13 := Lib.hid (HW12.out.call hb13)
          clear hb13
          have HC4 := Lib.hid (rm_append base m X (framesB (x.ts.map TX.l)) w13 HW13.out.rm HFL.out.2 HAC.out a0 Y HA.out)
          refine hK.out _ _ (HW13.out.cells.2.1) (fun hS => ?_)
          clear hK K
          (try simp only [Act.put])
          refine wpAnyH_ready (rs := [12]) (by decide +kernel) (by simp) (AllReadyH.cons rfl (fun K hK => ?_) AllReadyH.nil)
          go_simp
          (go_at_call 12; (with_reducible refine (HC4.out).mono ?_); rintro e w14 ⟨rfl, hr14, hf14⟩)
          have HW14 := Lib.hid (HW13.out.rt hf14 hr14)
          clear hr14 hf14
          refine hK.out _ _ (HW14.out.cells.2.1) (fun hS => ?_)
          clear hK K
          (try simp only [Act.put])
          (refine take_at8 (i := 13) (d := 85) (v := .bool true) rfl (by kernel_rfl) (by kernel_rfl) (by kernel_rfl) (fun _ _ _ h => h) rfl (Or.inl ⟨by kernel_rfl, fun w hSw => by go_simp⟩) hS ?_)
          (refine take_at8 (i := 14) (d := 86) (v := .bool true) rfl (by kernel_rfl) (by kernel_rfl) (by kernel_rfl) (fun _ _ _ h => h) rfl (Or.inl ⟨by kernel_rfl, fun w hSw => by go_simp⟩) hS ?_)
          (refine take_at8 (i := 15) (d := 14) (v := .bool true) rfl (by kernel_rfl) (by kernel_rfl) (by kernel_rfl) (fun _ _ _ h => h) rfl (Or.inl ⟨by kernel_rfl, fun w hSw => by go_simp⟩) hS ?_)
          refine wpAnyH_done (by kernel_rfl) ?_ _
          go_simp
          go_wp2
          go_meet
          exact ⟨rfl, Y, HW14, HGR⟩
      have e0 : (x.kind == 0) = false := by simp [q0]
      by_cases q1 : x.kind = 1
      · have e1 : (x.kind == 1) = true := by simp [q1]
        clear q0 q1
        rcases HW.out.lg with hlv | ⟨q, hlv, hq⟩
        · subst hlv
          go_wp2
          go_meet
          exact ⟨rfl, X, HW, Lib.hid ⟨by omega, by omega, by omega⟩⟩
        · subst hlv
          obtain ⟨a0, Y, hA⟩ : ∃ a0 Y, X.sync LG = (a0, Y) := ⟨_, _, rfl⟩
          have HFW : Hid (X.Few) := Lib.hid HW.out.rm.few
          have HAC : Hid (X.acts + 1 < 1000000) := Lib.hid (by have := HSB.out; omega)
          have HGR : Hid (totF Y.fs ≤ totF X.fs + (240 + sumT x.ts + x.b.l.length) ∧ X.acts ≤ Y.acts ∧ Y.acts ≤ X.acts + 2) := Lib.hid (by
            have hg := gr_sync HW.out.rm.one (by have := HSB.out; omega)
            rw [hA] at hg
            obtain ⟨g1, g2, g3⟩ := hg
            have g1' : totF Y.fs ≤ totF X.fs + 0 := g1
            have g2' : X.acts ≤ Y.acts := g2
            have g3' : Y.acts ≤ X.acts + 1 := g3
            have := HSB.out
            omega)
          have HC1 := Lib.hid (lgsync_c HW.out.dk hq LG_small HFW.out a0 Y hA)
          have HA := Lib.hid hA
          clear hA hq
          go_wp2_with (first
            | (go_at_call 19; (with_reducible refine (HC1.out).mono ?_); rintro e w11 ⟨rfl, hd11, hb11⟩; have HW11 := Lib.hid (HW.out.bt hb11 hd11); have HC2 := Lib.hid (rm_sync base m X w11 HW11.out.rm HAC.out a0 Y HA.out); clear hd11 hb11)
            | (go_at_call 20; (with_reducible refine (HC2.out).mono ?_); rintro e w12 ⟨rfl, hr12, hf12⟩; have HW12 := Lib.hid (HW11.out.rt hf12 hr12); clear hr12 hf12))
          go_meet
          exact ⟨rfl, Y, HW12, HGR⟩
      have e1 : (x.kind == 1) = false := by simp [q1]
      by_cases q2 : x.kind = 2
      · have e2 : (x.kind == 2) = true := by simp [q2]
        clear q0 q1 q2
        rcases HW.out.lg with hlv | ⟨q, hlv, hq⟩
        · subst hlv
          go_upto_region 22 with fail
          obtain ⟨wd, hwd⟩ : ∃ wd, wd = w10.drew := ⟨_, rfl⟩
          have HWD : Hid (WlW w2 wd base p m cb x (.pointer none) X X) := Lib.hid (by rw [hwd]; exact HW.out.call (drew_below _))
          refine wp_region_held_drew (S := fun _ => True) (by kernel_rfl) trivial (fun hS => ?_)
          rw [← hwd]
          clear hwd
          (refine take_at8 (i := 0) (d := 100) (v := .pointer none) rfl (by kernel_rfl) (by kernel_rfl) (by kernel_rfl) (fun _ _ _ h => h) rfl (Or.inl ⟨by kernel_rfl, fun w hSw => by go_simp⟩) hS ?_)
          (refine take_at8 (i := 1) (d := 101) (v := .bool true) rfl (by kernel_rfl) (by kernel_rfl) (by kernel_rfl) (fun _ _ _ h => h) rfl (Or.inl ⟨by kernel_rfl, fun w hSw => by go_simp⟩) hS ?_)
          (refine take_at8 (i := 2) (d := 102) (v := .bool true) rfl (by kernel_rfl) (by kernel_rfl) (by kernel_rfl) (fun _ _ _ h => h) rfl (Or.inl ⟨by kernel_rfl, fun w hSw => by go_simp⟩) hS ?_)
          (refine take_at8 (i := 3) (d := 103) (v := undef) rfl (by kernel_rfl) (by kernel_rfl) (by kernel_rfl) (fun _ _ _ h => h) rfl (Or.inr ⟨by kernel_rfl, rfl⟩) hS ?_)
          (refine take_at8 (i := 4) (d := 104) (v := undef) rfl (by kernel_rfl) (by kernel_rfl) (by kernel_rfl) (fun _ _ _ h => h) rfl (Or.inr ⟨by kernel_rfl, rfl⟩) hS ?_)
          (refine take_at8 (i := 5) (d := 105) (v := undef) rfl (by kernel_rfl) (by kernel_rfl) (by kernel_rfl) (fun _ _ _ h => h) rfl (Or.inr ⟨by kernel_rfl, rfl⟩) hS ?_)
          (refine take_at8 (i := 6) (d := 106) (v := undef) rfl (by kernel_rfl) (by kernel_rfl) (by kernel_rfl) (fun _ _ _ h => h) rfl (Or.inr ⟨by kernel_rfl, rfl⟩) hS ?_)
          (refine take_at8 (i := 7) (d := 107) (v := undef) rfl (by kernel_rfl) (by kernel_rfl) (by kernel_rfl) (fun _ _ _ h => h) rfl (Or.inr ⟨by kernel_rfl, rfl⟩) hS ?_)
          (refine take_at8 (i := 8) (d := 108) (v := undef) rfl (by kernel_rfl) (by kernel_rfl) (by kernel_rfl) (fun _ _ _ h => h) rfl (Or.inr ⟨by kernel_rfl, rfl⟩) hS ?_)
          (refine take_at8 (i := 9) (d := 109) (v := undef) rfl (by kernel_rfl) (by kernel_rfl) (by kernel_rfl) (fun _ _ _ h => h) rfl (Or.inr ⟨by kernel_rfl, rfl⟩) hS ?_)
          (refine take_at8 (i := 10) (d := 110) (v := undef) rfl (by kernel_rfl) (by kernel_rfl) (by kernel_rfl) (fun _ _ _ h => h) rfl (Or.inr ⟨by kernel_rfl, rfl⟩) hS ?_)
          (refine take_at8 (i := 11) (d := 111) (v := undef) rfl (by kernel_rfl) (by kernel_rfl) (by kernel_rfl) (fun _ _ _ h => h) rfl (Or.inr ⟨by kernel_rfl, rfl⟩) hS ?_)
          (refine take_at8 (i := 12) (d := 112) (v := undef) rfl (by kernel_rfl) (by kernel_rfl) (by kernel_rfl) (fun _ _ _ h => h) rfl (Or.inr ⟨by kernel_rfl, rfl⟩) hS ?_)
          (refine take_at8 (i := 13) (d := 113) (v := undef) rfl (by kernel_rfl) (by kernel_rfl) (by kernel_rfl) (fun _ _ _ h => h) rfl (Or.inr ⟨by kernel_rfl, rfl⟩) hS ?_)
          (refine take_at8 (i := 14) (d := 114) (v := .bool true) rfl (by kernel_rfl) (by kernel_rfl) (by kernel_rfl) (fun _ _ _ h => h) rfl (Or.inl ⟨by kernel_rfl, fun w hSw => by go_simp⟩) hS ?_)
          (refine take_at8 (i := 15) (d := 14) (v := .bool true) rfl (by kernel_rfl) (by kernel_rfl) (by kernel_rfl) (fun _ _ _ h => h) rfl (Or.inl ⟨by kernel_rfl, fun w hSw => by go_simp⟩) hS ?_)
          refine wpAnyH_done (by kernel_rfl) ?_ _
          go_simp
          go_wp2
          go_meet
          exact ⟨rfl, X, HWD, Lib.hid ⟨by omega, by omega, by omega⟩⟩
        · subst hlv
          obtain ⟨a0, Y, hA⟩ : ∃ a0 Y, X.install LG (framesB (x.ts.map TX.l)) = (a0, Y) := ⟨_, _, rfl⟩
          have HA := Lib.hid hA
          have HFL : Hid ((framesB (x.ts.map TX.l)).length ≤ 10000 ∧ totF X.fs + (framesB (x.ts.map TX.l)).length ≤ 1000000) := Lib.hid (by have := HSB.out; omega)
          have HGR : Hid (totF Y.fs ≤ totF X.fs + (240 + sumT x.ts + x.b.l.length) ∧ X.acts ≤ Y.acts ∧ Y.acts ≤ X.acts + 2) := Lib.hid (by
            have hg := gr_install HW.out.rm.one (framesB (x.ts.map TX.l)) HFL.out.2
            rw [hA] at hg
            obtain ⟨g1, g2, g3⟩ := hg
            have g1' : totF Y.fs ≤ totF X.fs + (framesB (x.ts.map TX.l)).length := g1
            have g2' : X.acts ≤ Y.acts := g2
            have g3' : Y.acts ≤ X.acts + 1 := g3
            have := HSB.out
            omega)
          have HFW : Hid (X.Few) := Lib.hid HW.out.rm.few
          have HAC : Hid (X.acts + 1 < 1000000) := Lib.hid (by have := HSB.out; omega)
          clear hA hq
          go_upto_region 22 with fail
          obtain ⟨wd, hwd⟩ : ∃ wd, wd = w10.drew := ⟨_, rfl⟩
          have HWD : Hid (WlW w2 wd base p m cb x (.pointer (some ⟨q, 0, none⟩)) X X) := Lib.hid (by rw [hwd]; exact HW.out.call (drew_below _))
          refine wp_region_held_drew (S := fun w' => w'.cell? ⟨cb, 1, none⟩ = some (.slice x.A x.ts.length x.c)) (by kernel_rfl) (by rw [← hwd]; exact HWD.out.cells.2.1) (fun hS => ?_)
          rw [← hwd] at hS ⊢
          clear hwd
          have hvd := HV.out _ HWD.out.dk.below
          have hqd : LogW wd q p LG := by
            rcases HWD.out.lg with e | ⟨q', e, hl⟩
            · cases e
            · injection e with e; injection e with e; injection e with e; subst e; exact hl
          have HC1 := Lib.hid (lgreset_c HWD.out.dk hqd HBS.out HR2.out x.ts x.A x.ts.length x.c rfl LG_small HFW.out (by have := HFL.out; omega) (hvd.2.2 x HXM.out).1 (hvd.2.2 x HXM.out).2.2 a0 Y HA.out)
          clear hvd hqd
          (refine take_at8 (i := 0) (d := 100) (v := .pointer (some ⟨q, 0, none⟩)) rfl (by kernel_rfl) (by kernel_rfl) (by kernel_rfl) (fun _ _ _ h => h) rfl (Or.inl ⟨by kernel_rfl, fun w hSw => by go_simp⟩) hS ?_)
          (refine take_at8 (i := 1) (d := 101) (v := .bool false) rfl (by kernel_rfl) (by kernel_rfl) (by kernel_rfl) (fun _ _ _ h => h) rfl (Or.inl ⟨by kernel_rfl, fun w hSw => by go_simp⟩) hS ?_)
          (refine take_at8 (i := 2) (d := 102) (v := .bool false) rfl (by kernel_rfl) (by kernel_rfl) (by kernel_rfl) (fun _ _ _ h => h) rfl (Or.inl ⟨by kernel_rfl, fun w hSw => by go_simp⟩) hS ?_)
          (refine take_at8 (i := 3) (d := 103) (v := .pointer (some ⟨q, 0, none⟩)) rfl (by kernel_rfl) (by kernel_rfl) (by kernel_rfl) (fun _ _ _ h => h) rfl (Or.inl ⟨by kernel_rfl, fun w hSw => by go_simp⟩) hS ?_)
          (refine take_at8 (i := 4) (d := 104) (v := .pointer (some ⟨cb, 1, none⟩)) rfl (by kernel_rfl) (by kernel_rfl) (by kernel_rfl) (fun _ _ _ h => h) rfl (Or.inl ⟨by kernel_rfl, fun w hSw => by go_simp⟩) hS ?_)
          (refine take_at8 (i := 5) (d := 105) (v := .slice x.A x.ts.length x.c) rfl (by kernel_rfl) (by kernel_rfl) (by kernel_rfl) (fun _ _ _ h => h) rfl (Or.inl ⟨by kernel_rfl, fun w hSw => by have hc := hSw; go_simp⟩) hS ?_)
          (refine take_at8 (i := 7) (d := 107) (v := .pointer (some ⟨m, 0, none⟩)) rfl (by kernel_rfl) (by kernel_rfl) (by kernel_rfl) (fun _ _ _ h => h) rfl (Or.inl ⟨by kernel_rfl, fun w hSw => by go_simp⟩) hS ?_)
          (refine take_at8 (i := 8) (d := 108) (v := .pointer (some ⟨cb, 1, none⟩)) rfl (by kernel_rfl) (by kernel_rfl) (by kernel_rfl) (fun _ _ _ h => h) rfl (Or.inl ⟨by kernel_rfl, fun w hSw => by go_simp⟩) hS ?_)
          (refine take_at8 (i := 9) (d := 109) (v := .slice x.A x.ts.length x.c) rfl (by kernel_rfl) (by kernel_rfl) (by kernel_rfl) (fun _ _ _ h => h) rfl (Or.inl ⟨by kernel_rfl, fun w hSw => by have hc := hSw; go_simp⟩) hS ?_)
          refine wpAnyH_ready (rs := [6]) (by decide +kernel) (by simp) (AllReadyH.cons rfl (fun K hK => ?_) AllReadyH.nil)
          go_simp
          (go_at_call 21; (with_reducible refine (HC1.out).mono ?_); rintro e w11 ⟨rfl, hd11, hb11⟩)
          have HW11 := Lib.hid (HWD.out.bt hb11 hd11)
          clear hd11 hb11
          have hv11 := HV.out _ HW11.out.dk.below
          have HC2 := Lib.hid (texts_any17 x.ts x.A x.c (by have := H20.out; omega) w11 (hv11.2.2 x HXM.out).1 (hv11.2.2 x HXM.out).2.2)
          clear hv11
          refine hK.out _ _ (HW11.out.cells.2.1) (fun hS => ?_)
          clear hK K
          (try simp only [Act.put])
          refine wpAnyH_ready (rs := [10]) (by decide +kernel) (by simp) (AllReadyH.cons rfl (fun K hK => ?_) AllReadyH.nil)
          go_simp
          (go_at_call 18; (with_reducible refine (HC2.out).mono ?_); rintro e w12 ⟨v12, rfl, ho12, hb12⟩)
          have HW12 := Lib.hid (HW11.out.call hb12)
          clear hb12
          obtain ⟨A12, c12, rfl⟩ := ho12.slice
          have HC3 := Lib.hid (rframes_any (x.ts.map TX.l) (strL (x.ts.map TX.l)) rfl A12 c12 (by have := HFL.out; omega) w12 ho12.see)
          clear ho12
          refine hK.out _ _ (HW12.out.cells.2.1) (fun hS => ?_)
          clear hK K
          (try simp only [Act.put])
          refine wpAnyH_ready (rs := [11]) (by decide +kernel) (by simp) (AllReadyH.cons rfl (fun K hK => ?_) AllReadyH.nil)
          go_simp
          (go_at_call 17; (with_reducible refine (HC3.out).mono ?_); rintro e w13 ⟨rfl, hb13⟩)
          have HW13 := Lib.hid (HW12.out.call hb13)
          clear hb13
          have HC4 := Lib.hid (rm_install base m X (framesB (x.ts.map TX.l)) w13 HW13.out.rm HFL.out.2 HAC.out a0 Y HA.out)
          refine hK.out _ _ (HW13.out.cells.2.1) (fun hS => ?_)
          clear hK K
          (try simp only [Act.put])
          refine wpAnyH_ready (rs := [12]) (by decide +kernel) (by simp) (AllReadyH.cons rfl (fun K hK => ?_) AllReadyH.nil)
          go_simp
          (go_at_call 22; (with_reducible refine (HC4.out).mono ?_); rintro e w14 ⟨rfl, hr14, hf14⟩)
          have HW14 := Lib.hid (HW13.out.rt hf14 hr14)
          clear hr14 hf14
          refine hK.out _ _ (HW14.out.cells.2.1) (fun hS => ?_)
          clear hK K
          (try simp only [Act.put])
          (refine take_at8 (i := 13) (d := 113) (v := .bool true) rfl (by kernel_rfl) (by kernel_rfl) (by kernel_rfl) (fun _ _ _ h => h) rfl (Or.inl ⟨by kernel_rfl, fun w hSw => by go_simp⟩) hS ?_)
          (refine take_at8 (i := 14) (d := 114) (v := .bool true) rfl (by kernel_rfl) (by kernel_rfl) (by kernel_rfl) (fun _ _ _ h => h) rfl (Or.inl ⟨by kernel_rfl, fun w hSw => by go_simp⟩) hS ?_)
          (refine take_at8 (i := 15) (d := 14) (v := .bool true) rfl (by kernel_rfl) (by kernel_rfl) (by kernel_rfl) (fun _ _ _ h => h) rfl (Or.inl ⟨by kernel_rfl, fun w hSw => by go_simp⟩) hS ?_)
          refine wpAnyH_done (by kernel_rfl) ?_ _
          go_simp
          go_wp2
          go_meet
          exact ⟨rfl, Y, HW14, HGR⟩
      have e2 : (x.kind == 2) = false := by simp [q2]
      by_cases q3 : x.kind = 3
      · have e3 : (x.kind == 3) = true := by simp [q3]
        clear q0 q1 q2 q3
        have hn : -9223372036854775808 ≤ x.n ∧ x.n < 9223372036854775808 := (HII.out x HXM.out).1
        have HNN := Lib.hid hn
        have b2 : w10.cell? ⟨cb, 2, none⟩ = some (.int .i64 x.n) := HW.out.cells.2.2.1
        have HC1 := Lib.hid (dkoff_cb HW.out.dk x.n hn)
        have hto := tot_off X x.n
        have HON : Hid (totF ((X.off x.n).on).fs ≤ 30000 ∧ ((X.off x.n).on).acts = X.acts ∧ totF ((X.off x.n).on).fs ≤ totF X.fs) := Lib.hid (by
          have h1 : totF ((X.off x.n).on).fs = totF (X.off x.n).fs := rfl
          have h2 : ((X.off x.n).on).acts = (X.off x.n).acts := rfl
          have := HSB.out
          omega)
        clear hn hto
        go_upto_region 25 with (go_at_call 23; (with_reducible refine (HC1.out).mono ?_); rintro e w11 ⟨rfl, hd11, hb11⟩; have HW11 := Lib.hid (HW.out.bt hb11 hd11); have HC2 := Lib.hid (rm_lose base m X x.n HNN.out w11 HW11.out.rm); have d2 : w11.cell? ⟨cb, 2, none⟩ = some (.int .i64 x.n) := HW11.out.cells.2.2.1; clear hd11 hb11)
        go_upto_region 26 with (go_at_call 24; (with_reducible refine (HC2.out).mono ?_); rintro e w12 ⟨rfl, hr12, hf12⟩; have HW12 := Lib.hid (HW11.out.rt hf12 hr12); have HC3 := Lib.hid (dkon_cb HW12.out.dk); clear hr12 hf12)
        clear d2 b2
        go_upto_region 27 with (go_at_call 25; (with_reducible refine (HC3.out).mono ?_); rintro e w13 ⟨rfl, hd13, hb13⟩; have HW13 := Lib.hid (HW12.out.bt hb13 hd13); clear hd13 hb13)
        obtain ⟨f1, c1, hr14, hf14⟩ := rm_on HW13.out.rm
        have HW14 := Lib.hid (HW13.out.rt hf14 hr14)
        obtain ⟨w14, hw14⟩ : ∃ w14, w14 = w13.setCell ⟨m, 1, none⟩ (.bool false) := ⟨_, rfl⟩
        rw [← hw14] at HW14
        have HWE := Lib.hid hw14
        clear hr14 hf14 hw14
        go_upto_region 28 with fail
        rw [← HWE.out]
        obtain ⟨Z, hZ0⟩ : ∃ Z, Z = (X.off x.n).on := ⟨_, rfl⟩
        rw [← hZ0] at HW14 HON
        clear f1 c1 hZ0 HWE
        obtain ⟨a0, L3, Y, hZ⟩ : ∃ a0 L Y, Z.wopen LG = (a0, L, Y) := ⟨_, _, _, rfl⟩
        have hgw := gr_wopen HW14.out.rm.one (by have := HON.out; omega)
        rw [hZ] at hgw
        obtain ⟨⟨g1, g2, g3⟩, hll⟩ := hgw
        have HLL : Hid (L3.length ≤ 100000) := Lib.hid hll
        have HGR : Hid (totF Y.fs ≤ totF X.fs + (240 + sumT x.ts + x.b.l.length) ∧ X.acts ≤ Y.acts ∧ Y.acts ≤ X.acts + 2) := Lib.hid (by
          have g1' : totF Y.fs ≤ totF Z.fs + 0 := g1
          have g2' : Z.acts ≤ Y.acts := g2
          have g3' : Y.acts ≤ Z.acts + 2 := g3
          have := HON.out
          omega)
        have HRO : Hid (Z.Room 2) := Lib.hid (HW14.out.rm.room (by have := HON.out; have := HSB.out; omega))
        have HZ3 := Lib.hid hZ
        have HT3 : Hid (totF Z.fs ≤ 100000) := Lib.hid (by have := HON.out; omega)
        have HC4 := Lib.hid (lgopen_both HW14.out.dk HBS.out HR2.out HRO.out a0 L3 Y hZ)
        clear g1 g2 g3 hll hZ HC1 HC2 HC3
        go_upto_region 29 with (go_at_call 13; (with_reducible refine (HC4.out).mono ?_); rintro e w15 ⟨lv3, A15, c15, ts15, rfl, hlv15, hr15, hl15, hd15, hb15⟩; have HC5 := Lib.hid (ropen_any base m Z w15 (HW14.out.rm.bt hb15) HT3.out HRO.out a0 L3 Y HZ3.out); have HRC15 := Lib.hid hr15; have HL15 := Lib.hid hl15; have HW15 : Hid (WlW w2 w15 base p m cb x lv3 Y Z) := Lib.hid ⟨hd15, HW14.out.rm.bt hb15, hlv15, hb15.box HW14.out.cx (by decide) (by decide) (fun _ => by decide)⟩; clear hlv15 hr15 hl15 hd15 hb15)
        go_upto_region 30 with (go_at_call 14; (with_reducible refine (HC5.out).mono ?_); rintro e w16 ⟨v16, rfl, ho16, hr16, hf16⟩; have HW16 := Lib.hid (HW15.out.rt hf16 hr16); have HRC16 := Lib.hid (HRC15.out.rt hf16); have HO16 := Lib.hid ho16; clear hr16 hf16 ho16)
        obtain ⟨A16, c16, rfl⟩ := HO16.out.slice
        obtain ⟨_, _, he16, hs16, ht16⟩ := HRC16.out.see
        injection he16 with he161 _ he163
        subst he161
        have hl16 : ts15.length = L3.length := by rw [← HL15.out, List.length_map]
        have HSM := Lib.hid (same_true17 ts15 _ c15 (strL L3) A16 (strL L3).length c16 rfl (by rw [HL15.out]) (by rw [hl16]; have := HLL.out; omega) w16 hs16 ht16 HO16.out.see)
        clear hs16 ht16 hl16 he163 HC4 HC5 HRC15 HW15
        go_wp2_with (go_at_call 15; (with_reducible refine (HSM.out).mono ?_); rintro e w17 ⟨rfl, hb17⟩; have HW17 := Lib.hid (HW16.out.call hb17); clear hb17)
        go_meet
        exact ⟨rfl, Y, HW17, HGR⟩
      have e3 : (x.kind == 3) = false := by simp [q3]
      by_cases q4 : x.kind = 4
      · have e4 : (x.kind == 4) = true := by simp [q4]
        clear q0 q1 q2 q3 q4
        obtain ⟨hn, hk4⟩ := HII.out x HXM.out
        have HNN := Lib.hid hn
        have HKK := Lib.hid hk4
        have b2 : w10.cell? ⟨cb, 2, none⟩ = some (.int .i64 x.n) := HW.out.cells.2.2.1
        have b3 : w10.cell? ⟨cb, 3, none⟩ = some (.int .i64 x.k) := HW.out.cells.2.2.2.1
        have HC1 := Lib.hid (dkarm_cb HW.out.dk x.n x.k hn hk4)
        clear hn hk4
        go_upto_region 33 with (go_at_call 26; (with_reducible refine (HC1.out).mono ?_); rintro e w11 ⟨rfl, hd11, hb11⟩; have HW11 := Lib.hid (HW.out.bt hb11 hd11); have HC2 := Lib.hid (rm_arm base m X x.n x.k HNN.out HKK.out w11 HW11.out.rm); have d2 : w11.cell? ⟨cb, 2, none⟩ = some (.int .i64 x.n) := HW11.out.cells.2.2.1; have d3 : w11.cell? ⟨cb, 3, none⟩ = some (.int .i64 x.k) := HW11.out.cells.2.2.2.1; clear hd11 hb11)
        go_wp2_with (go_at_call 27; (with_reducible refine (HC2.out).mono ?_); rintro e w12 ⟨rfl, hr12, hf12⟩; have HW12 := Lib.hid (HW11.out.rt hf12 hr12); clear hr12 hf12)
        go_meet
        exact ⟨rfl, X.arm x.n x.k, HW12, Lib.hid ⟨by show totF X.fs ≤ _; omega, Int.le_refl _, by show X.acts ≤ _; omega⟩⟩
      have e4 : (x.kind == 4) = false := by simp [q4]
      by_cases q5 : x.kind = 5
      · have e5 : (x.kind == 5) = true := by simp [q5]
        clear q0 q1 q2 q3 q4 q5
        obtain ⟨a0, Y, hA⟩ : ∃ a0 Y, X.append LG x.b.l = (a0, Y) := ⟨_, _, rfl⟩
        have HA := Lib.hid hA
        have HFL : Hid (totF X.fs + x.b.l.length ≤ 1000000) := Lib.hid (by have := HSB.out; omega)
        have HGR : Hid (totF Y.fs ≤ totF X.fs + (240 + sumT x.ts + x.b.l.length) ∧ X.acts ≤ Y.acts ∧ Y.acts ≤ X.acts + 2) := Lib.hid (by
          have hg := gr_append HW.out.rm.one x.b.l HFL.out
          rw [hA] at hg
          obtain ⟨g1, g2, g3⟩ := hg
          have g1' : totF Y.fs ≤ totF X.fs + x.b.l.length := g1
          have g2' : X.acts ≤ Y.acts := g2
          have g3' : Y.acts ≤ X.acts + 1 := g3
          have := HSB.out
          omega)
        have HFW : Hid (X.Few) := Lib.hid HW.out.rm.few
        have HAC : Hid (X.acts + 1 < 1000000) := Lib.hid (by have := HSB.out; omega)
        have HCV : Hid (∀ wX, Below base w2 wX → (convert 22 9 (.slice x.b.A x.b.l.length x.b.c)).run Tryd.prog wX = .ok (str x.b.l) wX) := Lib.hid (fun wX hb => bytes_conv17 ((HV.out wX hb).2.2 x HXM.out).2.1 x.b.c)
        clear hA
        go_upto_region 35 with fail
        obtain ⟨wd, hwd⟩ : ∃ wd, wd = w10.drew := ⟨_, rfl⟩
        have HWD : Hid (WlW w2 wd base p m cb x lv X X) := Lib.hid (by rw [hwd]; exact HW.out.call (drew_below _))
        refine wp_region_held_drew (S := fun w' => w'.cell? ⟨cb, 4, none⟩ = some (.slice x.b.A x.b.l.length x.b.c) ∧ (convert 22 9 (.slice x.b.A x.b.l.length x.b.c)).run Tryd.prog w' = .ok (str x.b.l) w') (by kernel_rfl) (by rw [← hwd]; exact ⟨HWD.out.cells.2.2.2.2, HCV.out _ HWD.out.dk.below⟩) (fun hS => ?_)
        rw [← hwd] at hS ⊢
        clear hwd
        have HC1 := Lib.hid (dkappend_cb HWD.out.dk x.b.l x.b.A x.b.l.length x.b.c rfl HFW.out ((HV.out _ HWD.out.dk.below).2.2 x HXM.out).2.1 a0 Y HA.out)
        (refine take_at8 (i := 0) (d := 165) (v := .pointer (some ⟨p, 0, none⟩)) rfl (by kernel_rfl) (by kernel_rfl) (by kernel_rfl) (fun _ _ _ h => h) rfl (Or.inl ⟨by kernel_rfl, fun w hSw => by go_simp⟩) hS ?_)
        (refine take_at8 (i := 1) (d := 166) (v := .pointer (some ⟨cb, 4, none⟩)) rfl (by kernel_rfl) (by kernel_rfl) (by kernel_rfl) (fun _ _ _ h => h) rfl (Or.inl ⟨by kernel_rfl, fun w hSw => by go_simp⟩) hS ?_)
        (refine take_at8 (i := 2) (d := 167) (v := .slice x.b.A x.b.l.length x.b.c) rfl (by kernel_rfl) (by kernel_rfl) (by kernel_rfl) (fun _ _ _ h => h) rfl (Or.inl ⟨by kernel_rfl, fun w hSw => by have hc := hSw.1; go_simp⟩) hS ?_)
        (refine take_at8 (i := 4) (d := 169) (v := .pointer (some ⟨m, 0, none⟩)) rfl (by kernel_rfl) (by kernel_rfl) (by kernel_rfl) (fun _ _ _ h => h) rfl (Or.inl ⟨by kernel_rfl, fun w hSw => by go_simp⟩) hS ?_)
        (refine take_at8 (i := 5) (d := 170) (v := .pointer (some ⟨cb, 4, none⟩)) rfl (by kernel_rfl) (by kernel_rfl) (by kernel_rfl) (fun _ _ _ h => h) rfl (Or.inl ⟨by kernel_rfl, fun w hSw => by go_simp⟩) hS ?_)
        (refine take_at8 (i := 6) (d := 171) (v := .slice x.b.A x.b.l.length x.b.c) rfl (by kernel_rfl) (by kernel_rfl) (by kernel_rfl) (fun _ _ _ h => h) rfl (Or.inl ⟨by kernel_rfl, fun w hSw => by have hc := hSw.1; go_simp⟩) hS ?_)
        (refine take_at8 (i := 7) (d := 172) (v := str x.b.l) rfl (by kernel_rfl) (by kernel_rfl) (by kernel_rfl) (fun _ _ _ h => h) rfl (Or.inl ⟨by kernel_rfl, fun w hSw => by have hc := hSw.2; go_simp⟩) hS ?_)
        refine wpAnyH_ready (rs := [3]) (by decide +kernel) (by simp) (AllReadyH.cons rfl (fun K hK => ?_) AllReadyH.nil)
        go_simp
        (go_at_call 11; (with_reducible refine (HC1.out).mono ?_); rintro e w11 ⟨rfl, hd11, hb11⟩)
        have HW11 := Lib.hid (HWD.out.bt hb11 hd11)
        clear hd11 hb11
        have HC2 := Lib.hid (rm_append base m X x.b.l w11 HW11.out.rm HFL.out HAC.out a0 Y HA.out)
        refine hK.out _ _ (⟨HW11.out.cells.2.2.2.2, HCV.out _ HW11.out.dk.below⟩) (fun hS => ?_)
        clear hK K
        (try simp only [Act.put])
        refine wpAnyH_ready (rs := [8]) (by decide +kernel) (by simp) (AllReadyH.cons rfl (fun K hK => ?_) AllReadyH.nil)
        go_simp
        (go_at_call 12; (with_reducible refine (HC2.out).mono ?_); rintro e w12 ⟨rfl, hr12, hf12⟩)
        have HW12 := Lib.hid (HW11.out.rt hf12 hr12)
        clear hr12 hf12
        refine hK.out _ _ (⟨HW12.out.cells.2.2.2.2, HCV.out _ HW12.out.dk.below⟩) (fun hS => ?_)
        clear hK K
        (try simp only [Act.put])
        (refine take_at8 (i := 9) (d := 174) (v := .bool true) rfl (by kernel_rfl) (by kernel_rfl) (by kernel_rfl) (fun _ _ _ h => h) rfl (Or.inl ⟨by kernel_rfl, fun w hSw => by go_simp⟩) hS ?_)
        (refine take_at8 (i := 10) (d := 14) (v := .bool true) rfl (by kernel_rfl) (by kernel_rfl) (by kernel_rfl) (fun _ _ _ h => h) rfl (Or.inl ⟨by kernel_rfl, fun w hSw => by go_simp⟩) hS ?_)
        refine wpAnyH_done (by kernel_rfl) ?_ _
        go_simp
        go_wp2
        go_meet
        exact ⟨rfl, Y, HW12, HGR⟩
      have e5 : (x.kind == 5) = false := by simp [q5]
      clear q0 q1 q2 q3 q4 q5
      go_wp2
      go_meet
      exact ⟨rfl, X, HW, Lib.hid ⟨by omega, by omega, by omega⟩⟩
    case rest =>
      obtain ⟨rfl, Y, HY, HG⟩ := hcut
      clear HW b0
      obtain ⟨d, r, hrd⟩ : ∃ d r, Y.read LG = (d, r) := ⟨_, _, rfl⟩
      have HRD := Lib.hid hrd
      have HC1 := Lib.hid (dkread_c HY.out.dk LG d d.length r rfl hrd LG_small)
      clear hrd
      go_upto_region 37 with (go_at_call 28; (with_reducible refine (HC1.out).mono ?_); rintro e w20 ⟨A20, c20, rfl, ho20, hb20, hd20⟩; have HY20 := Lib.hid (HY.out.call hb20); have HO20 := Lib.hid ho20; have HC2 := Lib.hid (rm_read base m Y w20 HY20.out.rm d r HRD.out); clear ho20 hb20 hd20)
      go_upto_region 38 with (go_at_call 29; (with_reducible refine (HC2.out).mono ?_); rintro e w21 ⟨rfl, hb21⟩; have HY21 := Lib.hid (HY20.out.call hb21); have HO21 := Lib.hid (HO20.out.keep hb21); clear hb21)
      obtain ⟨wd, hwd⟩ : ∃ wd, wd = w21.drew := ⟨_, rfl⟩
      have HYD : Hid (WlW w2 wd base p m cb x u7 Y Y) := Lib.hid (by rw [hwd]; exact HY21.out.call (drew_below _))
      have hcv : (convert 22 9 (.slice A20 d.length c20)).run Tryd.prog wd = .ok (str d) wd := by
        rw [hwd]
        exact conv16 (HO21.out.keep (drew_below _))
      have HAC := Lib.hid (dkacts_any base p Y wd HYD.out.dk.is_)
      refine wp_region_held_drew (S := fun w' => (convert 22 9 (.slice A20 d.length c20)).run Tryd.prog w' = .ok (str d) w' ∧ w'.cell? ⟨m, 2, none⟩ = some (.int .i64 Y.acts)) (by kernel_rfl) (by rw [← hwd]; exact ⟨hcv, HYD.out.rm.actc⟩) (fun hS => ?_)
      rw [← hwd] at hS ⊢
      clear hwd hcv
      (refine take_at8 (i := 0) (d := 185) (v := .bool true) rfl (by kernel_rfl) (by kernel_rfl) (by kernel_rfl) (fun _ _ _ h => h) rfl (Or.inl ⟨by kernel_rfl, fun w hSw => by go_simp⟩) hS ?_)
      (refine take_at8 (i := 1) (d := 186) (v := .bool false) rfl (by kernel_rfl) (by kernel_rfl) (by kernel_rfl) (fun _ _ _ h => h) rfl (Or.inl ⟨by kernel_rfl, fun w hSw => by go_simp⟩) hS ?_)
      (refine take_at8 (i := 2) (d := 187) (v := .bool false) rfl (by kernel_rfl) (by kernel_rfl) (by kernel_rfl) (fun _ _ _ h => h) rfl (Or.inl ⟨by kernel_rfl, fun w hSw => by go_simp⟩) hS ?_)
      (refine take_at8 (i := 3) (d := 188) (v := .slice A20 d.length c20) rfl (by kernel_rfl) (by kernel_rfl) (by kernel_rfl) (fun _ _ _ h => h) rfl (Or.inl ⟨by kernel_rfl, fun w hSw => by go_simp⟩) hS ?_)
      (refine take_at8 (i := 4) (d := 189) (v := str d) rfl (by kernel_rfl) (by kernel_rfl) (by kernel_rfl) (fun _ _ _ h => h) rfl (Or.inl ⟨by kernel_rfl, fun w hSw => by have hc := hSw.1; go_simp⟩) hS ?_)
      (refine take_at8 (i := 5) (d := 190) (v := str d) rfl (by kernel_rfl) (by kernel_rfl) (by kernel_rfl) (fun _ _ _ h => h) rfl (Or.inl ⟨by kernel_rfl, fun w hSw => by go_simp⟩) hS ?_)
      (refine take_at8 (i := 6) (d := 191) (v := .bool false) rfl (by kernel_rfl) (by kernel_rfl) (by kernel_rfl) (fun _ _ _ h => h) rfl (Or.inl ⟨by kernel_rfl, fun w hSw => by go_simp⟩) hS ?_)
      (refine take_at8 (i := 7) (d := 192) (v := .bool false) rfl (by kernel_rfl) (by kernel_rfl) (by kernel_rfl) (fun _ _ _ h => h) rfl (Or.inl ⟨by kernel_rfl, fun w hSw => by go_simp⟩) hS ?_)
      (refine take_at8 (i := 8) (d := 193) (v := .bool false) rfl (by kernel_rfl) (by kernel_rfl) (by kernel_rfl) (fun _ _ _ h => h) rfl (Or.inl ⟨by kernel_rfl, fun w hSw => by go_simp⟩) hS ?_)
      (refine take_at8 (i := 9) (d := 194) (v := .int .i64 r) rfl (by kernel_rfl) (by kernel_rfl) (by kernel_rfl) (fun _ _ _ h => h) rfl (Or.inl ⟨by kernel_rfl, fun w hSw => by go_simp⟩) hS ?_)
      (refine take_at8 (i := 10) (d := 195) (v := .int .i64 r) rfl (by kernel_rfl) (by kernel_rfl) (by kernel_rfl) (fun _ _ _ h => h) rfl (Or.inl ⟨by kernel_rfl, fun w hSw => by go_simp⟩) hS ?_)
      (refine take_at8 (i := 11) (d := 196) (v := .bool false) rfl (by kernel_rfl) (by kernel_rfl) (by kernel_rfl) (fun _ _ _ h => h) rfl (Or.inl ⟨by kernel_rfl, fun w hSw => by go_simp⟩) hS ?_)
      (refine take_at8 (i := 12) (d := 197) (v := .bool false) rfl (by kernel_rfl) (by kernel_rfl) (by kernel_rfl) (fun _ _ _ h => h) rfl (Or.inl ⟨by kernel_rfl, fun w hSw => by go_simp⟩) hS ?_)
      (refine take_at8 (i := 13) (d := 198) (v := .bool false) rfl (by kernel_rfl) (by kernel_rfl) (by kernel_rfl) (fun _ _ _ h => h) rfl (Or.inl ⟨by kernel_rfl, fun w hSw => by go_simp⟩) hS ?_)
      (refine take_at8 (i := 14) (d := 199) (v := .pointer (some ⟨p, 0, none⟩)) rfl (by kernel_rfl) (by kernel_rfl) (by kernel_rfl) (fun _ _ _ h => h) rfl (Or.inl ⟨by kernel_rfl, fun w hSw => by go_simp⟩) hS ?_)
      (refine take_at8 (i := 16) (d := 201) (v := .pointer (some ⟨m, 0, none⟩)) rfl (by kernel_rfl) (by kernel_rfl) (by kernel_rfl) (fun _ _ _ h => h) rfl (Or.inl ⟨by kernel_rfl, fun w hSw => by go_simp⟩) hS ?_)
      (refine take_at8 (i := 17) (d := 202) (v := .pointer (some ⟨m, 0, none⟩)) rfl (by kernel_rfl) (by kernel_rfl) (by kernel_rfl) (fun _ _ _ h => h) rfl (Or.inl ⟨by kernel_rfl, fun w hSw => by go_simp⟩) hS ?_)
      (refine take_at8 (i := 18) (d := 203) (v := .pointer (some ⟨m, 2, none⟩)) rfl (by kernel_rfl) (by kernel_rfl) (by kernel_rfl) (fun _ _ _ h => h) rfl (Or.inl ⟨by kernel_rfl, fun w hSw => by go_simp⟩) hS ?_)
      (refine take_at8 (i := 19) (d := 204) (v := .int .i64 Y.acts) rfl (by kernel_rfl) (by kernel_rfl) (by kernel_rfl) (fun _ _ _ h => h) rfl (Or.inl ⟨by kernel_rfl, fun w hSw => by have hc := hSw.2; go_simp⟩) hS ?_)
      refine wpAnyH_ready (rs := [15]) (by decide +kernel) (by simp) (AllReadyH.cons rfl (fun K hK => ?_) AllReadyH.nil)
      go_simp
      (go_at_call 30; (with_reducible refine (HAC.out).mono ?_); rintro e w23 ⟨rfl, rfl⟩)
      refine hK.out _ _ (hS) (fun hS => ?_)
      clear hK K
      (try simp only [Act.put])
      (refine take_at8 (i := 20) (d := 205) (v := .bool false) rfl (by kernel_rfl) (by kernel_rfl) (by kernel_rfl) (fun _ _ _ h => h) rfl (Or.inl ⟨by kernel_rfl, fun w hSw => by go_simp⟩) hS ?_)
      (refine take_at8 (i := 21) (d := 206) (v := .bool false) rfl (by kernel_rfl) (by kernel_rfl) (by kernel_rfl) (fun _ _ _ h => h) rfl (Or.inl ⟨by kernel_rfl, fun w hSw => by go_simp⟩) hS ?_)
      refine wpAnyH_done (by kernel_rfl) ?_ _
      go_simp
      go_wp2
      go_roundw
      case rel => exact ⟨k + 1, Y, by omega, by go_num, Lib.hid HYD.out.lg, Lib.hid HYD.out.dk, Lib.hid HYD.out.rm, Lib.hid (by have h1 := HBD.out; have h2 := HG.out; have h3 := HSU.out; refine ⟨by omega, by omega, ?_⟩; have : ((k + 1 : Nat) : Int) = (k : Int) + 1 := (by omega); omega)⟩
      case measure => simp [intOf]; omega
end
end Go.Proofs.YtapdnoellleimaaDoor
