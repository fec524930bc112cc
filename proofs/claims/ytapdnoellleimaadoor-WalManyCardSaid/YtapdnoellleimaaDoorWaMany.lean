/-
  WalMany: the walk. Written by gen_wamany.py.
-/
import Derived.Test.YtapdnoellleimaaDoorWaLoPl
import Derived.Test.YtapdnoellleimaaDoorWaRef
import Derived.Deep.RegionHeld3
namespace Go.Proofs.YtapdnoellleimaaDoor
open Go.RowKit Go.Maps

/-- The disk behind k records of b. -/
def mnX (F : List UInt8) (ts : List TX) (k : Nat) : DX := ⟨[⟨[97], F, 0⟩, ⟨[99], F, F.length⟩] ++ (if k = 0 then [] else [⟨[98], frT ts k, 0⟩]), false, 2 + k, 0, 0⟩
set_option maxRecDepth 100000 in
theorem mn_1 {F : List UInt8} (h : F.length ≤ 10000) : newX.append [97] F = (0, ⟨[⟨[97], F, 0⟩], false, 1, 0, 0⟩) := by
  have ht : newX.takes (F.length : Int) = 0 := takes_no17 rfl (by show (F.length : Int) ≤ 4194304 - ((0 : Nat) : Int); omega)
  unfold DX.append
  rw [if_neg (by rw [ht]; simp)]
  rfl
set_option maxRecDepth 100000 in
theorem mn_2 {F : List UInt8} (h : F.length ≤ 10000) (ts : List TX) : (⟨[⟨[97], F, 0⟩], false, 1, 0, 0⟩ : DX).install [99] F = (0, mnX F ts 0) := by
  have hz : sizeF (⟨[⟨[97], F, 0⟩], false, 1, 0, 0⟩ : DX).fs [99] = 0 := rfl
  have ht : (⟨[⟨[97], F, 0⟩], false, 1, 0, 0⟩ : DX).takes ((F.length : Int) - ((0 : Nat) : Int)) = 0 := takes_no17 rfl (by simp [totF]; omega)
  unfold DX.install
  rw [hz, if_neg (by rw [ht]; simp)]
  rfl
set_option maxRecDepth 100000 in
theorem mn_tot {F : List UInt8} (h : F.length ≤ 10000) (ts : List TX) (k : Nat) (hk : (frT ts k).length ≤ 10000) : totF (mnX F ts k).fs ≤ 30000 := by
  unfold mnX
  simp only
  split <;> simp [totF] <;> omega
set_option maxRecDepth 100000 in
theorem mn_3 {F : List UInt8} (h : F.length ≤ 10000) (ts : List TX) (k : Nat) (hk : k < ts.length) (hl : (frT ts (k + 1)).length ≤ 10000) : (mnX F ts k).append [98] (frameB ts[k].l) = (0, mnX F ts (k + 1)) := by
  have hs := frT_succ ts k hk
  have hll := congrArg List.length hs
  rw [List.length_append] at hll
  have hto := mn_tot h ts k (by omega)
  have ht : (mnX F ts k).takes ((frameB ts[k].l).length : Int) = 0 := takes_no17 rfl (by omega)
  have hb : (mnX F ts k).burns = false := rfl
  unfold DX.append
  rw [if_neg (by rw [ht]; simp), hb, if_neg (by simp)]
  by_cases h0 : k = 0
  · subst h0
    have h1 : frT ts 1 = frameB ts[0].l := by rw [hs, frT_zero, List.nil_append]
    simp only [mnX, DX.put, DX.tick, putF, openF, hasF, updF]
    simp [h1]
  · simp only [mnX, DX.put, DX.tick, putF, openF, hasF, updF, if_neg h0]
    simp [hs]
    omega
set_option maxRecDepth 100000 in
theorem mn_few {F : List UInt8} (ts : List TX) (k : Nat) (hk : k ≤ 1000) : (mnX F ts k).Few := by
  refine ⟨?_, ?_⟩
  · show (0 : Int) ≤ 2 + (k : Int) ∧ (2 : Int) + (k : Int) < 1000000
    omega
  · unfold mnX
    simp only
    split <;> simp
set_option maxRecDepth 100000 in
theorem mn_ra (F : List UInt8) (ts : List TX) (k : Nat) : (mnX F ts k).read [97] = (F, 0) := rfl
set_option maxRecDepth 100000 in
theorem mn_rc (F : List UInt8) (ts : List TX) (k : Nat) : (mnX F ts k).read [99] = (F, 0) := rfl
set_option maxRecDepth 100000 in
theorem mn_rb {F : List UInt8} (ts : List TX) (hF : F = frT ts ts.length) : ∃ r, (mnX F ts ts.length).read [98] = (F, r) := by
  by_cases h0 : ts.length = 0
  · refine ⟨7, ?_⟩
    have hf : F = [] := by rw [hF, h0]; rfl
    subst hf
    simp [mnX, DX.read, lookF, h0]
  · refine ⟨0, ?_⟩
    simp [mnX, DX.read, lookF, h0, ← hF]

section
attribute [local go_sem ↓] bsT_def
set_option maxRecDepth 100000 in
set_option maxHeartbeats 4000000 in
theorem many_walk (A0 : Option Addr) (c0 : Nat) (ts : List TX) (hl0 : ts.length ≤ 140737488351232) (w : World) (hs0 : TK.See w w.heap.size A0 ts) (hq0 : ∀ t ∈ ts, Sees w w.heap.size t.A (t.l.map bv) ∧ t.l.length ≤ 140737488351232) (hR : Roots w) :
    Calls Tryd.prog 7 #[.slice A0 ts.length c0] w fun e w' => e = .returned (.bool true) ∧ Below w.heap.size w w' := by
  have HAL := Lib.hid (alive_any17 w hR)
  have HS0 := Lib.hid hs0
  have HQ0 := Lib.hid hq0
  have HR := Lib.hid hR
  have HL0 := Lib.hid hl0
  clear hs0 hq0 hR hl0
  go_enter Tryd.func7, Tryd.ntmps7
  go_upto_region 3 with (go_at_call 8; (with_reducible refine (HAL.out).mono ?_); rintro e w1 ⟨rfl, hb⟩; have HB := Lib.hid hb; clear hb)
  obtain ⟨w2, hw2⟩ : ∃ w2, w2 = w1.alloc (.cells (CaK.flat [⟨0, A0, ts, c0, 0, 0, ⟨none, [], 0⟩⟩]).toArray 44) := ⟨_, rfl⟩
  have hb2 : Below w1.heap.size w1 w2 := by rw [hw2]; exact (Below.refl _ _).alloc (Nat.le_refl _) _
  have hbs : (bsT 23 1 #[(0, .agg #[.int .i64 0, .slice A0 ts.length c0, .int .i64 0, .int .i64 0, .slice none 0 0])]).run Tryd.prog w1 = .ok (.slice (some ⟨w1.heap.size, 0, none⟩) 1 1) w2 := by
    have h := EK.build CaK [⟨0, A0, ts, c0, 0, 0, ⟨none, [], 0⟩⟩] [.agg #[.int .i64 0, .slice A0 ts.length c0, .int .i64 0, .int .i64 0, .slice none 0 0]] (by simp) (by show 1 * 5 ≤ _; omega) rfl w1
    rw [hw2]
    exact h
  have hx2 : Box w2 w1.heap.size 44 (CaK.flat [⟨0, A0, ts, c0, 0, 0, ⟨none, [], 0⟩⟩]).toArray := by rw [hw2]; exact Box.made _ _ _
  have HB2 : Hid (Below w.heap.size w w2) := Lib.hid (HB.out.trans (hb2.mono HB.out.size))
  have HT0 : Hid (TK.See w2 w2.heap.size A0 ts) := Lib.hid ((Sees.below HS0.out HB2.out).more HB2.out.size)
  have HGR := great_any17 [⟨0, A0, ts, c0, 0, 0, ⟨none, [], 0⟩⟩] (some ⟨w1.heap.size, 0, none⟩) 1 w2 ⟨Sees.of_box hx2 hx2.lt, by
    intro x hx
    rw [List.mem_singleton.1 hx]; exact HT0.out, by
    intro x hx
    rw [List.mem_singleton.1 hx]; exact ⟨Nat.zero_le _, HL0.out, fun t ht => (HQ0.out t ht).2⟩, by simp⟩
  have HGR := Lib.hid HGR
  clear hw2 hb2 hx2
  go_upto_region 5 with (go_at_call 9; refine (HGR.out).mono ?_; rintro e w3 ⟨r, rfl, hr, hb3⟩; clear hbs; have HR3 := Lib.hid hr; have HB3 := Lib.hid (HB2.out.trans (hb3.mono HB2.out.size)); clear hr hb3)
  · go_ret
    exact ⟨rfl, HB3.out⟩
  rename_i hrf _ _
  have hsm := HR3.out (by simpa using hrf)
  have hw0 : sumT ts ≤ 8192 := by
    have h := hsm.2.1
    simp only [wgtC, List.map_cons, List.map_nil, List.sum_cons, List.sum_nil, List.length_nil] at h
    omega
  have h20 : ts.length ≤ 20 := hsm.2.2 ⟨0, A0, ts, c0, 0, 0, ⟨none, [], 0⟩⟩ (by simp)
  obtain ⟨F, hF⟩ : ∃ F, F = framesB (ts.map TX.l) := ⟨_, rfl⟩
  have HFL : Hid (F.length ≤ 10000) := Lib.hid (by rw [hF, sumT_frames]; omega)
  have HFF := Lib.hid hF
  have HSM := Lib.hid hw0
  have H20 := Lib.hid h20
  obtain ⟨base, hbase⟩ : ∃ base, base = w3.heap.size := ⟨_, rfl⟩
  have HBS := Lib.hid hbase
  have HN := Lib.hid (dknew_c w3 base hbase)
  have HR3' : Hid (Roots w3) := Lib.hid (HR.out.of_below HB3.out)
  have HV0 : Hid (∀ wX, Below base w3 wX → TK.See wX wX.heap.size A0 ts ∧ ∀ t ∈ ts, Sees wX wX.heap.size t.A (t.l.map bv)) := Lib.hid (fun wX hb => by
    have hbw : Below w.heap.size w wX := HB3.out.trans (hb.mono (by rw [hbase]; exact HB3.out.size))
    exact ⟨(Sees.below HS0.out hbw).more hbw.size, fun t ht => ((HQ0.out t ht).1.below hbw).more hbw.size⟩)
  have HBW : Hid (∀ w', Below base w3 w' → Below w.heap.size w w') := Lib.hid (fun w' hb => HB3.out.trans (hb.mono (by rw [hbase]; exact HB3.out.size)))
  have na : ([97] : List UInt8).length ≤ maxLen := by decide
  have nb : ([98] : List UInt8).length ≤ maxLen := by decide
  have nc : ([99] : List UInt8).length ≤ maxLen := by decide
  clear hsm hw0 h20 hbase hF hrf HS0 HQ0 HR3 HGR HT0
  go_upto_region 6 with (go_at_call 10; (with_reducible refine (HN.out).mono ?_); rintro e w4 ⟨p, rfl, hd⟩; have HO6 := Lib.hid (lgopen_c hd HBS.out HR3'.out [97] na ⟨by decide, by decide⟩ [] newX (new_open [97] 0 0 0)); clear hd)
  go_upto_region 7 with (go_at_call 13; (with_reducible refine (HO6.out).mono ?_); rintro e w5 ⟨qa, v5, ts5, rfl, hqa, _, _, hd5, _⟩; have HO7 := Lib.hid (lgopen_c hd5 HBS.out HR3'.out [98] nb ⟨by decide, by decide⟩ [] newX (new_open [98] 0 0 0)); have HQA5 := Lib.hid hqa; clear hd5 hqa)
  go_upto_region 8 with (go_at_call 13; (with_reducible refine (HO7.out).mono ?_); rintro e w6 ⟨qb, v6, ts6, rfl, hqb, _, _, hd6, hb6⟩; have HO8 := Lib.hid (lgopen_c hd6 HBS.out HR3'.out [99] nc ⟨by decide, by decide⟩ [] newX (new_open [99] 0 0 0)); have HQA6 := Lib.hid (HQA5.out.bt hb6); have HQB6 := Lib.hid hqb; clear hd6 hqb hb6)
  go_upto_region 9 with (go_at_call 13; (with_reducible refine (HO8.out).mono ?_); rintro e w7 ⟨qc, v7, ts7, rfl, hqc, _, _, hd7, hb7⟩)
  have HQA7 := Lib.hid (HQA6.out.bt hb7)
  have HQB7 := Lib.hid (HQB6.out.bt hb7)
  have HQC7 := Lib.hid hqc
  have HA9 := Lib.hid (lgappend_c hd7 HQA7.out HBS.out HR3'.out ts A0 ts.length c0 rfl na ⟨by decide, by decide⟩ (by rw [← HFF.out]; have := HFL.out; omega) (HV0.out _ hd7.below).1 (HV0.out _ hd7.below).2 0 _ (by rw [← HFF.out]; exact mn_1 HFL.out))
  clear hqc hd7 hb7
  go_upto_region 11 with (first
    | (go_at_call 16; (with_reducible refine (HA9.out).mono ?_); rintro e w8 ⟨rfl, hd8, hb8⟩; have HQB8 := Lib.hid (HQB7.out.bt hb8); have HR9 := Lib.hid (lgreset_c hd8 (HQC7.out.bt hb8) HBS.out HR3'.out ts A0 ts.length c0 rfl nc ⟨by show (0 : Int) ≤ 1 ∧ (1 : Int) < 1000000; decide, by show 1 < 1000000; decide⟩ (by rw [← HFF.out]; have := HFL.out; omega) (HV0.out _ hd8.below).1 (HV0.out _ hd8.below).2 0 _ (by rw [← HFF.out]; exact mn_2 HFL.out ts)); clear hd8 hb8)
    | (go_at_call 21; (with_reducible refine (HR9.out).mono ?_); rintro e w9 ⟨rfl, hd9, hb9⟩; have HD9 := Lib.hid hd9; have HQB9 := Lib.hid (HQB8.out.bt hb9); clear hd9 hb9))
  have hn20 : (ts.length : Int) ≤ 20 := by have := H20.out; omega
  clear HA9 HQA5 HQA6 HQA7 HQB6 HQB7 HQC7
  go_wp2
  go_loopw [70] (fun i wx => ∃ k : Nat, k ≤ ts.length ∧ i = .int .i64 (k : Int) ∧ Hid (DkC w3 wx base p (mnX F ts k)) ∧ Hid (LogW wx qb p [98])) (fun i _ => ts.length - (intOf i).toNat)
  case atStart => exact ⟨0, Nat.zero_le _, rfl, HD9, HQB9⟩
  case round =>
    obtain ⟨k, hk, rfl, HDX, HQX⟩ := hrel
    clear HD9 HQB9
    by_cases hlt : k < ts.length
    · obtain ⟨g, o, rfl, hc⟩ := TK_at (HV0.out wr HDX.out.below).1 hlt
      have hmem := List.getElem_mem hlt
      have hsee := (HV0.out wr HDX.out.below).2 _ hmem
      have htl := Nat.le_trans (sumT_mem hmem) HSM.out
      have hle := frT_le ts (k + 1)
      rw [← HFF.out] at hle
      have hm := mn_3 HFL.out ts k hlt (by have := HFL.out; omega)
      generalize ts[k]'hlt = tx at *
      obtain ⟨tv, htv⟩ : ∃ m, m = tx.l.length := ⟨_, rfl⟩
      rw [← htv] at hc
      have HAP := Lib.hid (lgappend_one HDX.out HQX.out HBS.out HR3'.out tx.A tx.l tv tx.c htv nb (mn_few ts k (by have := H20.out; omega)) (by omega) hsee 0 _ hm)
      have hbs : (bsT 36 1 #[(0, .slice tx.A tv tx.c)]).run Tryd.prog wr = .ok (.slice (some ⟨wr.heap.size, 0, none⟩) 1 1) (wr.alloc (.cells #[.slice tx.A tv tx.c] 22)) := by
        rw [htv]
        exact EK.build1 TK tx (.slice tx.A tx.l.length tx.c) rfl (by decide) wr
      clear hmem hsee htl hle hm htv
      go_wp2_with (go_at_call 16; (with_reducible refine (HAP.out).mono ?_); rintro e w4 ⟨rfl, hd, hq4, _⟩; have HD4 := Lib.hid hd; have HQ4 := Lib.hid hq4; clear hd hq4 hbs)
      go_roundw
      case rel => exact ⟨k + 1, by omega, by go_num, HD4, HQ4⟩
      case measure => simp [intOf]; omega
    · have hkl : k = ts.length := by omega
      subst hkl
      obtain ⟨rb, hrb⟩ := mn_rb (F := F) ts (by rw [HFF.out]; exact (frT_all ts).symm)
      have HRB := Lib.hid hrb
      obtain ⟨m, hm⟩ : ∃ m, m = F.length := ⟨_, rfl⟩
      have HM := Lib.hid hm
      have HC17 := Lib.hid (dkread_c HDX.out [97] F m 0 hm (mn_ra F ts _) na)
      clear hm hrb hk
      go_upto_region 18 with (go_at_call 28; (with_reducible refine (HC17.out).mono ?_); rintro e w10 ⟨Ax, cx, rfl, hox, _, hd10⟩; have HOX := Lib.hid hox; have HC18 := Lib.hid (dkread_c hd10 [98] F m rb HM.out HRB.out nb); clear hox hd10)
      clear hlt
      go_upto_region 19 with (go_at_call 28; (with_reducible refine (HC18.out).mono ?_); rintro e w11 ⟨Ay, cy, rfl, hoy, hby, hd11⟩; have HOX2 := Lib.hid (EK.Own.keep HOX.out hby); have HOY := Lib.hid hoy; have HC19 := Lib.hid (dkread_c hd11 [99] F m 0 HM.out (mn_rc F ts _) nc); clear hoy hd11 hby)
      go_upto_region 20 with (go_at_call 28; (with_reducible refine (HC19.out).mono ?_); rintro e w12 ⟨Az, cz, rfl, hoz, hbz, hd12⟩)
      have hsx := DB_sees (EK.Own.keep HOX2.out hbz).see
      have hsy := DB_sees (EK.Own.keep HOY.out hbz).see
      have hsz := DB_sees hoz.see
      have HKX : Hid (∀ w', Below w12.heap.size w12 w' → (convert 22 9 (.slice Ax m cx)).run Tryd.prog w' = .ok (str F) w') := Lib.hid (fun w' hb => by rw [HM.out]; exact bytes_conv17 (hsx.below hb) cx)
      have HKY : Hid (∀ w', Below w12.heap.size w12 w' → (convert 22 9 (.slice Ay m cy)).run Tryd.prog w' = .ok (str F) w') := Lib.hid (fun w' hb => by rw [HM.out]; exact bytes_conv17 (hsy.below hb) cy)
      have HKZ : Hid (∀ w', Below w12.heap.size w12 w' → (convert 22 9 (.slice Az m cz)).run Tryd.prog w' = .ok (str F) w') := Lib.hid (fun w' hb => by rw [HM.out]; exact bytes_conv17 (hsz.below hb) cz)
      have HD12 := Lib.hid hd12
      have HTX : Hid (∀ w', Below w12.heap.size w12 w' → Calls Tryd.prog 18 #[.slice A0 ts.length c0] w' fun e w'' => ∃ v, e = .returned v ∧ SK.Own w'' w'.heap.size v (strL (ts.map TX.l)) ∧ Below w'.heap.size w' w'') := Lib.hid (fun w' hb => by
        have hbb : Below base w3 w' := HD12.out.below.trans (hb.mono HD12.out.size)
        exact texts_any17 ts A0 c0 (by have := H20.out; omega) w' (HV0.out _ hbb).1 (HV0.out _ hbb).2)
      clear hsx hsy hsz hoz hbz hd12
      obtain ⟨wd, hwd⟩ : ∃ wd, wd = w12.drew := ⟨_, rfl⟩
      have hbd : Below w12.heap.size w12 wd := by rw [hwd]; exact drew_below _
      have ess : (F == F) = true := by simp
      refine wp_region_held_drew (S := fun w' => Below w12.heap.size w12 w') (by kernel_rfl) (by rw [← hwd]; exact hbd) (fun hS => ?_)
      rw [← hwd] at hS ⊢
      clear hwd hbd
      (refine wpAnyH_take (i := 0) (v := .slice Ax m cx) rfl (by kernel_rfl) (by kernel_rfl) (by kernel_rfl) (fun _ _ _ h => h) (Or.inl ⟨by kernel_rfl, fun w hSw => by go_simp⟩) hS ?_)
      (try simp only [Act.put])
      (refine wpAnyH_take (i := 1) (v := str F) rfl (by kernel_rfl) (by kernel_rfl) (by kernel_rfl) (fun _ _ _ h => h) (Or.inl ⟨by kernel_rfl, fun w hSw => by have hc := HKX.out w hSw; go_simp⟩) hS ?_)
      (try simp only [Act.put])
      (refine wpAnyH_take (i := 2) (v := .slice Ay m cy) rfl (by kernel_rfl) (by kernel_rfl) (by kernel_rfl) (fun _ _ _ h => h) (Or.inl ⟨by kernel_rfl, fun w hSw => by go_simp⟩) hS ?_)
      (try simp only [Act.put])
      (refine wpAnyH_take (i := 3) (v := str F) rfl (by kernel_rfl) (by kernel_rfl) (by kernel_rfl) (fun _ _ _ h => h) (Or.inl ⟨by kernel_rfl, fun w hSw => by have hc := HKY.out w hSw; go_simp⟩) hS ?_)
      (try simp only [Act.put])
      (refine wpAnyH_take (i := 4) (v := .bool true) rfl (by kernel_rfl) (by kernel_rfl) (by kernel_rfl) (fun _ _ _ h => h) (Or.inl ⟨by kernel_rfl, fun w hSw => by have hc := ess; go_simp⟩) hS ?_)
      (try simp only [Act.put])
      (refine wpAnyH_take (i := 5) (v := .bool true) rfl (by kernel_rfl) (by kernel_rfl) (by kernel_rfl) (fun _ _ _ h => h) (Or.inl ⟨by kernel_rfl, fun w hSw => by go_simp⟩) hS ?_)
      (try simp only [Act.put])
      (refine wpAnyH_take (i := 6) (v := .slice Ax m cx) rfl (by kernel_rfl) (by kernel_rfl) (by kernel_rfl) (fun _ _ _ h => h) (Or.inl ⟨by kernel_rfl, fun w hSw => by go_simp⟩) hS ?_)
      (try simp only [Act.put])
      (refine wpAnyH_take (i := 7) (v := str F) rfl (by kernel_rfl) (by kernel_rfl) (by kernel_rfl) (fun _ _ _ h => h) (Or.inl ⟨by kernel_rfl, fun w hSw => by have hc := HKX.out w hSw; go_simp⟩) hS ?_)
      (try simp only [Act.put])
      (refine wpAnyH_take (i := 8) (v := .slice Az m cz) rfl (by kernel_rfl) (by kernel_rfl) (by kernel_rfl) (fun _ _ _ h => h) (Or.inl ⟨by kernel_rfl, fun w hSw => by go_simp⟩) hS ?_)
      (try simp only [Act.put])
      (refine wpAnyH_take (i := 9) (v := str F) rfl (by kernel_rfl) (by kernel_rfl) (by kernel_rfl) (fun _ _ _ h => h) (Or.inl ⟨by kernel_rfl, fun w hSw => by have hc := HKZ.out w hSw; go_simp⟩) hS ?_)
      (try simp only [Act.put])
      (refine wpAnyH_take (i := 10) (v := .bool true) rfl (by kernel_rfl) (by kernel_rfl) (by kernel_rfl) (fun _ _ _ h => h) (Or.inl ⟨by kernel_rfl, fun w hSw => by have hc := ess; go_simp⟩) hS ?_)
      (try simp only [Act.put])
      (refine wpAnyH_take (i := 11) (v := .bool true) rfl (by kernel_rfl) (by kernel_rfl) (by kernel_rfl) (fun _ _ _ h => h) (Or.inl ⟨by kernel_rfl, fun w hSw => by go_simp⟩) hS ?_)
      (try simp only [Act.put])
      (refine wpAnyH_take (i := 12) (v := .bool true) rfl (by kernel_rfl) (by kernel_rfl) (by kernel_rfl) (fun _ _ _ h => h) (Or.inl ⟨by kernel_rfl, fun w hSw => by go_simp⟩) hS ?_)
      (try simp only [Act.put])
      (refine wpAnyH_take (i := 13) (v := .slice Ax m cx) rfl (by kernel_rfl) (by kernel_rfl) (by kernel_rfl) (fun _ _ _ h => h) (Or.inl ⟨by kernel_rfl, fun w hSw => by go_simp⟩) hS ?_)
      (try simp only [Act.put])
      (refine wpAnyH_take (i := 14) (v := str F) rfl (by kernel_rfl) (by kernel_rfl) (by kernel_rfl) (fun _ _ _ h => h) (Or.inl ⟨by kernel_rfl, fun w hSw => by have hc := HKX.out w hSw; go_simp⟩) hS ?_)
      (try simp only [Act.put])
      (refine wpAnyH_take (i := 15) (v := .slice A0 ts.length c0) rfl (by kernel_rfl) (by kernel_rfl) (by kernel_rfl) (fun _ _ _ h => h) (Or.inl ⟨by kernel_rfl, fun w hSw => by go_simp⟩) hS ?_)
      (try simp only [Act.put])
      refine wpAnyH_ready (rs := [16]) (by decide +kernel) (by simp) (AllReadyH.cons rfl (fun K hK => ?_) AllReadyH.nil)
      go_simp
      (go_at_call 18; (with_reducible refine (HTX.out _ hS).mono ?_); rintro e w13 ⟨v13, rfl, ho13, hb13⟩)
      obtain ⟨A13, c13, rfl⟩ := ho13.slice
      have HFR := Lib.hid (rframes_any (ts.map TX.l) (strL (ts.map TX.l)) rfl A13 c13 (by rw [← HFF.out]; have := HFL.out; omega) w13 ho13.see)
      rw [← HFF.out] at HFR
      refine hK.out _ _ (hS.trans (hb13.mono hS.size)) (fun hS => ?_)
      clear hK K
      (try simp only [Act.put])
      refine wpAnyH_ready (rs := [17]) (by decide +kernel) (by simp) (AllReadyH.cons rfl (fun K hK => ?_) AllReadyH.nil)
      go_simp
      (go_at_call 17; (with_reducible refine (HFR.out).mono ?_); rintro e w14 ⟨rfl, hb14⟩)
      refine hK.out _ _ (hS.trans (hb14.mono hS.size)) (fun hS => ?_)
      clear hK K
      (try simp only [Act.put])
      (refine wpAnyH_take (i := 18) (v := .bool true) rfl (by kernel_rfl) (by kernel_rfl) (by kernel_rfl) (fun _ _ _ h => h) (Or.inl ⟨by kernel_rfl, fun w hSw => by have hc := ess; go_simp⟩) hS ?_)
      (refine wpAnyH_take (i := 19) (v := .bool true) rfl (by kernel_rfl) (by kernel_rfl) (by kernel_rfl) (fun _ _ _ h => h) (Or.inl ⟨by kernel_rfl, fun w hSw => by go_simp⟩) hS ?_)
      (refine wpAnyH_take (i := 20) (v := .bool true) rfl (by kernel_rfl) (by kernel_rfl) (by kernel_rfl) (fun _ _ _ h => h) (Or.inl ⟨by kernel_rfl, fun w hSw => by go_simp⟩) hS ?_)
      refine wpAnyH_done (by kernel_rfl) ?_ _
      have HW14 := Lib.hid (HBW.out _ (HD12.out.below.trans (hS.mono HD12.out.size)))
      clear hS
      go_wp2
      go_ret
      exact ⟨rfl, HW14.out⟩
end
end Go.Proofs.YtapdnoellleimaaDoor
