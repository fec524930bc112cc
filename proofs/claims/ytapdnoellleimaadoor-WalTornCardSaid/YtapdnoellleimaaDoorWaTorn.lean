/-
  WalTorn: the walk. Written by gen_watorn.py.
-/
import Derived.Test.YtapdnoellleimaaDoorWaTornPl
namespace Go.Proofs.YtapdnoellleimaaDoor
open Go.RowKit Go.Maps

set_option maxRecDepth 100000 in
theorem torn_append {w0 w : World} {base p : Nat} (h : DkC w0 w base p newX) (G : List UInt8) (A : Option Addr) (n c : Nat) (hn : n = G.length) (hl : G.length ≤ 10000) (hS : Sees w w.heap.size A (G.map bv)) :
    Calls Tryd.prog 11 #[.pointer (some ⟨p, 0, none⟩), str LG, .slice A n c] w fun e w' => e = .returned (.int .i64 0) ∧ DkC w0 w' base p (oneX G 0 false 1 0 0) := by
  have h2 := dkappend_c h LG G A n c hn LG_small ⟨by decide, by decide⟩ hS
  have e : newX.append LG G = (0, oneX G 0 false 1 0 0) := new_append (by decide) (by omega)
  rw [e] at h2
  exact h2
section
attribute [local go_sem ↓] bsT_def
set_option maxRecDepth 100000 in
set_option maxHeartbeats 4000000 in
theorem torn_walk (A0 : Option Addr) (c0 : Nat) (ts : List TX) (n cc : Int) (hn : -9223372036854775808 ≤ n ∧ n < 9223372036854775808) (hl0 : ts.length ≤ 140737488351232) (hcap : ts.length ≤ c0) (w : World) (hs0 : TK.See w w.heap.size A0 ts) (hq0 : ∀ t ∈ ts, Sees w w.heap.size t.A (t.l.map bv) ∧ t.l.length ≤ 140737488351232) (hR : Roots w) :
    Calls Tryd.prog 6 #[.slice A0 ts.length c0, .int .i64 n, .int .u8 cc] w fun e w' => e = .returned (.bool true) ∧ Below w.heap.size w w' := by
  have HAL := Lib.hid (alive_any17 w hR)
  have HS0 := Lib.hid hs0
  have HQ0 := Lib.hid hq0
  have HR := Lib.hid hR
  have HL0 := Lib.hid hl0
  have HNN := Lib.hid hn
  have HCP := Lib.hid hcap
  clear hs0 hq0 hR hl0 hn hcap
  go_enter Tryd.func6, Tryd.ntmps6
  go_upto_region 3 with (go_at_call 8; (with_reducible refine (HAL.out).mono ?_); rintro e w1 ⟨rfl, hb⟩; have HB := Lib.hid hb; clear hb)
  obtain ⟨w2, hw2⟩ : ∃ w2, w2 = w1.alloc (.cells (CaK.flat [⟨0, A0, ts, c0, 0, 0, ⟨none, [], 0⟩⟩]).toArray 44) := ⟨_, rfl⟩
  have hb2 : Below w1.heap.size w1 w2 := by rw [hw2]; exact (Below.refl _ _).alloc (Nat.le_refl _) _
  have hbs : (bsT 23 1 #[(0, .agg #[.int .i64 0, .slice A0 ts.length c0, .int .i64 0, .int .i64 0, .slice none 0 0])]).run Tryd.prog w1 = .ok (.slice (some ⟨w1.heap.size, 0, none⟩) 1 1) w2 := by
    have h := EK.build CaK [⟨0, A0, ts, c0, 0, 0, ⟨none, [], 0⟩⟩] [.agg #[.int .i64 0, .slice A0 ts.length c0, .int .i64 0, .int .i64 0, .slice none 0 0]] (by simp) (by show 1 * 5 ≤ _; omega) rfl w1
    rw [hw2]
    exact h
  have hx2 : Box w2 w1.heap.size 44 (CaK.flat [⟨0, A0, ts, c0, 0, 0, ⟨none, [], 0⟩⟩]).toArray := by rw [hw2]; exact Box.made _ _ _
  have HB2 : Hid (Below w.heap.size w w2) := Lib.hid (HB.out.trans (hb2.mono HB.out.size))
  have HT0 : Hid (TK.See w2 w2.heap.size A0 ts) := Lib.hid ((Sees.below HS0.out HB2.out).more HB2.out.size)
  have HGR := great_any17 [⟨0, A0, ts, c0, 0, 0, ⟨none, [], 0⟩⟩] (some ⟨w1.heap.size, 0, none⟩) 1 w2 ⟨Sees.of_box hx2 hx2.lt, by
    intro x hx
    rw [List.mem_singleton.1 hx]; exact HT0.out, by
    intro x hx
    rw [List.mem_singleton.1 hx]; exact ⟨Nat.zero_le _, HL0.out, fun t ht => (HQ0.out t ht).2⟩, by simp⟩
  have HGR := Lib.hid HGR
  clear hw2 hb2 hx2
  by_cases hc0 : cc = 0
  · subst hc0
    go_wp2_with (go_at_call 9; refine (HGR.out).mono ?_; rintro e w3 ⟨r, rfl, _, hb3⟩; clear hbs; have HB3 := Lib.hid (HB2.out.trans (hb3.mono HB2.out.size)); clear hb3; cases r)
    all_goals
      go_wp2
      go_ret
      exact ⟨rfl, HB3.out⟩
  have hcd : (cc == 0) = false := by simpa using hc0
  go_upto_region 5 with (go_at_call 9; refine (HGR.out).mono ?_; rintro e w3 ⟨r, rfl, hr, hb3⟩; clear hbs; have HR3 := Lib.hid hr; have HB3 := Lib.hid (HB2.out.trans (hb3.mono HB2.out.size)); clear hr hb3; cases r)
  rotate_left
  · go_wp2
    go_ret
    exact ⟨rfl, HB3.out⟩
  have hsm := HR3.out (by simp)
  have hw0 : sumT ts ≤ 8192 := by
    have h := hsm.2.1
    simp only [wgtC, List.map_cons, List.map_nil, List.sum_cons, List.sum_nil, List.length_nil] at h
    omega
  have h20 : ts.length ≤ 20 := hsm.2.2 ⟨0, A0, ts, c0, 0, 0, ⟨none, [], 0⟩⟩ (by simp)
  obtain ⟨F, hF⟩ : ∃ F, F = framesB (ts.map TX.l) := ⟨_, rfl⟩
  have HFL : Hid (F.length ≤ 10000) := Lib.hid (by rw [hF, sumT_frames]; omega)
  have HFF := Lib.hid hF
  have HSM := Lib.hid hw0
  have H20 := Lib.hid h20
  have HXL : Hid (∀ x ∈ ts.map TX.l, x.length < 4294967296) := Lib.hid (by
    intro x hx
    obtain ⟨t, ht, rfl⟩ := List.mem_map.1 hx
    have := sumT_mem ht
    omega)
  have HV3 : Hid (∀ wX, Below w3.heap.size w3 wX → TK.See wX wX.heap.size A0 ts ∧ ∀ t ∈ ts, Sees wX wX.heap.size t.A (t.l.map bv)) := Lib.hid (fun wX hb => by
    have hbw : Below w.heap.size w wX := HB3.out.trans (hb.mono HB3.out.size)
    exact ⟨(Sees.below HS0.out hbw).more hbw.size, fun t ht => ((HQ0.out t ht).1.below hbw).more hbw.size⟩)
  have HTX := Lib.hid (texts_any17 ts A0 c0 (by omega) w3 (HV3.out _ (Below.refl _ _)).1 (HV3.out _ (Below.refl _ _)).2)
  clear hsm hw0 h20 hF HS0 HQ0 HR3 HGR HT0
  go_upto_region 6 with (first
    | (go_at_call 18; (with_reducible refine (HTX.out).mono ?_); rintro e w4 ⟨v4, rfl, ho4, hb4⟩; obtain ⟨A4, c4, rfl⟩ := ho4.slice; have HFM := Lib.hid (rframes_any (ts.map TX.l) (strL (ts.map TX.l)) rfl A4 c4 (by rw [← HFF.out]; have := HFL.out; omega) w4 ho4.see); rw [← HFF.out] at HFM; have HB4 := Lib.hid hb4; clear ho4 hb4)
    | (go_at_call 17; (with_reducible refine (HFM.out).mono ?_); rintro e w5 ⟨rfl, hb5⟩; have HB5 := Lib.hid (HB4.out.trans (hb5.mono HB4.out.size)); clear hb5))
  have HW5 := Lib.hid (HB3.out.trans (HB5.out.mono HB3.out.size))
  have hFz : (ByteArray.mk F.toArray).size = F.length := by show F.toArray.size = _; rw [List.size_toArray]
  by_cases hneg : n < 0
  · go_wp2
    go_ret
    exact ⟨rfl, HW5.out⟩
  obtain ⟨m, rfl⟩ : ∃ m : Nat, n = (m : Int) := ⟨n.toNat, by omega⟩
  by_cases hbig : F.length ≤ m
  · have hbi : (F.length : Int) ≤ (m : Int) := by omega
    go_wp2
    go_ret
    exact ⟨rfl, HW5.out⟩
  have hml : m < F.length := by omega
  have hmi : (m : Int) < (F.length : Int) := by omega
  have hmi2 : (m : Int) < 10000 := by have := HFL.out; omega
  obtain ⟨cb, w6, hcv, hcb1, hcb2, hcell, hfro, hput⟩ := conv_put17 F m hml (by have := HFL.out; omega) w5
  obtain ⟨d, hd⟩ := bits_byte .xor ((F[m].toNat : Nat) : Int) cc
  obtain ⟨hrow, hb7⟩ := hput d
  have hd3 : bits .xor .u8 ((F[m].toNat : Nat) : Int) cc = ((d.toNat : Nat) : Int) := by
    have h := hd
    unfold bv at h
    injection h
  have hbvd : bv d = .int .u8 ((d.toNat : Nat) : Int) := rfl
  rw [hbvd] at hrow hb7
  obtain ⟨w7, hw7⟩ : ∃ w7, w7 = w6.setCell ⟨w5.heap.size, m, none⟩ (.int .u8 ((d.toNat : Nat) : Int)) := ⟨_, rfl⟩
  rw [← hw7] at hrow hb7
  obtain ⟨G, hG⟩ : ∃ G, G = F.set m d := ⟨_, rfl⟩
  have hGl : G.length = F.length := by rw [hG, List.length_set]
  obtain ⟨FL, hFLL⟩ : ∃ FL, FL = F.length := ⟨_, rfl⟩
  have hgf : F.length = FL := hFLL.symm
  rw [← hG] at hrow
  have HROW := Lib.hid hrow
  have HB7 := Lib.hid hb7
  have HGG := Lib.hid hG
  have HGL := Lib.hid hGl
  have hcell2 : w6.cell? ⟨w5.heap.size, m, none⟩ = some (.int .u8 ((F[m].toNat : Nat) : Int)) := hcell
  clear hcell hput hrow hb7 hG hGl hFLL hgf hd hbvd
  go_upto_region 10 with fail
  rw [← hw7]
  clear hw7 hd3 hfro hcell2 hcv
  have HW7 := Lib.hid (HB5.out.trans (HB7.out.mono HB5.out.size))
  have HCB := Lib.hid hcb1
  have HCB2 := Lib.hid hcb2
  have HML := Lib.hid hml
  generalize (F[m]'hml) = fm at *
  clear hcb1 hcb2 hml hbig hneg
  obtain ⟨FL, hFLE⟩ : ∃ FL, FL = F.length := ⟨_, rfl⟩
  rw [← hFLE] at hmi hFz ⊢
  have HFLE := Lib.hid hFLE
  clear hFLE
  go_wp2
  go_loopw [9, 10] (fun wv sv wr => ∃ k : Nat, k ≤ ts.length ∧ wv = .int .i64 (k : Int) ∧ sv = .int .i64 ((frT ts k).length : Int) ∧ Hid ((frT ts k).length ≤ m) ∧ Hid (Below w7.heap.size w7 wr)) (fun wv _ _ => ts.length - (intOf wv).toNat)
  case atStart => exact ⟨0, Nat.zero_le _, rfl, rfl, Nat.zero_le _, Below.refl _ _⟩
  case round =>
    obtain ⟨k, hk, rfl, rfl, HKM, HBR⟩ := hrel
    have hki : (k : Int) ≤ 20 := by have := H20.out; omega
    have hni : (ts.length : Int) ≤ 20 := by have := H20.out; omega
    by_cases hlt : k < ts.length
    rotate_left
    · exfalso
      have hke : k = ts.length := by omega
      subst hke
      have h1 := HKM.out
      rw [frT_all, ← HFF.out] at h1
      have := HML.out
      omega
    have hb3r : Below w3.heap.size w3 wr := HW7.out.trans (HBR.out.mono HW7.out.size)
    obtain ⟨g, o, rfl, hc⟩ := TK_at (HV3.out wr hb3r).1 hlt
    have hmem := List.getElem_mem hlt
    have hsee := (HV3.out wr hb3r).2 _ hmem
    have htl := Nat.le_trans (sumT_mem hmem) HSM.out
    have hfs := frT_succ ts k hlt
    have hle := frT_le ts (k + 1)
    rw [← HFF.out] at hle
    have hll := congrArg List.length hfs
    rw [List.length_append] at hll
    have hcv := bytes_conv17 hsee ts[k].c
    have HFRA := Lib.hid (rframe_any ts[k].l (by omega) wr)
    generalize ts[k] = tx at *
    have hfz : (ByteArray.mk (frameB tx.l).toArray).size = (frameB tx.l).length := by show (frameB tx.l).toArray.size = _; rw [List.size_toArray]
    obtain ⟨f1, hf1⟩ : ∃ f1, f1 = (frameB tx.l).length := ⟨_, rfl⟩
    obtain ⟨f0, hf0⟩ : ∃ f0, f0 = (frT ts k).length := ⟨_, rfl⟩
    rw [← hf1] at hfz hll
    rw [← hf0] at hll HKM ⊢
    have HLL := Lib.hid hll
    have HLE := Lib.hid hle
    have HF0 := Lib.hid hf0
    have hf1i : (f1 : Int) ≤ 10000 := by have := HFL.out; omega
    have hf0i : (f0 : Int) ≤ 10000 := by have := HFL.out; omega
    clear hb3r hmem hsee htl hfs hle hll hf1 hf0
    by_cases hgt : f0 + f1 ≤ m
    · go_wp2_with (go_at_call 31; (with_reducible refine (HFRA.out).mono ?_); rintro e w8 ⟨rfl, hb8⟩; have HB8 := Lib.hid (HBR.out.trans (hb8.mono HBR.out.size)); clear hb8)
      go_roundw
      case rel => exact ⟨k + 1, by omega, by go_num, by rw [HLL.out]; go_num, by show (frT ts (k + 1)).length ≤ m; rw [HLL.out]; exact hgt, HB8⟩
      case measure => simp [intOf]; omega
    go_upto_region 16 with (go_at_call 31; (with_reducible refine (HFRA.out).mono ?_); rintro e w8 ⟨rfl, hb8⟩; have HB8 := Lib.hid (HBR.out.trans (hb8.mono HBR.out.size)); clear hb8)
    clear hcv hc hfz
    have HB38 : Hid (Below w3.heap.size w3 w8) := Lib.hid (HW7.out.trans (HB8.out.mono HW7.out.size))
    have HW8 := Lib.hid (HB3.out.trans (HB38.out.mono HB3.out.size))
    have HROW8 := Lib.hid (HROW.out.call HB8.out)
    obtain ⟨base, hbase⟩ : ∃ base, base = w8.heap.size := ⟨_, rfl⟩
    have HBS := Lib.hid hbase
    have HN := Lib.hid (dknew_c w8 base hbase)
    have HR8 : Hid (Roots w8) := Lib.hid (HR.out.of_below HW8.out)
    have HGB : Hid (∀ wX, Below base w8 wX → Sees wX wX.heap.size (some ⟨w5.heap.size, 0, none⟩) (G.map bv)) := Lib.hid (fun wX hb => by
      rw [hbase] at hb
      exact (HROW8.out.call hb).sees)
    have HV8 : Hid (∀ wX, Below base w8 wX → TK.See wX wX.heap.size (some ⟨g, o, none⟩) ts ∧ ∀ t ∈ ts, Sees wX wX.heap.size t.A (t.l.map bv)) := Lib.hid (fun wX hb => by
      rw [hbase] at hb
      exact HV3.out wX (HB38.out.trans (hb.mono HB38.out.size)))
    have HKT : Hid (k ≤ ts.length ∧ (frT ts k).length ≤ m) := Lib.hid ⟨hk, by rw [← HF0.out]; exact HKM.out⟩
    clear hbase hgt hlt hk
    go_upto_region 17 with (go_at_call 10; (with_reducible refine (HN.out).mono ?_); rintro e w9 ⟨p, rfl, hd⟩; have HAP := Lib.hid (torn_append hd G (some ⟨w5.heap.size, 0, none⟩) FL cb (by rw [HGL.out, HFLE.out]) (by rw [HGL.out]; exact HFL.out) (HGB.out _ hd.below)); clear hd)
    go_upto_region 18 with (go_at_call 11; (with_reducible refine (HAP.out).mono ?_); rintro e w10 ⟨rfl, hd10⟩)
    obtain ⟨s', a', ho, _⟩ := wopen_twice (d := G) (s := 0) (a := 1) (k := 0) (by rw [HGL.out]; have := HFL.out; omega)
    have HOP := Lib.hid (lgopen_c hd10 HBS.out HR8.out LG LG_small (one_room _ _ _ _ _ _ 2 (by decide) (by decide)) _ _ ho)
    clear hd10 ho
    go_upto_region 19 with (go_at_call 13; (with_reducible refine (HOP.out).mono ?_); rintro e w11 ⟨q, v11, ts11, rfl, _, hr11, hl11, hd11, _⟩)
    obtain ⟨A11, c11, rfl, hs11, hq11⟩ := hr11.see
    have hc11 := hr11.own.bounds
    have hturn := split_turned (ts.map TX.l) HXL.out k m d (by rw [← frT_map]; exact HKT.out.2)
    rw [← HFF.out, ← HGG.out] at hturn
    obtain ⟨r, hturn⟩ := hturn
    have hk11 : k ≤ ts11.length := by
      have h := congrArg List.length hl11
      rw [hturn, List.length_map, List.length_append, List.length_take, List.length_map] at h
      have := HKT.out.1
      omega
    have htk11 : (ts11.take k).map TX.l = (ts.take k).map TX.l := by
      rw [List.map_take, hl11, hturn, List.take_left' (by rw [List.length_take, List.length_map]; have := HKT.out.1; omega), List.map_take]
    have h11n : ts11.length ≤ 1000000 := by
      have h := congrArg List.length hl11
      rw [List.length_map] at h
      have h2 := framesB_count (splitB G)
      have h3 := splitB_len G
      rw [HGL.out] at h3
      have := HFL.out
      omega
    have hcvg := bytes_conv17 (HGB.out w11 hd11.below) cb
    rw [HGL.out, ← HFLE.out] at hcvg
    have HRS := Lib.hid (rsplit_any G (by rw [HGL.out]; have := HFL.out; omega) w11)
    have HL11 := Lib.hid hl11
    have HS11 := Lib.hid hs11
    have HQ11 := Lib.hid hq11
    have HD11 := Lib.hid hd11
    have HK11 := Lib.hid hk11
    have HTK := Lib.hid htk11
    have HN11 := Lib.hid h11n
    have HC11 : Hid (ts11.length ≤ c11) := Lib.hid hc11.2.1
    clear hs11 hq11 hd11 hk11 htk11 h11n hc11 hturn hl11 hr11 hFz hmi hmi2 hf0i hf1i hni hki hc0 hcd
    go_upto_region 20 with (go_at_call 32; (with_reducible refine (HRS.out).mono ?_); rintro e w12 ⟨v12, rest, rfl, ho12, -, hb12⟩)
    clear hcvg
    obtain ⟨A12, c12, rfl⟩ := ho12.slice
    have HB12 : Hid (Below base w8 w12) := Lib.hid (HD11.out.below.trans (hb12.mono HD11.out.size))
    have HZ12 : Hid (base ≤ w12.heap.size) := Lib.hid (Nat.le_trans HD11.out.size hb12.size)
    have HT12 : Hid (∀ wX, Below w12.heap.size w12 wX → TK.See wX wX.heap.size A11 ts11 ∧ ∀ t ∈ ts11, Sees wX wX.heap.size t.A (t.l.map bv)) := Lib.hid (fun wX hb => by
      have hbb := hb12.trans (hb.mono hb12.size)
      exact ⟨EK.See.far HS11.out hbb, fun t ht => ((HQ11.out t ht).below hbb).more hbb.size⟩)
    have HSM1 : Hid (∀ wX, Below w12.heap.size w12 wX → Calls Tryd.prog 15 #[.slice A11 ts11.length c11, .slice A12 (strL (splitB G)).length c12] wX fun e w' => e = .returned (.bool true) ∧ Below wX.heap.size wX w') := Lib.hid (fun wX hb => same_true17 ts11 A11 c11 (strL (splitB G)) A12 _ c12 rfl (by rw [HL11.out]) HN11.out wX (HT12.out wX hb).1 (HT12.out wX hb).2 (EK.See.far ho12.see hb))
    have HTX2 : Hid (∀ wX, Below w12.heap.size w12 wX → Calls Tryd.prog 18 #[.slice (some ⟨g, o, none⟩) k c0] wX fun e w' => ∃ v, e = .returned v ∧ SK.Own w' wX.heap.size v (strL ((ts.take k).map TX.l)) ∧ Below wX.heap.size wX w') := Lib.hid (fun wX hb => by
      have hv := HV8.out wX (HB12.out.trans (hb.mono HZ12.out))
      have hkl : (ts.take k).length = k := by rw [List.length_take]; have := HKT.out.1; omega
      have h := texts_any17 (ts.take k) (some ⟨g, o, none⟩) c0 (by rw [hkl]; have := HKT.out.1; have := H20.out; omega) wX (TK_take hv.1 k) (fun t ht => hv.2 t (List.mem_of_mem_take ht))
      rw [hkl] at h
      exact h)
    have HSM2 : Hid (∀ wX A13 c13, Below w12.heap.size w12 wX → SK.See wX wX.heap.size A13 (strL ((ts.take k).map TX.l)) → Calls Tryd.prog 15 #[.slice A11 k c11, .slice A13 (strL ((ts.take k).map TX.l)).length c13] wX fun e w' => e = .returned (.bool true) ∧ Below wX.heap.size wX w') := Lib.hid (fun wX A13 c13 hb hs => by
      have hkl : (ts11.take k).length = k := by rw [List.length_take]; have := HK11.out; omega
      have h := same_true17 (ts11.take k) A11 c11 (strL ((ts.take k).map TX.l)) A13 _ c13 rfl (by rw [HTK.out]) (by rw [hkl]; have := HK11.out; have := HN11.out; omega) wX (TK_take (HT12.out wX hb).1 k) (fun t ht => (HT12.out wX hb).2 t (List.mem_of_mem_take ht)) hs
      rw [hkl] at h
      exact h)
    have hu1 : ∀ w, (Instr.slice 36 (.slice A11 ts11.length c11) none (some (.int .i64 (k : Int))) none).run Tryd.prog w = .ok (.slice A11 k c11) w := fun w => slice_uptoT (by have := HK11.out; have := HC11.out; omega) w
    have hu2 : ∀ w, (Instr.slice 36 (.slice (some ⟨g, o, none⟩) ts.length c0) none (some (.int .i64 (k : Int))) none).run Tryd.prog w = .ok (.slice (some ⟨g, o, none⟩) k c0) w := fun w => slice_uptoT (by have := HKT.out.1; have := HCP.out; omega) w
    have hge : (k : Int) ≤ (ts11.length : Int) := by have := HK11.out; omega
    generalize (strL (splitB G)).length = n12 at *
    generalize hn13 : (strL ((ts.take k).map TX.l)).length = n13 at *
    have HN13 := Lib.hid hn13
    clear ho12 hb12 hn13
    obtain ⟨wd, hwd⟩ : ∃ wd, wd = w12.drew := ⟨_, rfl⟩
    have hbd : Below w12.heap.size w12 wd := by rw [hwd]; exact drew_below _
    refine wp_region_held_drew (S := fun w' => Below w12.heap.size w12 w') (by kernel_rfl) (by rw [← hwd]; exact hbd) (fun hS => ?_)
    rw [← hwd] at hS ⊢
    clear hwd hbd
    (refine take_at8 (i := 0) (d := 81) (v := .int .i64 0) rfl (by kernel_rfl) (by kernel_rfl) (by kernel_rfl) (fun _ _ _ h => h) rfl (Or.inl ⟨by kernel_rfl, fun w hSw => by go_simp⟩) hS ?_)
    (refine take_at8 (i := 1) (d := 82) (v := .bool true) rfl (by kernel_rfl) (by kernel_rfl) (by kernel_rfl) (fun _ _ _ h => h) rfl (Or.inl ⟨by kernel_rfl, fun w hSw => by go_simp⟩) hS ?_)
    (refine take_at8 (i := 2) (d := 83) (v := .bool true) rfl (by kernel_rfl) (by kernel_rfl) (by kernel_rfl) (fun _ _ _ h => h) rfl (Or.inl ⟨by kernel_rfl, fun w hSw => by go_simp⟩) hS ?_)
    (refine take_at8 (i := 3) (d := 84) (v := .slice A11 ts11.length c11) rfl (by kernel_rfl) (by kernel_rfl) (by kernel_rfl) (fun _ _ _ h => h) rfl (Or.inl ⟨by kernel_rfl, fun w hSw => by go_simp⟩) hS ?_)
    (refine take_at8 (i := 4) (d := 85) (v := .slice A12 n12 c12) rfl (by kernel_rfl) (by kernel_rfl) (by kernel_rfl) (fun _ _ _ h => h) rfl (Or.inl ⟨by kernel_rfl, fun w hSw => by go_simp⟩) hS ?_)
    refine wpAnyH_ready (rs := [5]) (by decide +kernel) (by simp) (AllReadyH.cons rfl (fun K hK => ?_) AllReadyH.nil)
    go_simp
    (go_at_call 15; (with_reducible refine (HSM1.out _ hS).mono ?_); rintro e w13 ⟨rfl, hb13⟩)
    refine hK.out _ _ (hS.trans (hb13.mono hS.size)) (fun hS => ?_)
    clear hK K
    (try simp only [Act.put])
    clear hb13
    (refine take_at8 (i := 6) (d := 87) (v := .bool true) rfl (by kernel_rfl) (by kernel_rfl) (by kernel_rfl) (fun _ _ _ h => h) rfl (Or.inl ⟨by kernel_rfl, fun w hSw => by go_simp⟩) hS ?_)
    (refine take_at8 (i := 7) (d := 88) (v := .bool true) rfl (by kernel_rfl) (by kernel_rfl) (by kernel_rfl) (fun _ _ _ h => h) rfl (Or.inl ⟨by kernel_rfl, fun w hSw => by go_simp⟩) hS ?_)
    (refine take_at8 (i := 8) (d := 89) (v := .slice A11 ts11.length c11) rfl (by kernel_rfl) (by kernel_rfl) (by kernel_rfl) (fun _ _ _ h => h) rfl (Or.inl ⟨by kernel_rfl, fun w hSw => by go_simp⟩) hS ?_)
    (refine take_at8 (i := 9) (d := 90) (v := .int .i64 (ts11.length : Int)) rfl (by kernel_rfl) (by kernel_rfl) (by kernel_rfl) (fun _ _ _ h => h) rfl (Or.inl ⟨by kernel_rfl, fun w hSw => by go_simp⟩) hS ?_)
    (refine take_at8 (i := 10) (d := 91) (v := .int .i64 (k : Int)) rfl (by kernel_rfl) (by kernel_rfl) (by kernel_rfl) (fun _ _ _ h => h) rfl (Or.inl ⟨by kernel_rfl, fun w hSw => by go_simp⟩) hS ?_)
    (refine take_at8 (i := 11) (d := 92) (v := .bool true) rfl (by kernel_rfl) (by kernel_rfl) (by kernel_rfl) (fun _ _ _ h => h) rfl (Or.inl ⟨by kernel_rfl, fun w hSw => by have hc := hge; go_simp⟩) hS ?_)
    (refine take_at8 (i := 12) (d := 93) (v := .bool true) rfl (by kernel_rfl) (by kernel_rfl) (by kernel_rfl) (fun _ _ _ h => h) rfl (Or.inl ⟨by kernel_rfl, fun w hSw => by go_simp⟩) hS ?_)
    (refine take_at8 (i := 13) (d := 94) (v := .bool true) rfl (by kernel_rfl) (by kernel_rfl) (by kernel_rfl) (fun _ _ _ h => h) rfl (Or.inl ⟨by kernel_rfl, fun w hSw => by go_simp⟩) hS ?_)
    (refine take_at8 (i := 14) (d := 95) (v := .slice A11 ts11.length c11) rfl (by kernel_rfl) (by kernel_rfl) (by kernel_rfl) (fun _ _ _ h => h) rfl (Or.inl ⟨by kernel_rfl, fun w hSw => by go_simp⟩) hS ?_)
    (refine take_at8 (i := 15) (d := 96) (v := .int .i64 (k : Int)) rfl (by kernel_rfl) (by kernel_rfl) (by kernel_rfl) (fun _ _ _ h => h) rfl (Or.inl ⟨by kernel_rfl, fun w hSw => by go_simp⟩) hS ?_)
    (refine take_at8 (i := 16) (d := 97) (v := .slice A11 k c11) rfl (by kernel_rfl) (by kernel_rfl) (by kernel_rfl) (fun _ _ _ h => h) rfl (Or.inl ⟨by kernel_rfl, fun w hSw => by have hc := hu1 w; go_simp⟩) hS ?_)
    (refine take_at8 (i := 17) (d := 98) (v := .slice (some ⟨g, o, none⟩) ts.length c0) rfl (by kernel_rfl) (by kernel_rfl) (by kernel_rfl) (fun _ _ _ h => h) rfl (Or.inl ⟨by kernel_rfl, fun w hSw => by go_simp⟩) hS ?_)
    (refine take_at8 (i := 18) (d := 99) (v := .int .i64 (k : Int)) rfl (by kernel_rfl) (by kernel_rfl) (by kernel_rfl) (fun _ _ _ h => h) rfl (Or.inl ⟨by kernel_rfl, fun w hSw => by go_simp⟩) hS ?_)
    (refine take_at8 (i := 19) (d := 100) (v := .slice (some ⟨g, o, none⟩) k c0) rfl (by kernel_rfl) (by kernel_rfl) (by kernel_rfl) (fun _ _ _ h => h) rfl (Or.inl ⟨by kernel_rfl, fun w hSw => by have hc := hu2 w; go_simp⟩) hS ?_)
    refine wpAnyH_ready (rs := [20]) (by decide +kernel) (by simp) (AllReadyH.cons rfl (fun K hK => ?_) AllReadyH.nil)
    go_simp
    (go_at_call 18; (with_reducible refine (HTX2.out _ hS).mono ?_); rintro e w14 ⟨v14, rfl, ho14, hb14⟩)
    obtain ⟨A14, c14, rfl⟩ := ho14.slice
    have hS15 := hS.trans (hb14.mono hS.size)
    have HSM3 := Lib.hid (HSM2.out w14 A14 c14 hS15 ho14.see)
    rw [HN13.out]
    refine hK.out _ _ (hS15) (fun hS => ?_)
    clear hK K
    (try simp only [Act.put])
    refine wpAnyH_ready (rs := [21]) (by decide +kernel) (by simp) (AllReadyH.cons rfl (fun K hK => ?_) AllReadyH.nil)
    go_simp
    (go_at_call 15; (with_reducible refine (HSM3.out).mono ?_); rintro e w15 ⟨rfl, hb15⟩)
    refine hK.out _ _ (hS.trans (hb15.mono hS.size)) (fun hS => ?_)
    clear hK K
    (try simp only [Act.put])
    (refine take_at8 (i := 22) (d := 103) (v := .bool true) rfl (by kernel_rfl) (by kernel_rfl) (by kernel_rfl) (fun _ _ _ h => h) rfl (Or.inl ⟨by kernel_rfl, fun w hSw => by go_simp⟩) hS ?_)
    (refine take_at8 (i := 23) (d := 6) (v := .bool true) rfl (by kernel_rfl) (by kernel_rfl) (by kernel_rfl) (fun _ _ _ h => h) rfl (Or.inl ⟨by kernel_rfl, fun w hSw => by go_simp⟩) hS ?_)
    refine wpAnyH_done (by kernel_rfl) ?_ _
    have HW15 := Lib.hid (HW8.out.trans ((HB12.out.trans (hS.mono HZ12.out)).mono (by rw [HBS.out]; exact HW8.out.size)))
    clear hS hu1 hu2 hge
    go_simp
    go_wp2
    go_ret
    exact ⟨rfl, HW15.out⟩
end
end Go.Proofs.YtapdnoellleimaaDoor
