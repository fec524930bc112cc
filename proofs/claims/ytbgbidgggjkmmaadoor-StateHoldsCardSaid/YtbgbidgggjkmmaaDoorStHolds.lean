/-
  StateHolds.
-/
import Derived.Test.YtbgbidgggjkmmaaDoorStHeld
import Derived.Test.YtbgbidgggjkmmaaDoorStLists
namespace Go.Proofs.YtbgbidgggjkmmaaDoor
open Go.RowKit Go.Sort

set_option maxRecDepth 100000 in
theorem rises_yes (s : StM) (hp : s.ps.length ≤ 1000000) (hr : s.rs.length ≤ 1000000) (h : s.pl.Ris) (w : World) (hS : s.See w w.heap.size) :
    Calls Tryd.prog 12 #[.agg s.cells] w fun e w' => e = .returned (.bool true) ∧ Below w.heap.size w w' :=
  (rises_any s hp hr w hS).mono fun e w' ⟨r, he, hr, hb⟩ => by
    rw [hr.2 h] at he
    exact ⟨he, hb⟩
set_option maxRecDepth 100000 in
theorem fits_len {s : StM} {n : Nat} (hf : s.pl.Fits n) (hn : n ≤ 1000) : s.ps.length ≤ 1300 ∧ s.rs.length ≤ 1300 ∧ ∀ r ∈ s.rs, r.x.vals.length ≤ 1300 := by
  have h1 : s.ps.length ≤ 300 + n := hf.ps
  have h2 : (s.rs.map RepM.x).length ≤ 300 + n := hf.rs
  rw [List.length_map] at h2
  exact ⟨by omega, by omega, fun r hr => by
    have := hf.vals r.x (List.mem_map_of_mem hr)
    omega⟩

attribute [local go_sem ↓] ldRp_def stRp_def ldSt_def stSt_def ldReq_def stReq_def bdReq_def ldPr_def stPr_def bsT_def

set_option maxRecDepth 100000 in
set_option maxHeartbeats 8000000 in
theorem holds10_walk (s : StM) (qs : List ReqX) (A : Option Addr) (c : Nat) (key : ByteArray) (w : World) (hz : s.Sz) (hl : qs.length ≤ 140737488351232) (hq : ∀ q ∈ qs, q.key.size ≤ 140737488351232 ∧ q.val.size ≤ 140737488351232 ∧ q.old.size ≤ 140737488351232) (T : World → Prop) (hT : ∀ w', Below w.heap.size w w' → T w') (hop : ∀ q ∈ qs, HopFor q T) (hS : s.See w w.heap.size) (hQ : QK.See w w.heap.size A qs) :
    Calls Tryd.prog 3 #[.agg s.cells, .slice A qs.length c, .string key] w fun e w' => e = .returned (.bool true) ∧ Below w.heap.size w w' := by
  obtain ⟨w1, hw1⟩ : ∃ w1, w1 = w.alloc (.cells s.cells 28) := ⟨_, rfl⟩
  have HX : Hid (Box w1 w.heap.size 28 s.cells) := by rw [hw1]; exact Box.made w _ _
  have hF : Below w.heap.size w w1 := by rw [hw1]; exact (Below.refl _ _).alloc (Nat.le_refl _) _
  have HS := Lib.hid (hS.far hF)
  have HQ := Lib.hid (EK.See.far hQ hF)
  have HT : Hid (∀ w', Below w1.heap.size w1 w' → T w') := Lib.hid (fun w' hb => hT w' (hF.trans (hb.mono hF.size)))
  have HW := Lib.hid hF
  have HO := Lib.hid hop
  clear hS hF hQ hT hop
  go_enter Tryd.func3, Tryd.ntmps3
  go_upto_region 1 with fail
  change Code.wp _ _ _ _ (w.alloc (.cells s.cells 28))
  rw [← hw1]
  clear hw1
  go_upto_region 3 with (go_at_call 6; (with_reducible refine (alive10_any _).mono ?_); rintro e w2 ⟨rfl, hb2⟩; have HF2 := Lib.hid hb2; clear hb2)
  replace HX := Lib.hid (HX.out.below HF2.out HX.out.lt)
  replace HS := Lib.hid (HS.out.far HF2.out)
  replace HQ := Lib.hid (EK.See.far HQ.out HF2.out)
  replace HT : Hid (∀ w', Below w2.heap.size w2 w' → T w') := Lib.hid (fun w' hb => HT.out w' (HF2.out.trans (hb.mono HF2.out.size)))
  replace HW := Lib.hid (HW.out.trans (HF2.out.mono HW.out.size))
  clear HF2
  have ls := HX.out.l_st
  have HG : Hid (Calls Tryd.prog 7 #[.agg s.cells, .slice A qs.length c] w2 (GrtPost s qs w2)) := Lib.hid (grt_any s hz qs A c hl hq w2 HS.out HQ.out)
  clear hz hl hq
  by_cases hlong : 1024 < key.size
  · have i1 : (1024 : Int) < (key.size : Int) := by omega
    clear HX HS HQ HT HO hlong
    go_wp2_with (go_at_call 7; (with_reducible refine (HG.out).mono ?_); rintro e w3 ⟨g, rfl, hg, hb3⟩; have HW3 := Lib.hid (HW.out.trans (hb3.mono HW.out.size)); clear hb3 hg; cases g)
    all_goals (go_ret; exact ⟨rfl, HW3.out⟩)
  have i1 : ¬ (1024 : Int) < (key.size : Int) := by omega
  clear hlong
  go_upto_region 5 with (go_at_call 7; (with_reducible refine (HG.out).mono ?_); rintro e w3 ⟨g, rfl, hg, hb3⟩; have HW3 := Lib.hid (HW.out.trans (hb3.mono HW.out.size)); cases g; (focus (have HSM := Lib.hid (hg rfl); have HF3 := Lib.hid hb3)); (all_goals clear hb3 hg))
  all_goals (try (go_ret; exact ⟨rfl, HW3.out⟩))
  have HX3 := Lib.hid (HX.out.below HF3.out HX.out.lt)
  have HS3 := Lib.hid (HS.out.far HF3.out)
  have HQ3 := Lib.hid (EK.See.far HQ.out HF3.out)
  have HT3 : Hid (∀ w', Below w3.heap.size w3 w' → T w') := Lib.hid (fun w' hb => HT.out w' (HF3.out.trans (hb.mono HF3.out.size)))
  clear HG HX HS HQ HT HW HF3 ls i1
  obtain ⟨w4, hst4, hb4, hbl4, _⟩ := laid_st w3 (stV none 0 0 none 0 0 0 none 0 0) rfl s.pA s.ps.length s.pc s.rA s.rs.length s.rc s.ep s.mA s.ms.length s.mc
  have HF4 := Lib.hid hbl4
  have HB4 : Hid (Box w4 w3.heap.size 28 s.cells) := Lib.hid hb4
  have HX4 := Lib.hid (HX3.out.below hbl4 HX3.out.lt)
  have HS4 := Lib.hid (HS3.out.far hbl4)
  have ls := HX3.out.l_st
  clear hb4 hbl4
  go_upto_region 6 with fail
  clear hst4 ls HX3 HS3
  have GB := Lib.hid (Nat.le_refl w3.heap.size)
  generalize hb7 : w3.heap.size = b7 at HB4 GB ⊢
  replace GB : Hid (w3.heap.size ≤ b7) := Lib.hid (by omega)
  clear hb7
  have ls := HX4.out.l_st
  have HGE := Lib.hid (get_any s (by have := HSM.out.1.1; omega) HSM.out.2.1.ps key w4 HS4.out)
  go_upto_region 7 with (go_at_call 8; (with_reducible refine (HGE.out).mono ?_); rintro e w5 ⟨rfl, hb5⟩; have HF5 := Lib.hid (HF4.out.trans (hb5.mono HF4.out.size)); have HB5 := Lib.hid (HB4.out.below hb5 HB4.out.lt); have HS5 := Lib.hid (HS4.out.far hb5); clear hb5)
  clear HGE HB4 HX4 HS4 HF4 ls
  have HST : Hid (s.pl.Ris ∧ s.pl.Fits 0 ∧ qs.length ≤ 60) := Lib.hid ⟨HSM.out.2.1, HSM.out.1.fits, HSM.out.2.2⟩
  clear HSM
  go_wp2
  go_loopw [8, 9, 38] (fun vv vb i wr => ∃ (k : Nat) (x : StM), k ≤ qs.length ∧ i = .int .i64 (k : Int) ∧ vv = .string (getV key x.ps) ∧ vb = .bool (getB key x.ps) ∧ Hid (x.pl.Ris ∧ x.pl.Fits k) ∧ Hid (Box wr b7 28 x.cells) ∧ Hid (x.See wr wr.heap.size) ∧ Hid (Below w3.heap.size w3 wr)) (fun _ _ i _ => qs.length - (intOf i).toNat)
  case atStart => exact ⟨0, s, Nat.zero_le _, rfl, rfl, rfl, Lib.hid ⟨HST.out.1, HST.out.2.1⟩, HB5, HS5, HF5⟩
  case round =>
    obtain ⟨k, x, hk, rfl, rfl, rfl, HRF, HB, HSX, HF⟩ := hrel
    by_cases hlt : k < qs.length
    · clear HB5 HS5 HF5
      have HLT := Lib.hid hlt
      obtain ⟨g, o, hA, _, hr⟩ := EK.See.range (EK.See.far HQ3.out HF.out) hlt
      have lk : (ldReq (.pointer (some ⟨g, o + k * 42, none⟩))).run Tryd.prog wr = .ok (.agg (qs[k]'hlt).cells.toArray) wr := run_loadAt_mid (P := Tryd.prog) wr g (o + k * 42) 43 (qs[k]'hlt).cells _ (hr k hlt) Tryd.underlying43 rfl (qs[k]'hlt).size
      rw [hA]
      have i1 : (k : Int) < (qs.length : Int) := by omega
      have i0 : (0 : Int) ≤ (k : Int) := by omega
      have wk : IntKind.i64.wrap ((k : Int) + 1) = ((k + 1 : Nat) : Int) := by rw [IntKind.wrap_i64]; have := HST.out.2.2; omega
      obtain ⟨w5, hst, hb5, hg5⟩ := (Box.made wr 43 zreqV).st_req rfl (qs[k]'hlt)
      have hF5 : Below wr.heap.size wr w5 := ((Below.refl _ _).alloc (Nat.le_refl _) _).trans (below_only hg5 (Nat.le_refl _) (by simp))
      have HQ5 := Lib.hid hb5
      have HB5 := Lib.hid (HB.out.below hF5 HB.out.lt)
      have HS5 := Lib.hid (HSX.out.far hF5)
      have HF5 := Lib.hid (HF.out.trans (hF5.mono HF.out.size))
      have HHOP := Lib.hid (HO.out _ (List.getElem_mem hlt))
      have HFL := Lib.hid (fits_len HRF.out.2 (by have := HST.out.2.2; omega))
      generalize qs[k]'hlt = q at *
      obtain ⟨xv, HXV⟩ : ∃ v, Hid (getV key x.ps = v) := ⟨_, Lib.hid rfl⟩
      obtain ⟨xb, HXB⟩ : ∃ v, Hid (getB key x.ps = v) := ⟨_, Lib.hid rfl⟩
      rw [HXV.out, HXB.out]
      have HV : Hid (∀ b, b = (reqGood q) → True) := Lib.hid (fun _ _ => trivial)
      clear HV hr hb5 hg5 hF5 hA HSX HB HF
      go_upto_region 10 with fail
      clear lk hst
      generalize wr.heap.size = m5 at *
      have lx := HB5.out.l_st
      have cq : w5.cell? ⟨m5, 0, none⟩ = some (.int .i64 q.client) := HQ5.out.rq_cell rfl
      have HLA := Lib.hid (last_any x (by have := HFL.out.2.1; omega) (fun r hr => by have := HFL.out.2.2 r hr; omega) q.client w5 HS5.out)
      go_upto_region 11 with (go_at_call 9; (with_reducible refine (HLA.out).mono ?_); rintro e w6 ⟨r, lb, rA, rz, rfl, hor, hlk, _, hb6⟩; have HLK := Lib.hid (hlk HRF.out.1.rs); have HOR := Lib.hid hor; obtain ⟨w7, hst7, hb7, hbl7, _⟩ := laid_rp w6 (repv 0 0 0 none 0 0) rfl r.client r.num r.code rA r.vals.length rz; have hf7 := hb6.trans (hbl7.mono hb6.size); have HK7 := Lib.hid hb7; have HB7 := Lib.hid (HB5.out.below hf7 HB5.out.lt); have HQ7 := Lib.hid (HQ5.out.below hf7 HQ5.out.lt); have HS7 := Lib.hid (HS5.out.far hf7); have HF7 := Lib.hid (HF5.out.trans (hf7.mono HF5.out.size)); clear hor hlk hb6 hb7 hbl7 hf7)
      clear hst7 HLA lx cq HB5 HQ5 HS5 HF5
      generalize w6.heap.size = m7 at *
      have lx := HB7.out.l_st
      have lq := HQ7.out.ld_req
      have HAP := Lib.hid (sapply_any x (HRF.out.2.more (by have := HST.out.2.2; omega)) HRF.out.1 q T w7 (fun w' hb => HT3.out w' (HF7.out.trans (hb.mono HF7.out.size))) HHOP.out HS7.out)
      go_upto_region 12 with (go_at_call 10; (with_reducible refine (HAP.out).mono ?_); rintro e w8 ⟨y, a, aA, az, rfl, hx, ho8, _, hb8⟩; have HXE := Lib.hid hx; obtain ⟨w9, w10, hst9, hst10, ht10, hr10, hf10⟩ := laid_strp w8 y a.client a.num a.code aA a.vals.length az; have hf11 := hb8.trans (hf10.mono hb8.size); have HY := Lib.hid ht10; have HA := Lib.hid hr10; have HB10 := Lib.hid (HB7.out.below hf11 HB7.out.lt); have HQ10 := Lib.hid (HQ7.out.below hf11 HQ7.out.lt); have HK10 := Lib.hid (HK7.out.below hf11 HK7.out.lt); have HF10 := Lib.hid (HF7.out.trans (hf11.mono HF7.out.size)); have HO10 := Lib.hid (ho8.keep hf10); clear hx ho8 hb8 ht10 hr10 hf10 hf11)
      clear hst9 hst10 HAP lx lq HB7 HQ7 HK7 HS7
      have GM := Lib.hid HF7.out.size
      clear HF7
      generalize w7.heap.size = m70 at *
      generalize w8.heap.size = m8 at *
      have HRY : Hid (y.pl.Ris ∧ y.pl.Fits (k + 1)) := Lib.hid ⟨HXE.out.ris HRF.out.1, HXE.out.fits HRF.out.2⟩
      have HFY := Lib.hid (fits_len HRY.out.2 (by have := HST.out.2.2; omega))
      have HEV : Hid ((getV key y.ps, getB key y.ps) = if reqGood q = true ∧ r.num < q.num then heldF x.pl q a.code key else (xv, xb)) := Lib.hid (by
        have h := HXE.out.held HRF.out.1 HLK.out (fun hb => by
          rcases HOR.out with h | h
          · rw [h.1] at hb; cases hb
          · rw [h.2]) key
        have e1 : getV key x.pl.ps = xv := HXV.out
        have e2 : getB key x.pl.ps = xb := HXB.out
        rw [e1, e2] at h
        exact h)
      replace HXV : Hid (getV key x.pl.ps = xv) := HXV
      replace HXB : Hid (getB key x.pl.ps = xb) := HXB
      have HC : Hid (∀ w', Below w10.heap.size w10 w' → w'.cell? ⟨m5, 1, none⟩ = some (.int .i64 q.num) ∧ w'.cell? ⟨m7, 1, none⟩ = some (.int .i64 r.num) ∧ w'.cell? ⟨m8 + 1, 2, none⟩ = some (.int .i64 a.code) ∧ w'.cell? ⟨m5, 3, none⟩ = some (.string q.key) ∧ w'.cell? ⟨m5, 2, none⟩ = some (.int .i64 q.kind) ∧ w'.cell? ⟨m5, 4, none⟩ = some (.string q.val) ∧ (ldSt (.pointer (some ⟨m8, 0, none⟩))).run Tryd.prog w' = .ok (.agg y.cells) w') := Lib.hid (fun w' hb =>
        ⟨(HQ10.out.below hb HQ10.out.lt).rq_cell rfl, (HK10.out.below hb HK10.out.lt).cell 1, (HA.out.below hb HA.out.lt).cell 2, (HQ10.out.below hb HQ10.out.lt).rq_cell rfl, (HQ10.out.below hb HQ10.out.lt).rq_cell rfl, (HQ10.out.below hb HQ10.out.lt).rq_cell rfl, (HY.out.below hb HY.out.lt).l_st⟩)
      have lq := HQ10.out.ld_req
      have HGD := Lib.hid (rgood_any9 q w10)
      clear HXE HLK HOR HHOP HFL HQ10 HK10 HA HY
      cases hgd : reqGood q
      · rw [hgd] at HGD HEV
        clear hgd
        have HVB : Hid (getV key y.ps = xv ∧ getB key y.ps = xb) := Lib.hid (by
          have h := HEV.out
          rw [if_neg (fun e => by cases e.1)] at h
          injection h with h1 h2
          exact ⟨h1, h2⟩)
        clear HEV
        go_upto_region 20 with (go_at_call 11; (with_reducible refine (HGD.out).mono ?_); rintro e w11 ⟨rfl, hb11⟩; obtain ⟨k1, k2, k3, k4, k5, k6, k7⟩ := HC.out w11 hb11; have HB11 := Lib.hid (HB10.out.below hb11 HB10.out.lt); have HO11 := Lib.hid (HO10.out.keep hb11); have HF11 := Lib.hid (HF10.out.trans (hb11.mono HF10.out.size)); clear hb11)
        clear HGD HC HB10 HO10 HF10 lq
        obtain ⟨w12, hst12, hb12, hg12⟩ := HB11.out.s_st rfl y.pA y.ps.length y.pc y.rA y.rs.length y.rc y.ep y.mA y.ms.length y.mc
        have HB12 : Hid (Box w12 b7 28 y.cells) := Lib.hid hb12
        have HO12 := Lib.hid (HO11.out.aside HB11.out hg12)
        have HF12 := Lib.hid (HF11.out.trans (below_only hg12 GB.out HF11.out.size))
        clear HB11 HO11 HF11 hb12 hg12 k1 k2 k3 k4 k5 k6
        go_upto_region 21 with fail
        clear hst12 k7
        have lx := HB12.out.l_st
        have hge := get_any y (by have := HFY.out.1; omega) HRY.out.1.ps key w12 HO12.out.see
        rw [HVB.out.1, HVB.out.2] at hge
        have HGE := Lib.hid hge
        clear hge
        go_upto_region 22 with (go_at_call 8; (with_reducible refine (HGE.out).mono ?_); rintro e w13 ⟨rfl, hb13⟩; have HB13 := Lib.hid (HB12.out.below hb13 HB12.out.lt); have HO13 := Lib.hid (HO12.out.keep hb13); have HF13 := Lib.hid (HF12.out.trans (hb13.mono HF12.out.size)); clear hb13)
        clear HGE HB12 HO12 HF12 lx
        have lx := HB13.out.l_st
        have HRI := Lib.hid (rises_yes y (by have := HFY.out.1; omega) (by have := HFY.out.2.1; omega) HRY.out.1 w13 HO13.out.see)
        go_wp2_with (go_at_call 12; (with_reducible refine (HRI.out).mono ?_); rintro e w14 ⟨rfl, hb14⟩; have HB14 := Lib.hid (HB13.out.below hb14 HB13.out.lt); have HS14 := Lib.hid (HO13.out.see.far hb14); have HF14 := Lib.hid (HF13.out.trans (hb14.mono HF13.out.size)); clear hb14)
        go_roundw
        case rel => exact ⟨k + 1, y, HLT.out, by go_num, by rw [HVB.out.1], by rw [HVB.out.2], HRY, HB14, HS14, HF14⟩
        case measure => have := HLT.out; simp [intOf]; omega
      rw [hgd] at HGD HEV
      clear hgd
      by_cases i2 : r.num < q.num
      case neg =>
        have i3 : decide (q.num > r.num) = false := decide_eq_false i2
        have HVB : Hid (getV key y.ps = xv ∧ getB key y.ps = xb) := Lib.hid (by
          have h := HEV.out
          rw [if_neg (fun e => i2 e.2)] at h
          injection h with h1 h2
          exact ⟨h1, h2⟩)
        clear HEV
        go_upto_region 20 with (go_at_call 11; (with_reducible refine (HGD.out).mono ?_); rintro e w11 ⟨rfl, hb11⟩; obtain ⟨k1, k2, k3, k4, k5, k6, k7⟩ := HC.out w11 hb11; have HB11 := Lib.hid (HB10.out.below hb11 HB10.out.lt); have HO11 := Lib.hid (HO10.out.keep hb11); have HF11 := Lib.hid (HF10.out.trans (hb11.mono HF10.out.size)); clear hb11)
        clear HGD HC HB10 HO10 HF10 lq
        obtain ⟨w12, hst12, hb12, hg12⟩ := HB11.out.s_st rfl y.pA y.ps.length y.pc y.rA y.rs.length y.rc y.ep y.mA y.ms.length y.mc
        have HB12 : Hid (Box w12 b7 28 y.cells) := Lib.hid hb12
        have HO12 := Lib.hid (HO11.out.aside HB11.out hg12)
        have HF12 := Lib.hid (HF11.out.trans (below_only hg12 GB.out HF11.out.size))
        clear HB11 HO11 HF11 hb12 hg12 k1 k2 k3 k4 k5 k6
        go_upto_region 21 with fail
        clear hst12 k7
        have lx := HB12.out.l_st
        have hge := get_any y (by have := HFY.out.1; omega) HRY.out.1.ps key w12 HO12.out.see
        rw [HVB.out.1, HVB.out.2] at hge
        have HGE := Lib.hid hge
        clear hge
        go_upto_region 22 with (go_at_call 8; (with_reducible refine (HGE.out).mono ?_); rintro e w13 ⟨rfl, hb13⟩; have HB13 := Lib.hid (HB12.out.below hb13 HB12.out.lt); have HO13 := Lib.hid (HO12.out.keep hb13); have HF13 := Lib.hid (HF12.out.trans (hb13.mono HF12.out.size)); clear hb13)
        clear HGE HB12 HO12 HF12 lx
        have lx := HB13.out.l_st
        have HRI := Lib.hid (rises_yes y (by have := HFY.out.1; omega) (by have := HFY.out.2.1; omega) HRY.out.1 w13 HO13.out.see)
        go_wp2_with (go_at_call 12; (with_reducible refine (HRI.out).mono ?_); rintro e w14 ⟨rfl, hb14⟩; have HB14 := Lib.hid (HB13.out.below hb14 HB13.out.lt); have HS14 := Lib.hid (HO13.out.see.far hb14); have HF14 := Lib.hid (HF13.out.trans (hb14.mono HF13.out.size)); clear hb14)
        go_roundw
        case rel => exact ⟨k + 1, y, HLT.out, by go_num, by rw [HVB.out.1], by rw [HVB.out.2], HRY, HB14, HS14, HF14⟩
        case measure => have := HLT.out; simp [intOf]; omega
      have i3 : decide (q.num > r.num) = true := decide_eq_true i2
      by_cases i4 : a.code = 0
      case neg =>
        have i4b : (a.code == 0) = false := by simpa using i4
        have HVB : Hid (getV key y.ps = xv ∧ getB key y.ps = xb) := Lib.hid (by
          have h := HEV.out
          rw [if_pos ⟨rfl, i2⟩, heldF_not (fun e => i4 e.1)] at h
          rw [HXV.out, HXB.out] at h
          injection h with h1 h2
          exact ⟨h1, h2⟩)
        clear HEV
        go_upto_region 20 with (go_at_call 11; (with_reducible refine (HGD.out).mono ?_); rintro e w11 ⟨rfl, hb11⟩; obtain ⟨k1, k2, k3, k4, k5, k6, k7⟩ := HC.out w11 hb11; have HB11 := Lib.hid (HB10.out.below hb11 HB10.out.lt); have HO11 := Lib.hid (HO10.out.keep hb11); have HF11 := Lib.hid (HF10.out.trans (hb11.mono HF10.out.size)); clear hb11)
        clear HGD HC HB10 HO10 HF10 lq
        obtain ⟨w12, hst12, hb12, hg12⟩ := HB11.out.s_st rfl y.pA y.ps.length y.pc y.rA y.rs.length y.rc y.ep y.mA y.ms.length y.mc
        have HB12 : Hid (Box w12 b7 28 y.cells) := Lib.hid hb12
        have HO12 := Lib.hid (HO11.out.aside HB11.out hg12)
        have HF12 := Lib.hid (HF11.out.trans (below_only hg12 GB.out HF11.out.size))
        clear HB11 HO11 HF11 hb12 hg12 k1 k2 k3 k4 k5 k6
        go_upto_region 21 with fail
        clear hst12 k7
        have lx := HB12.out.l_st
        have hge := get_any y (by have := HFY.out.1; omega) HRY.out.1.ps key w12 HO12.out.see
        rw [HVB.out.1, HVB.out.2] at hge
        have HGE := Lib.hid hge
        clear hge
        go_upto_region 22 with (go_at_call 8; (with_reducible refine (HGE.out).mono ?_); rintro e w13 ⟨rfl, hb13⟩; have HB13 := Lib.hid (HB12.out.below hb13 HB12.out.lt); have HO13 := Lib.hid (HO12.out.keep hb13); have HF13 := Lib.hid (HF12.out.trans (hb13.mono HF12.out.size)); clear hb13)
        clear HGE HB12 HO12 HF12 lx
        have lx := HB13.out.l_st
        have HRI := Lib.hid (rises_yes y (by have := HFY.out.1; omega) (by have := HFY.out.2.1; omega) HRY.out.1 w13 HO13.out.see)
        go_wp2_with (go_at_call 12; (with_reducible refine (HRI.out).mono ?_); rintro e w14 ⟨rfl, hb14⟩; have HB14 := Lib.hid (HB13.out.below hb14 HB13.out.lt); have HS14 := Lib.hid (HO13.out.see.far hb14); have HF14 := Lib.hid (HF13.out.trans (hb14.mono HF13.out.size)); clear hb14)
        go_roundw
        case rel => exact ⟨k + 1, y, HLT.out, by go_num, by rw [HVB.out.1], by rw [HVB.out.2], HRY, HB14, HS14, HF14⟩
        case measure => have := HLT.out; simp [intOf]; omega
      by_cases i5 : q.key = key
      case neg =>
        have i5b : (q.key.toList == key.toList) = false := by
          rw [beq_eq_false_iff_ne]
          exact fun e => i5 (str_eq e)
        have HVB : Hid (getV key y.ps = xv ∧ getB key y.ps = xb) := Lib.hid (by
          have h := HEV.out
          rw [if_pos ⟨rfl, i2⟩, heldF_not (fun e => i5 e.2.1)] at h
          rw [HXV.out, HXB.out] at h
          injection h with h1 h2
          exact ⟨h1, h2⟩)
        clear HEV
        go_upto_region 20 with (go_at_call 11; (with_reducible refine (HGD.out).mono ?_); rintro e w11 ⟨rfl, hb11⟩; obtain ⟨k1, k2, k3, k4, k5, k6, k7⟩ := HC.out w11 hb11; have HB11 := Lib.hid (HB10.out.below hb11 HB10.out.lt); have HO11 := Lib.hid (HO10.out.keep hb11); have HF11 := Lib.hid (HF10.out.trans (hb11.mono HF10.out.size)); clear hb11)
        clear HGD HC HB10 HO10 HF10 lq
        obtain ⟨w12, hst12, hb12, hg12⟩ := HB11.out.s_st rfl y.pA y.ps.length y.pc y.rA y.rs.length y.rc y.ep y.mA y.ms.length y.mc
        have HB12 : Hid (Box w12 b7 28 y.cells) := Lib.hid hb12
        have HO12 := Lib.hid (HO11.out.aside HB11.out hg12)
        have HF12 := Lib.hid (HF11.out.trans (below_only hg12 GB.out HF11.out.size))
        clear HB11 HO11 HF11 hb12 hg12 k1 k2 k3 k4 k5 k6
        go_upto_region 21 with fail
        clear hst12 k7
        have lx := HB12.out.l_st
        have hge := get_any y (by have := HFY.out.1; omega) HRY.out.1.ps key w12 HO12.out.see
        rw [HVB.out.1, HVB.out.2] at hge
        have HGE := Lib.hid hge
        clear hge
        go_upto_region 22 with (go_at_call 8; (with_reducible refine (HGE.out).mono ?_); rintro e w13 ⟨rfl, hb13⟩; have HB13 := Lib.hid (HB12.out.below hb13 HB12.out.lt); have HO13 := Lib.hid (HO12.out.keep hb13); have HF13 := Lib.hid (HF12.out.trans (hb13.mono HF12.out.size)); clear hb13)
        clear HGE HB12 HO12 HF12 lx
        have lx := HB13.out.l_st
        have HRI := Lib.hid (rises_yes y (by have := HFY.out.1; omega) (by have := HFY.out.2.1; omega) HRY.out.1 w13 HO13.out.see)
        go_wp2_with (go_at_call 12; (with_reducible refine (HRI.out).mono ?_); rintro e w14 ⟨rfl, hb14⟩; have HB14 := Lib.hid (HB13.out.below hb14 HB13.out.lt); have HS14 := Lib.hid (HO13.out.see.far hb14); have HF14 := Lib.hid (HF13.out.trans (hb14.mono HF13.out.size)); clear hb14)
        go_roundw
        case rel => exact ⟨k + 1, y, HLT.out, by go_num, by rw [HVB.out.1], by rw [HVB.out.2], HRY, HB14, HS14, HF14⟩
        case measure => have := HLT.out; simp [intOf]; omega
      have i6 : (q.key.toList == key.toList) = true := by rw [i5]; simp
      by_cases i7 : q.kind = 2
      case pos =>
        have HVB : Hid (getV key y.ps = q.val ∧ getB key y.ps = true) := Lib.hid (by
          have h := HEV.out
          rw [if_pos ⟨rfl, i2⟩] at h
          unfold heldF at h
          rw [if_pos ⟨i4, i5, .inl i7⟩] at h
          injection h with h1 h2
          exact ⟨h1, h2⟩)
        clear HEV
        go_upto_region 20 with (go_at_call 11; (with_reducible refine (HGD.out).mono ?_); rintro e w11 ⟨rfl, hb11⟩; obtain ⟨k1, k2, k3, k4, k5, k6, k7⟩ := HC.out w11 hb11; have HB11 := Lib.hid (HB10.out.below hb11 HB10.out.lt); have HO11 := Lib.hid (HO10.out.keep hb11); have HF11 := Lib.hid (HF10.out.trans (hb11.mono HF10.out.size)); clear hb11)
        clear HGD HC HB10 HO10 HF10 lq
        obtain ⟨w12, hst12, hb12, hg12⟩ := HB11.out.s_st rfl y.pA y.ps.length y.pc y.rA y.rs.length y.rc y.ep y.mA y.ms.length y.mc
        have HB12 : Hid (Box w12 b7 28 y.cells) := Lib.hid hb12
        have HO12 := Lib.hid (HO11.out.aside HB11.out hg12)
        have HF12 := Lib.hid (HF11.out.trans (below_only hg12 GB.out HF11.out.size))
        clear HB11 HO11 HF11 hb12 hg12 k1 k2 k3 k4 k5 k6
        go_upto_region 21 with fail
        clear hst12 k7
        have lx := HB12.out.l_st
        have hge := get_any y (by have := HFY.out.1; omega) HRY.out.1.ps key w12 HO12.out.see
        rw [HVB.out.1, HVB.out.2] at hge
        have HGE := Lib.hid hge
        clear hge
        go_upto_region 22 with (go_at_call 8; (with_reducible refine (HGE.out).mono ?_); rintro e w13 ⟨rfl, hb13⟩; have HB13 := Lib.hid (HB12.out.below hb13 HB12.out.lt); have HO13 := Lib.hid (HO12.out.keep hb13); have HF13 := Lib.hid (HF12.out.trans (hb13.mono HF12.out.size)); clear hb13)
        clear HGE HB12 HO12 HF12 lx
        have lx := HB13.out.l_st
        have HRI := Lib.hid (rises_yes y (by have := HFY.out.1; omega) (by have := HFY.out.2.1; omega) HRY.out.1 w13 HO13.out.see)
        go_wp2_with (go_at_call 12; (with_reducible refine (HRI.out).mono ?_); rintro e w14 ⟨rfl, hb14⟩; have HB14 := Lib.hid (HB13.out.below hb14 HB13.out.lt); have HS14 := Lib.hid (HO13.out.see.far hb14); have HF14 := Lib.hid (HF13.out.trans (hb14.mono HF13.out.size)); clear hb14)
        go_roundw
        case rel => exact ⟨k + 1, y, HLT.out, by go_num, by rw [HVB.out.1], by rw [HVB.out.2], HRY, HB14, HS14, HF14⟩
        case measure => have := HLT.out; simp [intOf]; omega
      by_cases i8 : q.kind = 4
      case pos =>
        have HVB : Hid (getV key y.ps = q.val ∧ getB key y.ps = true) := Lib.hid (by
          have h := HEV.out
          rw [if_pos ⟨rfl, i2⟩] at h
          unfold heldF at h
          rw [if_pos ⟨i4, i5, .inr i8⟩] at h
          injection h with h1 h2
          exact ⟨h1, h2⟩)
        clear HEV
        go_upto_region 20 with (go_at_call 11; (with_reducible refine (HGD.out).mono ?_); rintro e w11 ⟨rfl, hb11⟩; obtain ⟨k1, k2, k3, k4, k5, k6, k7⟩ := HC.out w11 hb11; have HB11 := Lib.hid (HB10.out.below hb11 HB10.out.lt); have HO11 := Lib.hid (HO10.out.keep hb11); have HF11 := Lib.hid (HF10.out.trans (hb11.mono HF10.out.size)); clear hb11)
        clear HGD HC HB10 HO10 HF10 lq
        obtain ⟨w12, hst12, hb12, hg12⟩ := HB11.out.s_st rfl y.pA y.ps.length y.pc y.rA y.rs.length y.rc y.ep y.mA y.ms.length y.mc
        have HB12 : Hid (Box w12 b7 28 y.cells) := Lib.hid hb12
        have HO12 := Lib.hid (HO11.out.aside HB11.out hg12)
        have HF12 := Lib.hid (HF11.out.trans (below_only hg12 GB.out HF11.out.size))
        clear HB11 HO11 HF11 hb12 hg12 k1 k2 k3 k4 k5 k6
        go_upto_region 21 with fail
        clear hst12 k7
        have lx := HB12.out.l_st
        have hge := get_any y (by have := HFY.out.1; omega) HRY.out.1.ps key w12 HO12.out.see
        rw [HVB.out.1, HVB.out.2] at hge
        have HGE := Lib.hid hge
        clear hge
        go_upto_region 22 with (go_at_call 8; (with_reducible refine (HGE.out).mono ?_); rintro e w13 ⟨rfl, hb13⟩; have HB13 := Lib.hid (HB12.out.below hb13 HB12.out.lt); have HO13 := Lib.hid (HO12.out.keep hb13); have HF13 := Lib.hid (HF12.out.trans (hb13.mono HF12.out.size)); clear hb13)
        clear HGE HB12 HO12 HF12 lx
        have lx := HB13.out.l_st
        have HRI := Lib.hid (rises_yes y (by have := HFY.out.1; omega) (by have := HFY.out.2.1; omega) HRY.out.1 w13 HO13.out.see)
        go_wp2_with (go_at_call 12; (with_reducible refine (HRI.out).mono ?_); rintro e w14 ⟨rfl, hb14⟩; have HB14 := Lib.hid (HB13.out.below hb14 HB13.out.lt); have HS14 := Lib.hid (HO13.out.see.far hb14); have HF14 := Lib.hid (HF13.out.trans (hb14.mono HF13.out.size)); clear hb14)
        go_roundw
        case rel => exact ⟨k + 1, y, HLT.out, by go_num, by rw [HVB.out.1], by rw [HVB.out.2], HRY, HB14, HS14, HF14⟩
        case measure => have := HLT.out; simp [intOf]; omega
      by_cases i9 : q.kind = 3
      case pos =>
        have HVB : Hid (getV key y.ps = ⟨#[]⟩ ∧ getB key y.ps = false) := Lib.hid (by
          have h := HEV.out
          rw [if_pos ⟨rfl, i2⟩] at h
          unfold heldF at h
          rw [if_neg (fun e => by have := e.2.2; omega), if_pos ⟨i4, i5, i9⟩] at h
          injection h with h1 h2
          exact ⟨h1, h2⟩)
        clear HEV
        go_upto_region 20 with (go_at_call 11; (with_reducible refine (HGD.out).mono ?_); rintro e w11 ⟨rfl, hb11⟩; obtain ⟨k1, k2, k3, k4, k5, k6, k7⟩ := HC.out w11 hb11; have HB11 := Lib.hid (HB10.out.below hb11 HB10.out.lt); have HO11 := Lib.hid (HO10.out.keep hb11); have HF11 := Lib.hid (HF10.out.trans (hb11.mono HF10.out.size)); clear hb11)
        clear HGD HC HB10 HO10 HF10 lq
        obtain ⟨w12, hst12, hb12, hg12⟩ := HB11.out.s_st rfl y.pA y.ps.length y.pc y.rA y.rs.length y.rc y.ep y.mA y.ms.length y.mc
        have HB12 : Hid (Box w12 b7 28 y.cells) := Lib.hid hb12
        have HO12 := Lib.hid (HO11.out.aside HB11.out hg12)
        have HF12 := Lib.hid (HF11.out.trans (below_only hg12 GB.out HF11.out.size))
        clear HB11 HO11 HF11 hb12 hg12 k1 k2 k3 k4 k5 k6
        go_upto_region 21 with fail
        clear hst12 k7
        have lx := HB12.out.l_st
        have hge := get_any y (by have := HFY.out.1; omega) HRY.out.1.ps key w12 HO12.out.see
        rw [HVB.out.1, HVB.out.2] at hge
        have HGE := Lib.hid hge
        clear hge
        go_upto_region 22 with (go_at_call 8; (with_reducible refine (HGE.out).mono ?_); rintro e w13 ⟨rfl, hb13⟩; have HB13 := Lib.hid (HB12.out.below hb13 HB12.out.lt); have HO13 := Lib.hid (HO12.out.keep hb13); have HF13 := Lib.hid (HF12.out.trans (hb13.mono HF12.out.size)); clear hb13)
        clear HGE HB12 HO12 HF12 lx
        have lx := HB13.out.l_st
        have HRI := Lib.hid (rises_yes y (by have := HFY.out.1; omega) (by have := HFY.out.2.1; omega) HRY.out.1 w13 HO13.out.see)
        go_wp2_with (go_at_call 12; (with_reducible refine (HRI.out).mono ?_); rintro e w14 ⟨rfl, hb14⟩; have HB14 := Lib.hid (HB13.out.below hb14 HB13.out.lt); have HS14 := Lib.hid (HO13.out.see.far hb14); have HF14 := Lib.hid (HF13.out.trans (hb14.mono HF13.out.size)); clear hb14)
        go_roundw
        case rel => exact ⟨k + 1, y, HLT.out, by go_num, by rw [HVB.out.1], by rw [HVB.out.2], HRY, HB14, HS14, HF14⟩
        case measure => have := HLT.out; simp [intOf]; omega
      have HVB : Hid (getV key y.ps = xv ∧ getB key y.ps = xb) := Lib.hid (by
        have h := HEV.out
        rw [if_pos ⟨rfl, i2⟩, heldF_not (fun e => by have := e.2.2; omega)] at h
        rw [HXV.out, HXB.out] at h
        injection h with h1 h2
        exact ⟨h1, h2⟩)
      clear HEV
      go_upto_region 20 with (go_at_call 11; (with_reducible refine (HGD.out).mono ?_); rintro e w11 ⟨rfl, hb11⟩; obtain ⟨k1, k2, k3, k4, k5, k6, k7⟩ := HC.out w11 hb11; have HB11 := Lib.hid (HB10.out.below hb11 HB10.out.lt); have HO11 := Lib.hid (HO10.out.keep hb11); have HF11 := Lib.hid (HF10.out.trans (hb11.mono HF10.out.size)); clear hb11)
      clear HGD HC HB10 HO10 HF10 lq
      obtain ⟨w12, hst12, hb12, hg12⟩ := HB11.out.s_st rfl y.pA y.ps.length y.pc y.rA y.rs.length y.rc y.ep y.mA y.ms.length y.mc
      have HB12 : Hid (Box w12 b7 28 y.cells) := Lib.hid hb12
      have HO12 := Lib.hid (HO11.out.aside HB11.out hg12)
      have HF12 := Lib.hid (HF11.out.trans (below_only hg12 GB.out HF11.out.size))
      clear HB11 HO11 HF11 hb12 hg12 k1 k2 k3 k4 k5 k6
      go_upto_region 21 with fail
      clear hst12 k7
      have lx := HB12.out.l_st
      have hge := get_any y (by have := HFY.out.1; omega) HRY.out.1.ps key w12 HO12.out.see
      rw [HVB.out.1, HVB.out.2] at hge
      have HGE := Lib.hid hge
      clear hge
      go_upto_region 22 with (go_at_call 8; (with_reducible refine (HGE.out).mono ?_); rintro e w13 ⟨rfl, hb13⟩; have HB13 := Lib.hid (HB12.out.below hb13 HB12.out.lt); have HO13 := Lib.hid (HO12.out.keep hb13); have HF13 := Lib.hid (HF12.out.trans (hb13.mono HF12.out.size)); clear hb13)
      clear HGE HB12 HO12 HF12 lx
      have lx := HB13.out.l_st
      have HRI := Lib.hid (rises_yes y (by have := HFY.out.1; omega) (by have := HFY.out.2.1; omega) HRY.out.1 w13 HO13.out.see)
      go_wp2_with (go_at_call 12; (with_reducible refine (HRI.out).mono ?_); rintro e w14 ⟨rfl, hb14⟩; have HB14 := Lib.hid (HB13.out.below hb14 HB13.out.lt); have HS14 := Lib.hid (HO13.out.see.far hb14); have HF14 := Lib.hid (HF13.out.trans (hb14.mono HF13.out.size)); clear hb14)
      go_roundw
      case rel => exact ⟨k + 1, y, HLT.out, by go_num, by rw [HVB.out.1], by rw [HVB.out.2], HRY, HB14, HS14, HF14⟩
      case measure => have := HLT.out; simp [intOf]; omega
    · have hke : k = qs.length := by omega
      have i1 : ¬ (k : Int) < (qs.length : Int) := by omega
      have HWF := Lib.hid (HW3.out.trans (HF.out.mono HW3.out.size))
      clear hlt hk HB5 HS5 HF5
      go_wp2
      go_ret
      exact ⟨rfl, HWF.out⟩
end Go.Proofs.YtbgbidgggjkmmaaDoor
