/-
  StateTells.
-/
import Derived.Test.YtbgbidgggjkmmaaGreatDoorStPlace
import Derived.Lib.QuietBelow
import Derived.BigQuiet
namespace Go.Proofs.YtbgbidgggjkmmaaGreatDoor
open Go.RowKit Go.Sort

set_option maxRecDepth 100000 in
theorem sk_see9 {w : World} {B : Nat} {A : Option Addr} {xs : List ByteArray} (h : SK.See w B A xs) : Sees w B A (xs.map Value.string) := by
  have h' : Sees w B A (SK.flat xs) := h
  rwa [SK_flat] at h'
set_option maxRecDepth 100000 in
theorem same9_of (r t : RepM) (hrt : r.x = t.x) (hl : r.x.vals.length ≤ 1000) (w : World) (h1 : SK.See w w.heap.size r.A r.x.vals) (h2 : SK.See w w.heap.size t.A t.x.vals) : Calls Tryz.prog 13 #[.agg (repv r.x.client r.x.num r.x.code r.A r.x.vals.length r.z), .agg (repv t.x.client t.x.num t.x.code t.A t.x.vals.length t.z)] w fun e w' => e = .returned (.bool true) ∧ Below w.heap.size w w' := by
  have h3 := rsame_any9 r.x.client r.x.num r.x.code r.A r.x.vals r.z t.x.client t.x.num t.x.code t.A t.x.vals t.z (by unfold maxLen; omega) (by rw [← hrt]; unfold maxLen; omega) w (sk_see9 h1) (sk_see9 h2)
  rw [← hrt, same9_self] at h3
  rw [← hrt]
  exact h3

noncomputable def bdRp10 (parts : Array (Nat × Value)) : Sem Value := Instr.build 36 parts
set_option maxRecDepth 100000 in
theorem bdRp10_def (parts : Array (Nat × Value)) : Instr.build 36 parts = bdRp10 parts := rfl
set_option maxRecDepth 100000 in
theorem bd_rp10 (w : World) : (bdRp10 #[]).run Tryz.prog w = .ok (.agg (repv 0 0 0 none 0 0)) w := bd_rp00 w
attribute [local go_sem ↓] ldRp_def stRp_def ldSt_def stSt_def ldPr_def stPr_def ldCf_def stCf_def bdRp10_def

set_option maxRecDepth 100000 in
set_option maxHeartbeats 4000000 in
theorem tells_walk (s : StM) (key : ByteArray) (c : Int) (w : World) (hz : s.Sz) (hS : s.See w w.heap.size) :
    Calls Tryz.prog 3 #[.agg s.cells, .string key, .int .i64 c] w fun e w' => e = .returned (.bool true) ∧ Below w.heap.size w w' := by
  obtain ⟨w1, hw1⟩ : ∃ w1, w1 = w.alloc (.cells s.cells 28) := ⟨_, rfl⟩
  have HX : Hid (Box w1 w.heap.size 28 s.cells) := by rw [hw1]; exact Box.made w _ _
  have hF : Below w.heap.size w w1 := by rw [hw1]; exact (Below.refl _ _).alloc (Nat.le_refl _) _
  have HS := Lib.hid (hS.far hF)
  have HW := Lib.hid hF
  clear hS hF
  go_enter Tryz.func3, Tryz.ntmps3
  go_upto_region 1 with fail
  change Code.wp _ _ _ _ (w.alloc (.cells s.cells 28))
  rw [← hw1]
  clear hw1
  go_upto_region 3 with (go_at_call 5; (with_reducible refine (alive10_any _).mono ?_); rintro e w2 ⟨rfl, hb2⟩; replace HX := Lib.hid (HX.out.below hb2 HX.out.lt); replace HS := Lib.hid (HS.out.far hb2); replace HW := Lib.hid (HW.out.trans (hb2.mono HW.out.size)); clear hb2)
  have ls := HX.out.l_st
  have HG : Hid (Calls Tryz.prog 6 #[.agg s.cells, .slice none 0 0] w2 (GrtPost s [] w2)) := Lib.hid (grt_any s hz [] none 0 (Nat.zero_le _) (fun q hq => (by cases hq)) w2 HS.out (.inl rfl))
  clear hz
  by_cases hlong : 4096 < key.size
  · have i1 : (4096 : Int) < (key.size : Int) := by omega
    have i2 : decide ((4096 : Int) < (key.size : Int)) = true := decide_eq_true i1
    clear HX HS hlong
    go_wp2_with (go_at_call 6; (with_reducible refine (HG.out).mono ?_); rintro e w3 ⟨g, rfl, hg, hb3⟩; have HW3 := Lib.hid (HW.out.trans (hb3.mono HW.out.size)); clear hb3 hg; cases g)
    all_goals (go_ret; exact ⟨rfl, HW3.out⟩)
  have i1 : ¬ (4096 : Int) < (key.size : Int) := by omega
  clear hlong
  go_upto_region 5 with (go_at_call 6; (with_reducible refine (HG.out).mono ?_); rintro e w3 ⟨g, rfl, hg, hb3⟩; have HW3 := Lib.hid (HW.out.trans (hb3.mono HW.out.size)); cases g; (focus (have HSM := Lib.hid (hg rfl); have HX3 := Lib.hid (HX.out.below hb3 HX.out.lt); have HS3 := Lib.hid (HS.out.far hb3))); (all_goals clear hb3 hg))
  all_goals (try (go_ret; exact ⟨rfl, HW3.out⟩))
  clear HG HX HS HW ls i1
  have ls := HX3.out.l_st
  have HGE := Lib.hid (get_any s (by have := HSM.out.1.1; omega) HSM.out.2.1.ps key w3 HS3.out)
  go_upto_region 6 with (go_at_call 7; (with_reducible refine (HGE.out).mono ?_); rintro e w4 ⟨rfl, hb4⟩; have HX4 := Lib.hid (HX3.out.below hb4 HX3.out.lt); have HS4 := Lib.hid (HS3.out.far hb4); have HW4 := Lib.hid (HW3.out.trans (hb4.mono HW3.out.size)); clear hb4)
  clear HGE HX3 HS3 HW3 ls
  have ls := HX4.out.l_st
  have HLA := Lib.hid (last_any s (by have := HSM.out.1.2.1; omega) (fun r hr => by have := HSM.out.1.2.2.2.1 r hr; omega) c w4 HS4.out)
  go_upto_region 7 with (go_at_call 8; (with_reducible refine (HLA.out).mono ?_); rintro e w5 ⟨r, lb, rA, rz, rfl, hor, hlk, hro, hb5⟩; have HX5 := Lib.hid (HX4.out.below hb5 HX4.out.lt); have HS5 := Lib.hid (HS4.out.far hb5); have HW5 := Lib.hid (HW4.out.trans (hb5.mono HW4.out.size)); have HLK := Lib.hid (hlk HSM.out.2.1.rs); have HOR := Lib.hid hor; obtain ⟨w6, hst6, hb6, hbl6, _⟩ := laid_rp w5 (repv 0 0 0 none 0 0) rfl r.client r.num r.code rA r.vals.length rz; have HR := Lib.hid hb6; have HV := Lib.hid (EK.See.far hro.see hbl6); have HX6 := Lib.hid (HX5.out.below hbl6 HX5.out.lt); have HS6 := Lib.hid (HS5.out.far hbl6); have HW6 := Lib.hid (HW5.out.trans (hbl6.mono HW5.out.size)); clear hlk hor hro hb5 hb6 hbl6 HX5 HS5 HW5)
  clear hst6 HLA HX4 HS4 HW4 ls
  generalize w5.heap.size = b2 at *
  have Q0 : ∀ d os, (ldSt (.pointer (some ⟨w.heap.size, 0, none⟩))).run Tryz.prog (grow (redrawn w6 d) os) = .ok (.agg (stV s.pA s.ps.length s.pc s.rA s.rs.length s.rc s.ep s.mA s.ms.length s.mc)) (grow (redrawn w6 d) os) := fun d os => (HX6.out.below (below_regrown w6 d os) HX6.out.lt).l_st
  have HPL : Hid (∀ d os, Calls Tryz.prog 9 #[.agg s.cells, .string key] (grow (redrawn w6 d) os) fun e w'' => e = .returned (.int .i64 (placeF s.ps key)) ∧ ∃ p : Regrown, w'' = grow (redrawn w6 p.d) p.os) := Lib.hid (fun d os => Calls.regrown_of ((place10_any s (by have := HSM.out.1.1; omega) key (grow (redrawn w6 d) os) (HS6.out.far (below_regrown w6 d os))).mono fun e w' h => ⟨h.1, h.2.2⟩))
  have HLS : Hid (∀ d os, Calls Tryz.prog 10 #[.agg s.cells, .int .i64 c] (grow (redrawn w6 d) os) fun e w'' => e = .returned (.int .i64 (lastF s.rs c)) ∧ ∃ p : Regrown, w'' = grow (redrawn w6 p.d) p.os) := Lib.hid (fun d os => Calls.regrown_of ((last10_any s (by have := HSM.out.1.2.1; omega) c (grow (redrawn w6 d) os) (HS6.out.far (below_regrown w6 d os))).mono fun e w' h => ⟨h.1, h.2.2⟩))
  have HPI : Hid (PlaceIs s.ps key (placeF s.ps key)) := Lib.hid (placeF_is s.ps key)
  have HLI : Hid (LastIs s.rs c (lastF s.rs c)) := Lib.hid (lastF_is s.rs c)
  generalize placeF s.ps key = pn at *
  generalize lastF s.rs c = ln at *
  refine wp_region_quiet_below (by kernel_rfl) (by kernel_rfl) ?_
  repeat (go_big_quiet_step (first
    | (go_at_call 9; with_reducible exact HPL.out _ _)
    | (go_at_call 10; with_reducible exact HLS.out _ _)))
  refine wpQuiet_nil ?_
  intro _ hw'
  obtain ⟨⟨dq, osq⟩, hw''⟩ := hw'
  subst hw''
  have hb7 := below_regrown w6 dq osq
  have HX7 := Lib.hid (HX6.out.below hb7 HX6.out.lt)
  have HS7 := Lib.hid (HS6.out.far hb7)
  have HW7 := Lib.hid (HW6.out.trans (hb7.mono HW6.out.size))
  have HR7 := Lib.hid (HR.out.below hb7 HR.out.lt)
  have HV7 := Lib.hid (EK.See.far HV.out hb7)
  clear Q0 HPL HLS HX6 HS6 HW6 HR HV hb7
  generalize grow (redrawn w6 dq) osq = w7 at *
  rcases HPI.out with ⟨i, hi, rfl, hpl⟩ | ⟨rfl, hpl⟩
  · obtain ⟨hgv, hgb⟩ : getV key s.ps = (s.ps[i]'hi).val ∧ getB key s.ps = true := by
      unfold getV getB
      have h : pLook key s.ps = some (s.ps[i]'hi) := hpl
      rw [h]
      exact ⟨rfl, rfl⟩
    obtain ⟨g1, o1, hpA, _, hrp⟩ := EK.See.range HS7.out.ps hi
    have cp : w7.cell? ⟨w.heap.size, 0, none⟩ = some (.slice (some ⟨g1, o1, none⟩) s.ps.length s.pc) := by rw [← hpA]; exact HX7.out.cell 0
    have cv : w7.cell? ⟨g1, o1 + i * 2 + 1, none⟩ = some (.string (s.ps[i]'hi).val) := PairX.range_val (hrp i hi)
    have j0 : (0 : Int) ≤ (i : Int) := by omega
    have j1 : (i : Int) < (s.ps.length : Int) := by omega
    have j2 : decide ((0 : Int) ≤ (i : Int)) = true := decide_eq_true j0
    rw [hgv, hgb]
    clear hgv hgb hpl hrp hpA HPI
    generalize (s.ps[i]'hi).val = vv at *
    rcases HLI.out with ⟨k, hk, rfl, hll⟩ | ⟨rfl, hll⟩
    · obtain ⟨rfl, rfl⟩ : lb = true ∧ r = (s.rs[k]'hk).x := by
        have h : rLook c s.pl.rs = some (s.rs[k]'hk).x := hll
        have h2 := HLK.out
        rw [h] at h2
        cases lb with
        | false => cases h2
        | true => exact ⟨rfl, by injection h2 with h2; exact h2.symm⟩
      have i0 : (0 : Int) ≤ (k : Int) := by omega
      have i1 : (k : Int) < (s.rs.length : Int) := by omega
      have i2 : decide ((0 : Int) ≤ (k : Int)) = true := decide_eq_true i0
      have lc : (ldCf (.pointer (some ⟨w.heap.size, 2, none⟩))).run Tryz.prog w7 = .ok (.agg (cfgV s.ep s.mA s.ms.length s.mc)) w7 := range_cf (Box.range_mid (pre := [.slice s.pA s.ps.length s.pc, .slice s.rA s.rs.length s.rc]) (mid := (cfgV s.ep s.mA s.ms.length s.mc).toList) (post := []) HX7.out rfl)
      have HNW : Hid (Calls Tryz.prog 11 #[.agg (cfgV s.ep s.mA s.ms.length s.mc)] w7 fun e w' => ∃ A' c', e = .returned (.agg (stV none 0 0 none 0 0 s.ep A' s.ms.length c')) ∧ (newM s.ep s.ms A' c').Own w' w7.heap.size ∧ Below w7.heap.size w7 w') := Lib.hid (snew_any s.ep s.ms s.mA s.mc (by have := HSM.out.1.2.2.1; omega) w7 HS7.out.ms)
      clear HLK HOR hll
      go_upto_region 11 with (go_at_call 11; (with_reducible refine (HNW.out).mono ?_); rintro e w8 ⟨nA, nc, rfl, hno, hb8⟩; obtain ⟨w9, hst9, hb9, hbl9, _⟩ := laid_st w8 (stV none 0 0 none 0 0 0 none 0 0) rfl none 0 0 none 0 0 s.ep nA s.ms.length nc; have hb10 := hb8.trans (hbl9.mono hb8.size); have HN := Lib.hid hb9; have HM9 := Lib.hid (EK.See.far hno.see.ms hbl9); have HX9 := Lib.hid (HX7.out.below hb10 HX7.out.lt); have HS9 := Lib.hid (HS7.out.far hb10); have HW9 := Lib.hid (HW7.out.trans (hb10.mono HW7.out.size)); have HR9 := Lib.hid (HR7.out.below hb10 HR7.out.lt); have HV9 := Lib.hid (EK.See.far HV7.out hb10); clear hno hb8 hb9 hbl9 hb10)
      clear hst9 HNW HX7 HS7 HW7 HR7 HV7 lc cp cv
      generalize w8.heap.size = b3 at *
      have n0 : w9.cell? ⟨b3, 0, none⟩ = some (.slice none 0 0) := HN.out.cell 0
      have n1 : w9.cell? ⟨b3, 1, none⟩ = some (.slice none 0 0) := HN.out.cell 1
      have n2 : (ldCf (.pointer (some ⟨b3, 2, none⟩))).run Tryz.prog w9 = .ok (.agg (cfgV s.ep nA s.ms.length nc)) w9 := range_cf (Box.range_mid (pre := [.slice none 0 0, .slice none 0 0]) (mid := (cfgV s.ep nA s.ms.length nc).toList) (post := []) HN.out rfl)
      have n3 : (ldCf (.pointer (some ⟨w.heap.size, 2, none⟩))).run Tryz.prog w9 = .ok (.agg (cfgV s.ep s.mA s.ms.length s.mc)) w9 := range_cf (Box.range_mid (pre := [.slice s.pA s.ps.length s.pc, .slice s.rA s.rs.length s.rc]) (mid := (cfgV s.ep s.mA s.ms.length s.mc).toList) (post := []) HX9.out rfl)
      have hsm := same_any8 s.ep s.ms nA nc s.ep s.ms s.mA s.mc (by have := HSM.out.1.2.2.1; unfold maxLen; omega) (by have := HSM.out.1.2.2.1; unfold maxLen; omega) w9 HM9.out HS9.out.ms
      have hsb : sameB s.ep s.ms s.ep s.ms = true := by unfold sameB; simp
      rw [hsb] at hsm
      have HCM := Lib.hid hsm
      clear hsm hsb
      go_upto_region 13 with (go_at_call 12; (with_reducible refine (HCM.out).mono ?_); rintro e w11 ⟨rfl, hb11⟩; have HX11 := Lib.hid (HX9.out.below hb11 HX9.out.lt); have HS11 := Lib.hid (HS9.out.far hb11); have HW11 := Lib.hid (HW9.out.trans (hb11.mono HW9.out.size)); have HR11 := Lib.hid (HR9.out.below hb11 HR9.out.lt); have HV11 := Lib.hid (EK.See.far HV9.out hb11); clear hb11)
      clear HCM HN HM9 HX9 HS9 HW9 HR9 HV9 n0 n1 n2 n3
      obtain ⟨g2, o2, hrA, _, hrr⟩ := EK.See.range HS11.out.rs hk
      have q0 : ∀ d os, (grow (redrawn w11 d) os).cell? ⟨w.heap.size, 1, none⟩ = some (.slice (some ⟨g2, o2, none⟩) s.rs.length s.rc) := fun d os => cell_regrown (by rw [← hrA]; exact HX11.out.cell 1) d os
      have q1 : ∀ d os, (ldRp (.pointer (some ⟨b2, 0, none⟩))).run Tryz.prog (grow (redrawn w11 d) os) = .ok (.agg (repv (s.rs[k]'hk).x.client (s.rs[k]'hk).x.num (s.rs[k]'hk).x.code rA (s.rs[k]'hk).x.vals.length rz)) (grow (redrawn w11 d) os) := fun d os => (HR11.out.below (below_regrown w11 d os) HR11.out.lt).l_rp
      have q2 : ∀ d os, (ldRp (.pointer (some ⟨g2, o2 + k * 4, none⟩))).run Tryz.prog (grow (redrawn w11 d) os) = .ok (.agg (repv (s.rs[k]'hk).x.client (s.rs[k]'hk).x.num (s.rs[k]'hk).x.code (s.rs[k]'hk).A (s.rs[k]'hk).x.vals.length (s.rs[k]'hk).z)) (grow (redrawn w11 d) os) := fun d os => range_rp (fun j v hj => cell_regrown (hrr k hk j v hj) d os)
      have HSR : Hid (∀ d os, Calls Tryz.prog 13 #[.agg (repv (s.rs[k]'hk).x.client (s.rs[k]'hk).x.num (s.rs[k]'hk).x.code rA (s.rs[k]'hk).x.vals.length rz), .agg (repv (s.rs[k]'hk).x.client (s.rs[k]'hk).x.num (s.rs[k]'hk).x.code (s.rs[k]'hk).A (s.rs[k]'hk).x.vals.length (s.rs[k]'hk).z)] (grow (redrawn w11 d) os) fun e w'' => e = .returned (.bool true) ∧ ∃ p : Regrown, w'' = grow (redrawn w11 p.d) p.os) := Lib.hid (fun d os => Calls.regrown_of (same9_of ⟨(s.rs[k]'hk).x, rA, rz⟩ (s.rs[k]'hk) rfl (by have := HSM.out.1.2.2.2.1 _ (List.getElem_mem hk); show (s.rs[k]'hk).x.vals.length ≤ _; omega) (grow (redrawn w11 d) os) (EK.See.far HV11.out (below_regrown w11 d os)) (EK.See.far (HS11.out.vals _ (List.getElem_mem hk)) (below_regrown w11 d os))))
      clear hrr hrA
      generalize (s.rs[k]'hk).x = rx at *
      generalize (s.rs[k]'hk).A = rxA at *
      generalize (s.rs[k]'hk).z = rxz at *
      refine wp_region_quiet_below (by kernel_rfl) (by kernel_rfl) ?_
      repeat (go_big_quiet_step ((go_at_call 13; with_reducible exact HSR.out _ _)))
      refine wpQuiet_nil ?_
      intro _ hw'
      obtain ⟨⟨dq, osq⟩, hw''⟩ := hw'
      subst hw''
      have HWF := Lib.hid (HW11.out.trans ((below_regrown w11 dq osq).mono HW11.out.size))
      clear q0 q1 q2 HSR HW11
      generalize grow (redrawn w11 dq) osq = w12 at *
      go_wp2
      go_ret
      exact ⟨rfl, HWF.out⟩

    · obtain ⟨rfl, rfl⟩ : lb = false ∧ r = ⟨0, 0, 0, []⟩ := by
        have h : rLook c s.pl.rs = none := hll
        have h2 := HLK.out
        rw [h] at h2
        cases lb with
        | false =>
          rcases HOR.out with h3 | h3
          · cases h3.1
          · exact ⟨rfl, h3.2⟩
        | true => cases h2
      have lc : (ldCf (.pointer (some ⟨w.heap.size, 2, none⟩))).run Tryz.prog w7 = .ok (.agg (cfgV s.ep s.mA s.ms.length s.mc)) w7 := range_cf (Box.range_mid (pre := [.slice s.pA s.ps.length s.pc, .slice s.rA s.rs.length s.rc]) (mid := (cfgV s.ep s.mA s.ms.length s.mc).toList) (post := []) HX7.out rfl)
      have HNW : Hid (Calls Tryz.prog 11 #[.agg (cfgV s.ep s.mA s.ms.length s.mc)] w7 fun e w' => ∃ A' c', e = .returned (.agg (stV none 0 0 none 0 0 s.ep A' s.ms.length c')) ∧ (newM s.ep s.ms A' c').Own w' w7.heap.size ∧ Below w7.heap.size w7 w') := Lib.hid (snew_any s.ep s.ms s.mA s.mc (by have := HSM.out.1.2.2.1; omega) w7 HS7.out.ms)
      clear HLK HOR hll
      go_upto_region 11 with (go_at_call 11; (with_reducible refine (HNW.out).mono ?_); rintro e w8 ⟨nA, nc, rfl, hno, hb8⟩; obtain ⟨w9, hst9, hb9, hbl9, _⟩ := laid_st w8 (stV none 0 0 none 0 0 0 none 0 0) rfl none 0 0 none 0 0 s.ep nA s.ms.length nc; have hb10 := hb8.trans (hbl9.mono hb8.size); have HN := Lib.hid hb9; have HM9 := Lib.hid (EK.See.far hno.see.ms hbl9); have HX9 := Lib.hid (HX7.out.below hb10 HX7.out.lt); have HS9 := Lib.hid (HS7.out.far hb10); have HW9 := Lib.hid (HW7.out.trans (hb10.mono HW7.out.size)); have HR9 := Lib.hid (HR7.out.below hb10 HR7.out.lt); have HV9 := Lib.hid (EK.See.far HV7.out hb10); clear hno hb8 hb9 hbl9 hb10)
      clear hst9 HNW HX7 HS7 HW7 HR7 HV7 lc cp cv
      generalize w8.heap.size = b3 at *
      have n0 : w9.cell? ⟨b3, 0, none⟩ = some (.slice none 0 0) := HN.out.cell 0
      have n1 : w9.cell? ⟨b3, 1, none⟩ = some (.slice none 0 0) := HN.out.cell 1
      have n2 : (ldCf (.pointer (some ⟨b3, 2, none⟩))).run Tryz.prog w9 = .ok (.agg (cfgV s.ep nA s.ms.length nc)) w9 := range_cf (Box.range_mid (pre := [.slice none 0 0, .slice none 0 0]) (mid := (cfgV s.ep nA s.ms.length nc).toList) (post := []) HN.out rfl)
      have n3 : (ldCf (.pointer (some ⟨w.heap.size, 2, none⟩))).run Tryz.prog w9 = .ok (.agg (cfgV s.ep s.mA s.ms.length s.mc)) w9 := range_cf (Box.range_mid (pre := [.slice s.pA s.ps.length s.pc, .slice s.rA s.rs.length s.rc]) (mid := (cfgV s.ep s.mA s.ms.length s.mc).toList) (post := []) HX9.out rfl)
      have hsm := same_any8 s.ep s.ms nA nc s.ep s.ms s.mA s.mc (by have := HSM.out.1.2.2.1; unfold maxLen; omega) (by have := HSM.out.1.2.2.1; unfold maxLen; omega) w9 HM9.out HS9.out.ms
      have hsb : sameB s.ep s.ms s.ep s.ms = true := by unfold sameB; simp
      rw [hsb] at hsm
      have HCM := Lib.hid hsm
      clear hsm hsb
      go_upto_region 13 with (go_at_call 12; (with_reducible refine (HCM.out).mono ?_); rintro e w11 ⟨rfl, hb11⟩; have HX11 := Lib.hid (HX9.out.below hb11 HX9.out.lt); have HS11 := Lib.hid (HS9.out.far hb11); have HW11 := Lib.hid (HW9.out.trans (hb11.mono HW9.out.size)); have HR11 := Lib.hid (HR9.out.below hb11 HR9.out.lt); have HV11 := Lib.hid (EK.See.far HV9.out hb11); clear hb11)
      clear HCM HN HM9 HX9 HS9 HW9 HR9 HV9 n0 n1 n2 n3
      have q0 : ∀ d os, (bdRp10 #[]).run Tryz.prog (grow (redrawn w11 d) os) = .ok (.agg (repv 0 0 0 none 0 0)) (grow (redrawn w11 d) os) := fun d os => bd_rp10 _
      have q1 : ∀ d os, (ldRp (.pointer (some ⟨b2, 0, none⟩))).run Tryz.prog (grow (redrawn w11 d) os) = .ok (.agg (repv 0 0 0 rA 0 rz)) (grow (redrawn w11 d) os) := fun d os => (HR11.out.below (below_regrown w11 d os) HR11.out.lt).l_rp
      have HSR : Hid (∀ d os, Calls Tryz.prog 13 #[.agg (repv 0 0 0 rA 0 rz), .agg (repv 0 0 0 none 0 0)] (grow (redrawn w11 d) os) fun e w'' => e = .returned (.bool true) ∧ ∃ p : Regrown, w'' = grow (redrawn w11 p.d) p.os) := Lib.hid (fun d os => Calls.regrown_of (same9_of ⟨⟨0, 0, 0, []⟩, rA, rz⟩ ⟨⟨0, 0, 0, []⟩, none, 0⟩ rfl (by simp) (grow (redrawn w11 d) os) (EK.See.far HV11.out (below_regrown w11 d os)) (.inl rfl)))
      refine wp_region_quiet_below (by kernel_rfl) (by kernel_rfl) ?_
      repeat (go_big_quiet_step ((go_at_call 13; with_reducible exact HSR.out _ _)))
      refine wpQuiet_nil ?_
      intro _ hw'
      obtain ⟨⟨dq, osq⟩, hw''⟩ := hw'
      subst hw''
      have HWF := Lib.hid (HW11.out.trans ((below_regrown w11 dq osq).mono HW11.out.size))
      clear q0 q1 HSR HW11
      generalize grow (redrawn w11 dq) osq = w12 at *
      go_wp2
      go_ret
      exact ⟨rfl, HWF.out⟩

  · obtain ⟨hgv, hgb⟩ : getV key s.ps = ⟨#[]⟩ ∧ getB key s.ps = false := by
      unfold getV getB
      have h : pLook key s.ps = none := hpl
      rw [h]
      exact ⟨rfl, rfl⟩
    rw [hgv, hgb]
    clear hgv hgb hpl HPI
    rcases HLI.out with ⟨k, hk, rfl, hll⟩ | ⟨rfl, hll⟩
    · obtain ⟨rfl, rfl⟩ : lb = true ∧ r = (s.rs[k]'hk).x := by
        have h : rLook c s.pl.rs = some (s.rs[k]'hk).x := hll
        have h2 := HLK.out
        rw [h] at h2
        cases lb with
        | false => cases h2
        | true => exact ⟨rfl, by injection h2 with h2; exact h2.symm⟩
      have i0 : (0 : Int) ≤ (k : Int) := by omega
      have i1 : (k : Int) < (s.rs.length : Int) := by omega
      have i2 : decide ((0 : Int) ≤ (k : Int)) = true := decide_eq_true i0
      have lc : (ldCf (.pointer (some ⟨w.heap.size, 2, none⟩))).run Tryz.prog w7 = .ok (.agg (cfgV s.ep s.mA s.ms.length s.mc)) w7 := range_cf (Box.range_mid (pre := [.slice s.pA s.ps.length s.pc, .slice s.rA s.rs.length s.rc]) (mid := (cfgV s.ep s.mA s.ms.length s.mc).toList) (post := []) HX7.out rfl)
      have HNW : Hid (Calls Tryz.prog 11 #[.agg (cfgV s.ep s.mA s.ms.length s.mc)] w7 fun e w' => ∃ A' c', e = .returned (.agg (stV none 0 0 none 0 0 s.ep A' s.ms.length c')) ∧ (newM s.ep s.ms A' c').Own w' w7.heap.size ∧ Below w7.heap.size w7 w') := Lib.hid (snew_any s.ep s.ms s.mA s.mc (by have := HSM.out.1.2.2.1; omega) w7 HS7.out.ms)
      clear HLK HOR hll
      go_upto_region 11 with (go_at_call 11; (with_reducible refine (HNW.out).mono ?_); rintro e w8 ⟨nA, nc, rfl, hno, hb8⟩; obtain ⟨w9, hst9, hb9, hbl9, _⟩ := laid_st w8 (stV none 0 0 none 0 0 0 none 0 0) rfl none 0 0 none 0 0 s.ep nA s.ms.length nc; have hb10 := hb8.trans (hbl9.mono hb8.size); have HN := Lib.hid hb9; have HM9 := Lib.hid (EK.See.far hno.see.ms hbl9); have HX9 := Lib.hid (HX7.out.below hb10 HX7.out.lt); have HS9 := Lib.hid (HS7.out.far hb10); have HW9 := Lib.hid (HW7.out.trans (hb10.mono HW7.out.size)); have HR9 := Lib.hid (HR7.out.below hb10 HR7.out.lt); have HV9 := Lib.hid (EK.See.far HV7.out hb10); clear hno hb8 hb9 hbl9 hb10)
      clear hst9 HNW HX7 HS7 HW7 HR7 HV7 lc
      generalize w8.heap.size = b3 at *
      have n0 : w9.cell? ⟨b3, 0, none⟩ = some (.slice none 0 0) := HN.out.cell 0
      have n1 : w9.cell? ⟨b3, 1, none⟩ = some (.slice none 0 0) := HN.out.cell 1
      have n2 : (ldCf (.pointer (some ⟨b3, 2, none⟩))).run Tryz.prog w9 = .ok (.agg (cfgV s.ep nA s.ms.length nc)) w9 := range_cf (Box.range_mid (pre := [.slice none 0 0, .slice none 0 0]) (mid := (cfgV s.ep nA s.ms.length nc).toList) (post := []) HN.out rfl)
      have n3 : (ldCf (.pointer (some ⟨w.heap.size, 2, none⟩))).run Tryz.prog w9 = .ok (.agg (cfgV s.ep s.mA s.ms.length s.mc)) w9 := range_cf (Box.range_mid (pre := [.slice s.pA s.ps.length s.pc, .slice s.rA s.rs.length s.rc]) (mid := (cfgV s.ep s.mA s.ms.length s.mc).toList) (post := []) HX9.out rfl)
      have hsm := same_any8 s.ep s.ms nA nc s.ep s.ms s.mA s.mc (by have := HSM.out.1.2.2.1; unfold maxLen; omega) (by have := HSM.out.1.2.2.1; unfold maxLen; omega) w9 HM9.out HS9.out.ms
      have hsb : sameB s.ep s.ms s.ep s.ms = true := by unfold sameB; simp
      rw [hsb] at hsm
      have HCM := Lib.hid hsm
      clear hsm hsb
      go_upto_region 13 with (go_at_call 12; (with_reducible refine (HCM.out).mono ?_); rintro e w11 ⟨rfl, hb11⟩; have HX11 := Lib.hid (HX9.out.below hb11 HX9.out.lt); have HS11 := Lib.hid (HS9.out.far hb11); have HW11 := Lib.hid (HW9.out.trans (hb11.mono HW9.out.size)); have HR11 := Lib.hid (HR9.out.below hb11 HR9.out.lt); have HV11 := Lib.hid (EK.See.far HV9.out hb11); clear hb11)
      clear HCM HN HM9 HX9 HS9 HW9 HR9 HV9 n0 n1 n2 n3
      obtain ⟨g2, o2, hrA, _, hrr⟩ := EK.See.range HS11.out.rs hk
      have q0 : ∀ d os, (grow (redrawn w11 d) os).cell? ⟨w.heap.size, 1, none⟩ = some (.slice (some ⟨g2, o2, none⟩) s.rs.length s.rc) := fun d os => cell_regrown (by rw [← hrA]; exact HX11.out.cell 1) d os
      have q1 : ∀ d os, (ldRp (.pointer (some ⟨b2, 0, none⟩))).run Tryz.prog (grow (redrawn w11 d) os) = .ok (.agg (repv (s.rs[k]'hk).x.client (s.rs[k]'hk).x.num (s.rs[k]'hk).x.code rA (s.rs[k]'hk).x.vals.length rz)) (grow (redrawn w11 d) os) := fun d os => (HR11.out.below (below_regrown w11 d os) HR11.out.lt).l_rp
      have q2 : ∀ d os, (ldRp (.pointer (some ⟨g2, o2 + k * 4, none⟩))).run Tryz.prog (grow (redrawn w11 d) os) = .ok (.agg (repv (s.rs[k]'hk).x.client (s.rs[k]'hk).x.num (s.rs[k]'hk).x.code (s.rs[k]'hk).A (s.rs[k]'hk).x.vals.length (s.rs[k]'hk).z)) (grow (redrawn w11 d) os) := fun d os => range_rp (fun j v hj => cell_regrown (hrr k hk j v hj) d os)
      have HSR : Hid (∀ d os, Calls Tryz.prog 13 #[.agg (repv (s.rs[k]'hk).x.client (s.rs[k]'hk).x.num (s.rs[k]'hk).x.code rA (s.rs[k]'hk).x.vals.length rz), .agg (repv (s.rs[k]'hk).x.client (s.rs[k]'hk).x.num (s.rs[k]'hk).x.code (s.rs[k]'hk).A (s.rs[k]'hk).x.vals.length (s.rs[k]'hk).z)] (grow (redrawn w11 d) os) fun e w'' => e = .returned (.bool true) ∧ ∃ p : Regrown, w'' = grow (redrawn w11 p.d) p.os) := Lib.hid (fun d os => Calls.regrown_of (same9_of ⟨(s.rs[k]'hk).x, rA, rz⟩ (s.rs[k]'hk) rfl (by have := HSM.out.1.2.2.2.1 _ (List.getElem_mem hk); show (s.rs[k]'hk).x.vals.length ≤ _; omega) (grow (redrawn w11 d) os) (EK.See.far HV11.out (below_regrown w11 d os)) (EK.See.far (HS11.out.vals _ (List.getElem_mem hk)) (below_regrown w11 d os))))
      clear hrr hrA
      generalize (s.rs[k]'hk).x = rx at *
      generalize (s.rs[k]'hk).A = rxA at *
      generalize (s.rs[k]'hk).z = rxz at *
      refine wp_region_quiet_below (by kernel_rfl) (by kernel_rfl) ?_
      repeat (go_big_quiet_step ((go_at_call 13; with_reducible exact HSR.out _ _)))
      refine wpQuiet_nil ?_
      intro _ hw'
      obtain ⟨⟨dq, osq⟩, hw''⟩ := hw'
      subst hw''
      have HWF := Lib.hid (HW11.out.trans ((below_regrown w11 dq osq).mono HW11.out.size))
      clear q0 q1 q2 HSR HW11
      generalize grow (redrawn w11 dq) osq = w12 at *
      go_wp2
      go_ret
      exact ⟨rfl, HWF.out⟩

    · obtain ⟨rfl, rfl⟩ : lb = false ∧ r = ⟨0, 0, 0, []⟩ := by
        have h : rLook c s.pl.rs = none := hll
        have h2 := HLK.out
        rw [h] at h2
        cases lb with
        | false =>
          rcases HOR.out with h3 | h3
          · cases h3.1
          · exact ⟨rfl, h3.2⟩
        | true => cases h2
      have lc : (ldCf (.pointer (some ⟨w.heap.size, 2, none⟩))).run Tryz.prog w7 = .ok (.agg (cfgV s.ep s.mA s.ms.length s.mc)) w7 := range_cf (Box.range_mid (pre := [.slice s.pA s.ps.length s.pc, .slice s.rA s.rs.length s.rc]) (mid := (cfgV s.ep s.mA s.ms.length s.mc).toList) (post := []) HX7.out rfl)
      have HNW : Hid (Calls Tryz.prog 11 #[.agg (cfgV s.ep s.mA s.ms.length s.mc)] w7 fun e w' => ∃ A' c', e = .returned (.agg (stV none 0 0 none 0 0 s.ep A' s.ms.length c')) ∧ (newM s.ep s.ms A' c').Own w' w7.heap.size ∧ Below w7.heap.size w7 w') := Lib.hid (snew_any s.ep s.ms s.mA s.mc (by have := HSM.out.1.2.2.1; omega) w7 HS7.out.ms)
      clear HLK HOR hll
      go_upto_region 11 with (go_at_call 11; (with_reducible refine (HNW.out).mono ?_); rintro e w8 ⟨nA, nc, rfl, hno, hb8⟩; obtain ⟨w9, hst9, hb9, hbl9, _⟩ := laid_st w8 (stV none 0 0 none 0 0 0 none 0 0) rfl none 0 0 none 0 0 s.ep nA s.ms.length nc; have hb10 := hb8.trans (hbl9.mono hb8.size); have HN := Lib.hid hb9; have HM9 := Lib.hid (EK.See.far hno.see.ms hbl9); have HX9 := Lib.hid (HX7.out.below hb10 HX7.out.lt); have HS9 := Lib.hid (HS7.out.far hb10); have HW9 := Lib.hid (HW7.out.trans (hb10.mono HW7.out.size)); have HR9 := Lib.hid (HR7.out.below hb10 HR7.out.lt); have HV9 := Lib.hid (EK.See.far HV7.out hb10); clear hno hb8 hb9 hbl9 hb10)
      clear hst9 HNW HX7 HS7 HW7 HR7 HV7 lc
      generalize w8.heap.size = b3 at *
      have n0 : w9.cell? ⟨b3, 0, none⟩ = some (.slice none 0 0) := HN.out.cell 0
      have n1 : w9.cell? ⟨b3, 1, none⟩ = some (.slice none 0 0) := HN.out.cell 1
      have n2 : (ldCf (.pointer (some ⟨b3, 2, none⟩))).run Tryz.prog w9 = .ok (.agg (cfgV s.ep nA s.ms.length nc)) w9 := range_cf (Box.range_mid (pre := [.slice none 0 0, .slice none 0 0]) (mid := (cfgV s.ep nA s.ms.length nc).toList) (post := []) HN.out rfl)
      have n3 : (ldCf (.pointer (some ⟨w.heap.size, 2, none⟩))).run Tryz.prog w9 = .ok (.agg (cfgV s.ep s.mA s.ms.length s.mc)) w9 := range_cf (Box.range_mid (pre := [.slice s.pA s.ps.length s.pc, .slice s.rA s.rs.length s.rc]) (mid := (cfgV s.ep s.mA s.ms.length s.mc).toList) (post := []) HX9.out rfl)
      have hsm := same_any8 s.ep s.ms nA nc s.ep s.ms s.mA s.mc (by have := HSM.out.1.2.2.1; unfold maxLen; omega) (by have := HSM.out.1.2.2.1; unfold maxLen; omega) w9 HM9.out HS9.out.ms
      have hsb : sameB s.ep s.ms s.ep s.ms = true := by unfold sameB; simp
      rw [hsb] at hsm
      have HCM := Lib.hid hsm
      clear hsm hsb
      go_upto_region 13 with (go_at_call 12; (with_reducible refine (HCM.out).mono ?_); rintro e w11 ⟨rfl, hb11⟩; have HX11 := Lib.hid (HX9.out.below hb11 HX9.out.lt); have HS11 := Lib.hid (HS9.out.far hb11); have HW11 := Lib.hid (HW9.out.trans (hb11.mono HW9.out.size)); have HR11 := Lib.hid (HR9.out.below hb11 HR9.out.lt); have HV11 := Lib.hid (EK.See.far HV9.out hb11); clear hb11)
      clear HCM HN HM9 HX9 HS9 HW9 HR9 HV9 n0 n1 n2 n3
      have q0 : ∀ d os, (bdRp10 #[]).run Tryz.prog (grow (redrawn w11 d) os) = .ok (.agg (repv 0 0 0 none 0 0)) (grow (redrawn w11 d) os) := fun d os => bd_rp10 _
      have q1 : ∀ d os, (ldRp (.pointer (some ⟨b2, 0, none⟩))).run Tryz.prog (grow (redrawn w11 d) os) = .ok (.agg (repv 0 0 0 rA 0 rz)) (grow (redrawn w11 d) os) := fun d os => (HR11.out.below (below_regrown w11 d os) HR11.out.lt).l_rp
      have HSR : Hid (∀ d os, Calls Tryz.prog 13 #[.agg (repv 0 0 0 rA 0 rz), .agg (repv 0 0 0 none 0 0)] (grow (redrawn w11 d) os) fun e w'' => e = .returned (.bool true) ∧ ∃ p : Regrown, w'' = grow (redrawn w11 p.d) p.os) := Lib.hid (fun d os => Calls.regrown_of (same9_of ⟨⟨0, 0, 0, []⟩, rA, rz⟩ ⟨⟨0, 0, 0, []⟩, none, 0⟩ rfl (by simp) (grow (redrawn w11 d) os) (EK.See.far HV11.out (below_regrown w11 d os)) (.inl rfl)))
      refine wp_region_quiet_below (by kernel_rfl) (by kernel_rfl) ?_
      repeat (go_big_quiet_step ((go_at_call 13; with_reducible exact HSR.out _ _)))
      refine wpQuiet_nil ?_
      intro _ hw'
      obtain ⟨⟨dq, osq⟩, hw''⟩ := hw'
      subst hw''
      have HWF := Lib.hid (HW11.out.trans ((below_regrown w11 dq osq).mono HW11.out.size))
      clear q0 q1 HSR HW11
      generalize grow (redrawn w11 dq) osq = w12 at *
      go_wp2
      go_ret
      exact ⟨rfl, HWF.out⟩
end Go.Proofs.YtbgbidgggjkmmaaGreatDoor
