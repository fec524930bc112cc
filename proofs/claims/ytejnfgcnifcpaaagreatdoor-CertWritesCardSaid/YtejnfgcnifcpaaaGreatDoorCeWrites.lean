/-
  CertWrites: the walk.
-/
import Derived.Test.YtejnfgcnifcpaaaGreatDoorED
import Derived.Test.YtejnfgcnifcpaaaGreatDoorEH
import Derived.Test.YtejnfgcnifcpaaaGreatDoorEB
import Derived.Test.YtejnfgcnifcpaaaGreatDoorEI
namespace Go.Proofs.YtejnfgcnifcpaaaGreatDoor
open Go.RowKit Go.Maps Go.Sort

set_option maxRecDepth 100000 in
theorem flat_len14 {xs : List VtX} (hl : xs.length ≤ 12) (hf : ∀ x ∈ xs, VFew x) (hd : ∀ x ∈ xs, AllD x.opn ∧ AllD x.sht ∧ AllD x.pth) (k : Nat) : ((xs.take k).flatMap voteB).length ≤ 4000000000 := by
  have h := crtB_len (r := 0) (xs := xs.take k) (by rw [List.length_take]; omega) (fun x hx => hf x (List.mem_of_mem_take hx)) (fun x hx => hd x (List.mem_of_mem_take hx))
  unfold crtB at h
  simp only [List.length_append] at h
  omega
set_option maxRecDepth 100000 in
theorem cwrite14 (base a : Nat) (r : Int) (vs : List VtM) (A : Option Addr) (c : Nat) (hl : vs.length ≤ 1000) (hlen : ∀ k, (((vs.map VtM.x).take k).flatMap voteB).length ≤ 4000000000) (w : World) (h : Wr w base a []) (hV : VtK.See w base A vs) (hS : ∀ m ∈ vs, VAt w base m) :
    Calls Tryz.prog 9 #[.pointer (some ⟨a, 0, none⟩), .agg (crtV r A vs.length c)] w fun e w' => e = .returned (.bool (allFit vs)) ∧ Wr w' base a (crtS r vs) ∧ WF a w w' := by
  cases hf : allFit vs with
  | true =>
    rw [crtS_yes hf]
    exact cwrite_any14 base a r vs A c hl hf hlen w h hV hS
  | false =>
    rw [crtS_no hf]
    exact (cwrite_no14 r vs A c (by omega) hf _ w (Sees.more hV h.2.1)).mono fun e w' ⟨he, hb⟩ => ⟨he, h.below_size hb, WF.of_below hb h.lt⟩
set_option maxRecDepth 100000 in
theorem map_few14 {us : List VtM} {X : List VtX} (h : us.map VtM.x = X) (hf : ∀ x ∈ X, VFew x) : ∀ m ∈ us, VFew m.x := fun m hm => hf _ (by rw [← h]; exact List.mem_map.2 ⟨m, hm, rfl⟩)

attribute [local go_sem ↓] ldVt_def ldCf_def ldBlk_def ldCt_def stCt_def
set_option maxRecDepth 100000 in
set_option maxHeartbeats 16000000 in
theorem writes_walk14 (ms : List MemX) (ep : Int) (AM : Option Addr) (cM : Nat) (b : BlkM) (hbn : b.x.reqs.length ≤ 140737488351232) (hbq : ∀ q ∈ b.x.reqs, q.key.size ≤ 140737488351232 ∧ q.val.size ≤ 140737488351232 ∧ q.old.size ≤ 140737488351232) (r : Int) (hr : R64 r) (vs : List VtM) (A : Option Addr) (c : Nat) (hvN : ∀ m ∈ vs, VtNum m.x ∧ R64 m.x.leaf) (l : List UInt8) (AL : Option Addr) (cl : Nat) (w : World) (hM : Mems w w.heap.size AM ms) (hB : QSee w w.heap.size b.A b.x.reqs) (hV : VtK.See w w.heap.size A vs) (hS : ∀ m ∈ vs, SgSee w m.sg) (hL : Sees w w.heap.size AL (l.map bv)) (hR : Roots w) :
    Calls Tryz.prog 4 #[.agg (cfgV ep AM ms.length cM), .agg b.cells.toArray, .agg (crtV r A vs.length c), .slice AL l.length cl] w fun e w' => e = .returned (.bool true) ∧ Below w.heap.size w w' := by
  obtain ⟨w1, hw1⟩ : ∃ w1, w1 = ((w.alloc (.cells (cfgV ep AM ms.length cM) 24)).alloc (.cells b.cells.toArray 29)).alloc (.cells (crtV r A vs.length c) 32) := ⟨_, rfl⟩
  have hX : Box w1 w.heap.size 24 (cfgV ep AM ms.length cM) := by rw [hw1]; exact ((Box.made w _ _).alloc _).alloc _
  have hY : Box w1 (w.heap.size + 1) 29 b.cells.toArray := by rw [hw1]; exact (Box.made_at (by simp) _ _).alloc _
  have hZ : Box w1 (w.heap.size + 1 + 1) 32 (crtV r A vs.length c) := by rw [hw1]; exact Box.made_at (by simp) _ _
  have HF : Hid (Below w.heap.size w w1) := by rw [hw1]; exact (((Below.refl _ _).alloc (Nat.le_refl _) _).alloc (by simp) _).alloc (by simp; omega) _
  have HC : Hid (∀ w', Below w1.heap.size w1 w' → (ldCf (.pointer (some ⟨w.heap.size, 0, none⟩))).run Tryz.prog w' = .ok (.agg (cfgV ep AM ms.length cM)) w' ∧ (ldBlk (.pointer (some ⟨w.heap.size + 1, 0, none⟩))).run Tryz.prog w' = .ok (.agg b.cells.toArray) w' ∧ (ldCt (.pointer (some ⟨w.heap.size + 1 + 1, 0, none⟩))).run Tryz.prog w' = .ok (.agg (crtV r A vs.length c)) w' ∧ w'.cell? ⟨w.heap.size + 1 + 1, 1, none⟩ = some (.slice A vs.length c)) := Lib.hid (fun w' hb => by
    have hx := hX.below hb hX.lt
    have hy := hY.below hb hY.lt
    have hz := hZ.below hb hZ.lt
    exact ⟨hx.l_cf, hy.ld_blk, hz.l_ct, hz.cell 1⟩)
  have HAL := Lib.hid (alive_any14 w1 (hR.of_below HF.out))
  have HGR : Hid (∀ w', Below w1.heap.size w1 w' → Calls Tryz.prog 6 #[.agg (cfgV ep AM ms.length cM), .agg b.cells.toArray, .agg (crtV r A vs.length c)] w' (GreatC ms b.x vs w')) := Lib.hid (fun w' hb => cgreat_any ms ep AM cM b hbn hbq r vs A c w' ((hB.far HF.out).far hb) (EK.See.far (EK.See.far hV HF.out) hb))
  have HCK : Hid (CSmall ms b.x vs → ∀ w', Below w1.heap.size w1 w' → Calls Tryz.prog 7 #[.agg (cfgV ep AM ms.length cM), .agg b.cells.toArray, .agg (crtV r A vs.length c)] w' fun e w'' => e = .returned (.bool (certB ep ms b.x r (vs.map VtM.x))) ∧ Below w'.heap.size w' w'') := Lib.hid (fun hc w' hb =>
    ccheck_any ms ep AM cM (Nat.le_trans hc.mem (by omega)) b (few_small14 hc.blk.few) r vs A c (Nat.le_trans hc.len (by omega)) w' ((hM.far HF.out).far hb) ((hB.far HF.out).far hb) (EK.See.far (EK.See.far hV HF.out) hb) (fun m hm => ((hS m hm).call HF.out).call hb) ((hR.of_below HF.out).of_below hb))
  have HV1 := Lib.hid (EK.See.far hV HF.out)
  have HS1 : Hid (BSee w1 vs) := Lib.hid (fun m hm => vsee14 ((hS m hm).call HF.out))
  have HSL := Lib.hid ((hL.below HF.out).more HF.out.size)
  have HDX : Hid (∀ x ∈ vs.map VtM.x, R64 x.leaf ∧ AllD x.opn ∧ AllD x.sht ∧ AllD x.pth) := Lib.hid (fun x hx => by
    obtain ⟨m, hm, rfl⟩ := List.mem_map.1 hx
    exact ⟨(hvN m hm).2, (hS m hm).A.all, (hS m hm).B.all, (hS m hm).C.all⟩)
  have HVN := Lib.hid hvN
  have HR := Lib.hid hr
  clear hX hY hZ hM hB hV hS hR hL hbn hbq hvN hr
  generalize hcb : certB ep ms b.x r (vs.map VtM.x) = cb at *
  have HCB : Hid (cb = true → (0 ≤ r ∧ r ≤ 1024) ∧ 1 ≤ vs.length ∧ ∀ x ∈ vs.map VtM.x, VtBack x) := Lib.hid (fun h => by
    have h2 := certB_back (hcb.trans h) HDX.out
    rw [List.length_map] at h2
    exact h2)
  clear hcb
  generalize cfgV ep AM ms.length cM = CF at *
  generalize b.cells.toArray = BC at *
  generalize hct : crtV r A vs.length c = CT at *
  have HCT := Lib.hid hct
  clear hct
  go_enter Tryz.func4, Tryz.ntmps4
  go_upto_region 1 with fail
  change Code.wp _ _ _ _ (((w.alloc (.cells CF 24)).alloc (.cells BC 29)).alloc (.cells CT 32))
  rw [← hw1]
  clear hw1
  go_upto_region 3 with (go_at_call 5; (with_reducible refine (HAL.out).mono ?_); rintro e w2 ⟨rfl, hb⟩; have HB2 := Lib.hid hb; clear hb)
  clear HAL
  obtain ⟨k1, k2, k3, _⟩ := HC.out w2 HB2.out
  go_wp2_with fail
  refine (HGR.out w2 HB2.out).mono ?_
  rintro e w3 ⟨g, rfl, hg, hb⟩
  have HB3 := Lib.hid (HB2.out.trans (hb.mono HB2.out.size))
  clear hb
  cases g with
  | true =>
    clear hg
    go_wp2
    go_ret
    exact ⟨rfl, HF.out.trans (HB3.out.mono HF.out.size)⟩
  | false =>
  have HCS := Lib.hid (hg rfl)
  clear hg HGR k1 k2 k3 HB2
  by_cases hlong : 65536 < l.length
  · have el : decide ((65536 : Int) < (l.length : Int)) = true := decide_eq_true (by omega)
    go_wp2
    go_ret
    exact ⟨rfl, HF.out.trans (HB3.out.mono HF.out.size)⟩
  have el : decide ((65536 : Int) < (l.length : Int)) = false := decide_eq_false (by omega)
  have HLL : Hid (l.length ≤ 65536) := Lib.hid (by omega)
  go_upto_region 6 with fail
  clear el hlong
  have HW4 : Hid (Wr (w3.alloc (.cells #[.slice none 0 0] 38)) w3.heap.size w3.heap.size []) := wr_new (Box.made _ _ _) (Nat.le_refl _)
  have HB4 : Hid (Below w1.heap.size w1 (w3.alloc (.cells #[.slice none 0 0] 38))) := Lib.hid (HB3.out.alloc HB3.out.size _)
  have HSZ3 : Hid (w1.heap.size ≤ w3.heap.size) := Lib.hid HB3.out.size
  have HXL : Hid (∀ k, (((vs.map VtM.x).take k).flatMap voteB).length ≤ 4000000000) := Lib.hid (flat_len14 (by rw [List.length_map]; exact HCS.out.len) (fun x hx => by obtain ⟨m, hm, rfl⟩ := List.mem_map.1 hx; exact HCS.out.few m hm) (fun x hx => (HDX.out x hx).2))
  have HTL : Hid ((crtS r vs).length ≤ 300000) := Lib.hid (by
    unfold crtS
    split
    · exact crtB_len (by rw [List.length_map]; exact HCS.out.len) (fun x hx => by obtain ⟨m, hm, rfl⟩ := List.mem_map.1 hx; exact HCS.out.few m hm) (fun x hx => (HDX.out x hx).2)
    · exact Nat.zero_le _)
  have hwr := cwrite14 w3.heap.size w3.heap.size r vs A c (Nat.le_trans HCS.out.len (by omega)) HXL.out _ HW4.out (Sees.more (Sees.below HV1.out HB4.out) HSZ3.out) (fun m hm => (HS1.out m hm).at14 HB4.out HSZ3.out)
  rw [HCT.out] at hwr
  have HWR := Lib.hid hwr
  have HRW : Hid (∀ w', Below w1.heap.size w1 w' → Calls Tryz.prog 10 #[.agg CT] w' fun e w'' => e = .returned (.tuple #[str (crtS r vs), .bool (allFit vs)]) ∧ Below w'.heap.size w' w'') := Lib.hid (fun w' hb => by
    have h := rcbytes_any14 r HR.out vs A c (Nat.le_trans HCS.out.len (by omega)) HVN.out HXL.out w' (EK.See.far HV1.out hb) (HS1.out.call hb)
    rw [HCT.out] at h
    exact h)
  have k3 := (HC.out _ HB4.out).2.2.1
  clear hwr HXL
  have HTY : Hid (allFit vs = true → crtS r vs = crtB r (vs.map VtM.x)) := Lib.hid crtS_yes
  have HAF : Hid (cb = true → allFit vs = true) := Lib.hid (fun h => by
    unfold allFit
    rw [List.all_eq_true]
    exact fun m hm => ((HCB.out h).2.2 m.x (List.mem_map.2 ⟨m, hm, rfl⟩)).fits)
  generalize crtS r vs = T at *
  generalize allFit vs = af at *
  generalize w3.alloc (.cells #[.slice none 0 0] 38) = w4 at *
  go_upto_region 7 with (go_at_call 9; (with_reducible refine (HWR.out).mono ?_); rintro e w5 ⟨rfl, hw, hf⟩; have HW5 := Lib.hid hw; have HB5 := Lib.hid (HB4.out.trans ((hf.below HW4.out).mono HSZ3.out)); clear hw hf)
  clear HWR HW4 HB4 k3
  have k3 := (HC.out _ HB5.out).2.2.1
  go_upto_region 8 with (go_at_call 10; (with_reducible refine (HRW.out _ HB5.out).mono ?_); rintro e w6 ⟨rfl, hb⟩; have HW6 := Lib.hid (HW5.out.below_size hb); have HB6 := Lib.hid (HB5.out.trans (hb.mono HB5.out.size)); clear hb)
  clear HRW HW5 HB5 k3
  have HBY := Lib.hid (bytes_any w3.heap.size w3.heap.size T w6 HW6.out (by have := HTL.out; omega))
  have naf : (af != af) = false := by simp
  go_upto_region 10 with (go_at_call 11; (with_reducible refine (HBY.out).mono ?_); rintro e w7 ⟨A7, c7, rfl, _, _, hsee, hb⟩; have hcv := convert_sees (P := Tryz.prog) 35 5 9 Tryz.underlying35 Tryz.underlying5 Tryz.underlying9 hsee c7; have HW7 := Lib.hid (HW6.out.below_size hb); have HB7 := Lib.hid (HB6.out.trans (hb.mono HB6.out.size)); clear hsee hb)
  clear hcv HBY HW6 HB6 naf
  have hcv : (convert 35 9 (.slice AL l.length cl)).run Tryz.prog w7 = .ok (str l) w7 := convert_sees (P := Tryz.prog) 35 5 9 Tryz.underlying35 Tryz.underlying5 Tryz.underlying9 ((HSL.out.below HB7.out).more HB7.out.size) cl
  -- THE LOOP
  go_wp2
  clear hcv
  have HTS : Hid (T.length ≤ 70368744177664 ∧ l.length ≤ 70368744177664) := Lib.hid ⟨by have := HTL.out; omega, by have := HLL.out; omega⟩
  clear HSL HLL
  go_loopw [54] (fun i wr => ∃ k : Nat, k ≤ 2 ∧ i = .int .i64 (k : Int) ∧ Hid (Below w7.heap.size w7 wr)) (fun i _ => 2 - (intOf i).toNat)
  case atStart => exact ⟨0, by omega, rfl, Lib.hid (Below.refl _ _)⟩
  case round =>
    obtain ⟨k, hk, rfl, HW⟩ := hrel
    by_cases hlt : k < 2
    · have HLT := Lib.hid hlt
      obtain ⟨L, hix, hl9⟩ : ∃ L : List UInt8, (Instr.index 43 (.agg #[str l, str T]) (.int .i64 (k : Int))).run Tryz.prog wr = .ok (str L) wr ∧ L.length ≤ 70368744177664 := by
        match k, hlt with
        | 0, _ => exact ⟨l, by kernel_rfl, HTS.out.2⟩
        | 1, _ => exact ⟨T, by kernel_rfl, HTS.out.1⟩
      have HL9 := Lib.hid hl9
      have j1 : (k : Int) < 2 := by omega
      have j0 : (0 : Int) ≤ (k : Int) := by omega
      have wj : IntKind.i64.wrap ((k : Int) + 1) = ((k + 1 : Nat) : Int) := by rw [IntKind.wrap_i64]; omega
      clear hl9 hk hlt
      obtain ⟨XR, hXR⟩ : ∃ XR, ctR L false = XR := ⟨_, rfl⟩
      obtain ⟨X, hX⟩ : ∃ X, ctX L false = X := ⟨_, rfl⟩
      obtain ⟨⟨fl, fb⟩, hFF⟩ : ∃ F, ctF L false = F := ⟨_, rfl⟩
      have HXF : Hid ((∀ x ∈ X, VFew x) ∧ X.length ≤ 10) := Lib.hid (by rw [← hX]; exact ⟨ctX_few L false, ctX_len L false⟩)
      have HTWO : Hid (∀ a m wx, TwX wr a m L wx → Calls Tryz.prog 14 #[.pointer (some ⟨a, 0, none⟩)] wx fun e w' => ∃ A c us, us.map VtM.x = X ∧ e = .returned (.agg (crtV XR A us.length c)) ∧
        Calls Tryz.prog 15 #[.pointer (some ⟨m, 0, none⟩)] w' fun e w'' => ∃ A' c' vs, vs.map VtM.x = X ∧ e = .returned (.agg (crtV XR A' vs.length c')) ∧ Rd w'' a fl fb ∧ RRd w'' m fl fb ∧ (VtK.See w'' w''.heap.size A us ∧ BSee w'' us) ∧ (VtK.See w'' w''.heap.size A' vs ∧ BSee w'' vs) ∧ Below wr.heap.size wr w'') := Lib.hid (fun a m wx h => two_ct14 wr a m L wx h XR X (fl, fb) hXR hX hFF)
      clear hXR hX hFF
      obtain ⟨cap8, w8, hcv, hs8, hb8⟩ := conv_str L wr
      have HB8 := Lib.hid hb8
      have HRD := Lib.hid (read_any w8.heap.size _ L cap8 w8 hs8 (Nat.le_refl _) HL9.out)
      clear hs8 hb8
      go_upto_region 14 with (go_at_call 12; (with_reducible refine (HRD.out).mono ?_); rintro e w9 ⟨a9, rfl, hr, hge, hb⟩; have HR9 := Lib.hid hr; have HB9 := Lib.hid hb; have HE9 := Lib.hid hge; clear hr hb hge)
      clear hix j0 j1 hcv HRD
      obtain ⟨m9, hm9⟩ : ∃ m9, m9 = w9.heap.size := ⟨_, rfl⟩
      have HTW : Hid (TwX wr a9 m9 L (w9.alloc (.cells #[str L, .bool false] 48))) := Lib.hid (by
        rw [hm9]
        have h9 := HR9.out.lt
        have h2 := HB8.out.size
        have h3 := HB9.out.size
        have h4 := HE9.out
        exact ⟨HR9.out.alloc _, Box.made _ _ _, Nat.ne_of_lt h9, by omega, by omega, (HB8.out.trans (HB9.out.mono HB8.out.size)).alloc (by omega) _⟩)
      rw [← hm9]
      clear HR9 HB9 HE9 HB8 hm9
      generalize w9.alloc (.cells #[str L, .bool false] 48) = wx at *
      have HKR := Lib.hid (HTWO.out a9 m9 wx HTW.out)
      clear HTWO HTW
      go_wp2_with (first
        | (go_at_call 14; (with_reducible refine (HKR.out).mono ?_); rintro e w20 ⟨A1, z1, us, hu, rfl, hc⟩; have HU := Lib.hid hu; have HRK := Lib.hid hc; clear hu hc)
        | (go_at_call 15; (with_reducible refine (HRK.out).mono ?_); rintro e w21 ⟨A2, z2, us2, hu2, rfl, hr, hrr, hs1, hs2, hb⟩; have HB21 := Lib.hid hb; have HSM := Lib.hid (csame_true14 XR us us2 A1 A2 z1 z2 (hu2.trans HU.out.symm) (map_few14 HU.out HXF.out.1) (by have h1 := congrArg List.length HU.out; rw [List.length_map] at h1; have := HXF.out.2; omega) w21 hs1.1 hs2.1 hs1.2 hs2.2); have HRA := Lib.hid hr; have HRM := Lib.hid hrr; clear hr hrr hs1 hs2 hb hu2)
        | (go_at_call 13; (with_reducible refine (HSM.out).mono ?_); rintro e w22 ⟨rfl, hb⟩; have HB22 := Lib.hid (HB21.out.trans (hb.mono HB21.out.size)); have hr := HRA.out.below hb HRA.out.lt; have hrr : RRd w22 m9 fl fb := Box.below HRM.out hb (Box.lt HRM.out); have HGA := Lib.hid (good_any a9 _ _ w22 hr); have HGM := Lib.hid (rgood_any m9 _ _ w22 hrr); have HEA := Lib.hid (rdend_any a9 _ _ w22 hr); have HEM := Lib.hid (rend_any m9 _ _ w22 hrr); clear hr hrr hb)
        | (go_at_call 16; (with_reducible refine (HGA.out).mono ?_); rintro e w23 ⟨rfl, rfl⟩)
        | (go_at_call 17; (with_reducible refine (HGM.out).mono ?_); rintro e w24 ⟨rfl, rfl⟩)
        | (go_at_call 18; (with_reducible refine (HEA.out).mono ?_); rintro e w25 ⟨rfl, rfl⟩)
        | (go_at_call 19; (with_reducible refine (HEM.out).mono ?_); rintro e w26 ⟨rfl, rfl⟩))
      have HBE := Lib.hid (HW.out.trans (HB22.out.mono HW.out.size))
      clear HKR HRK HSM HRA HRM HGA HGM HEA HEM HB21 HB22
      go_roundw
      case rel => exact ⟨k + 1, HLT.out, by go_num, HBE⟩
      case measure => have := HLT.out; simp [intOf]; omega
    · have HK2 : Hid (k = 2) := Lib.hid (by omega)
      have j1 : ¬ (k : Int) < 2 := by omega
      have HB8 := Lib.hid (HB7.out.trans (HW.out.mono HB7.out.size))
      have HW8 := Lib.hid (HW7.out.below_size HW.out)
      have HBY := Lib.hid (bytes_any w3.heap.size w3.heap.size T wr HW8.out HTS.out.1)
      clear HW HW7 HB7 hk hlt
      go_upto_region 18 with (first
        | (go_at_call 11; (with_reducible refine (HBY.out).mono ?_); rintro e w30 ⟨A8, c8, rfl, _, _, hsee, hb⟩; have HB30 := Lib.hid (HB8.out.trans (hb.mono HB8.out.size)); have HRD2 := Lib.hid (read_any w30.heap.size A8 T c8 w30 hsee (Nat.le_refl _) HTS.out.1); clear hsee hb)
        | (go_at_call 12; (with_reducible refine (HRD2.out).mono ?_); rintro e w31 ⟨r2, rfl, hr, hge, hb⟩; have HR31 := Lib.hid hr; have HE31 := Lib.hid hge; have HB31 := Lib.hid (HB30.out.trans (hb.mono HB30.out.size)); clear hr hge hb))
      have HR2G : Hid (w1.heap.size ≤ r2) := Lib.hid (Nat.le_trans HB30.out.size HE31.out)
      clear HBY HRD2 HE31 HB30 HB8 HW8 HTS
      have HRX := Lib.hid (cread_any14 r2 T false w31 HR31.out)
      go_upto_region 19 with (go_at_call 14; (with_reducible refine (HRX.out).mono ?_); rintro e w32 ⟨Ay, ny, cy, us, hu, rfl, ho, hs, hfr, hr2, hg2⟩; obtain ⟨w33, hst, hbx, hbl⟩ := laid_ct w32 (ctR T false) Ay ny cy; have HU := Lib.hid hu; have HNY := Lib.hid (EK.Own.bounds ho).1; have HX33 := Lib.hid hbx; have HR33 := Lib.hid (hr2.below hbl hr2.lt); have HU33 := Lib.hid (EK.See.far (EK.Own.see ho) hbl); have HS33 := Lib.hid (BSee.call hs hbl); have HB33 : Hid (Below w1.heap.size w1 w33) := Lib.hid ((HB31.out.trans (below_only hg2 HR2G.out HB31.out.size)).trans (hbl.mono (HB31.out.trans (below_only hg2 HR2G.out HB31.out.size)).size)); clear hu ho hs hfr hr2 hg2 hbx hbl)
      clear hst HRX HR31 HB31 HR2G
      generalize w32.heap.size = g8 at *
      obtain ⟨k1, k2, k3, k4⟩ := HC.out w33 HB33.out
      by_cases hten : 10 < vs.length
      · have e10 : decide ((10 : Int) < (vs.length : Int)) = true := decide_eq_true (by omega)
        clear hten
        go_wp2
        go_ret
        exact ⟨rfl, HF.out.trans (HB33.out.mono HF.out.size)⟩
      have e10 : decide ((10 : Int) < (vs.length : Int)) = false := decide_eq_false (by omega)
      have HV10 : Hid (vs.length ≤ 10) := Lib.hid (by omega)
      have HCC := Lib.hid (HCK.out HCS.out w33 HB33.out)
      clear HCK hten
      cases cb with
      | false =>
        go_wp2_with (go_at_call 7; (with_reducible refine (HCC.out).mono ?_); rintro e w34 ⟨rfl, hb⟩; have HB34 := Lib.hid (HB33.out.trans (hb.mono HB33.out.size)); clear hb)
        go_ret
        exact ⟨rfl, HF.out.trans (HB34.out.mono HF.out.size)⟩
      | true =>
      have haf := HAF.out rfl
      obtain ⟨h1, h2, h3⟩ := HCB.out rfl
      have h4 := crt_back h1 ⟨by rw [List.length_map]; exact h2, by rw [List.length_map]; exact HV10.out⟩ h3
      rw [← HTY.out haf] at h4
      obtain ⟨q1, q2, q3⟩ := h4
      subst haf
      rw [q1] at HR33
      rw [q2] at HX33
      rw [q3] at HU
      rw [HNY.out] at HX33
      clear h1 h2 h3 q1 q2 q3 HNY HAF HCB HTY
      have HLX := Lib.hid (show vs.length ≤ 1000000 by have := HV10.out; omega)
      have HSMM : Hid (∀ w', Below w33.heap.size w33 w' → Calls Tryz.prog 13 #[.agg CT, .agg (crtV r Ay us.length cy)] w' fun e w'' => e = .returned (.bool true) ∧ Below w'.heap.size w' w'') := Lib.hid (fun w' hb => by
        have hb1 := HB33.out.trans (hb.mono HB33.out.size)
        have h := csame_true14 r vs us A Ay c cy HU.out HCS.out.few HLX.out w' (EK.See.far HV1.out hb1) (EK.See.far HU33.out hb) (HS1.out.call hb1) (HS33.out.call hb)
        rw [HCT.out] at h
        exact h)
      have HLY : Hid (∀ w', Below w33.heap.size w33 w' → (ldCt (.pointer (some ⟨g8, 0, none⟩))).run Tryz.prog w' = .ok (.agg (crtV r Ay us.length cy)) w') := Lib.hid (fun w' hb => (HX33.out.below hb HX33.out.lt).l_ct)
      have HEN : Hid (∀ w', Below w33.heap.size w33 w' → Calls Tryz.prog 18 #[.pointer (some ⟨r2, 0, none⟩)] w' fun e w'' => e = .returned (.bool true) ∧ w' = w'') := Lib.hid (fun w' hb => rdend_any r2 [] false w' (HR33.out.below hb HR33.out.lt))
      clear HU HR33 HX33 HU33 HS33 HV1 HS1 HCT HCS
      go_wp2_with (first
        | (go_at_call 7; (with_reducible refine (HCC.out).mono ?_); rintro e w34 ⟨rfl, hb⟩; have HB34 := Lib.hid hb; obtain ⟨_, _, j3, _⟩ := HC.out w34 (HB33.out.trans (hb.mono HB33.out.size)); have j8 := HLY.out w34 hb; clear hb)
        | (go_at_call 18; (with_reducible refine (HEN.out _ HB34.out).mono ?_); rintro e w35 ⟨rfl, rfl⟩)
        | (go_at_call 13; (with_reducible refine (HSMM.out _ HB34.out).mono ?_); rintro e w36 ⟨rfl, hb⟩; have HB36 := Lib.hid (HB34.out.trans (hb.mono HB34.out.size)); clear hb))
      go_ret
      exact ⟨rfl, HF.out.trans ((HB33.out.trans (HB36.out.mono HB33.out.size)).mono HF.out.size)⟩
end Go.Proofs.YtejnfgcnifcpaaaGreatDoor
