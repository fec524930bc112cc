/-
  ChainParts: the walk. Written by gen_lkparts.py.
-/
import Derived.Test.YtbclepdcngaonaaDoorLkGreat
import Derived.Test.YtbclepdcngaonaaDoorLkAlive
import Derived.Test.YtbclepdcngaonaaDoorLkCut
import Derived.Test.YtbclepdcngaonaaDoorCA
namespace Go.Proofs.YtbclepdcngaonaaDoor
open Go.RowKit Go.Maps Go.Sort

attribute [local go_sem ↓] ldCf_def stCf_def ldLk_def stLk_def alLk_def alCf15_def slLk_def
set_option maxRecDepth 100000 in
set_option maxHeartbeats 16000000 in
theorem parts_walk15 (ms : List MemX) (ep : Int) (AM : Option Addr) (cM : Nat) (ls : List LkM) (hlim : ∀ l ∈ ls, LkLim l) (A : Option Addr) (c : Nat) (hcap : ls.length ≤ c) (at_ : Int) (w : World) (hM : Mems w w.heap.size AM ms) (hL : LksSee w A ls) (hR : Roots w) :
    Calls Tryd.prog 3 #[.agg (cfgV ep AM ms.length cM), .slice A ls.length c, .int .i64 at_] w fun e w' => e = .returned (.bool true) ∧ Below w.heap.size w w' := by
  obtain ⟨w1, hw1⟩ : ∃ w1, w1 = w.alloc (.cells (cfgV ep AM ms.length cM) 24) := ⟨_, rfl⟩
  have hX : Box w1 w.heap.size 24 (cfgV ep AM ms.length cM) := by rw [hw1]; exact Box.made w _ _
  have HF : Hid (Below w.heap.size w w1) := by rw [hw1]; exact (Below.refl _ _).alloc (Nat.le_refl _) _
  have HC : Hid (∀ w', Below w1.heap.size w1 w' → (ldCf (.pointer (some ⟨w.heap.size, 0, none⟩))).run Tryd.prog w' = .ok (.agg (cfgV ep AM ms.length cM)) w' ∧ w'.cell? ⟨w.heap.size, 0, none⟩ = some (.int .i64 ep)) := Lib.hid (fun w' hb => by
    have hx := hX.below hb hX.lt
    exact ⟨hx.l_cf, hx.cell 0⟩)
  have HR1 := Lib.hid (hR.of_below HF.out)
  have HL1 := Lib.hid (hL.call HF.out)
  have HM1 := Lib.hid (hM.far HF.out)
  have HAL := Lib.hid (alive_any15 w1 HR1.out)
  have HGR : Hid (∀ w', Below w1.heap.size w1 w' → Calls Tryd.prog 6 #[.agg (cfgV ep AM ms.length cM), .slice A ls.length c] w' (GreatL ms ls w')) := Lib.hid (fun w' hb => lgreat_any ms ep AM cM ls hlim A c w' (HL1.out.call hb))
  have HCP := Lib.hid hcap
  clear hX hM hL hR hlim hcap
  go_enter Tryd.func3, Tryd.ntmps3
  go_upto_region 1 with fail
  change Code.wp _ _ _ _ (w.alloc (.cells (cfgV ep AM ms.length cM) 24))
  rw [← hw1]
  clear hw1
  go_upto_region 3 with (go_at_call 5; (with_reducible refine (HAL.out).mono ?_); rintro e w2 ⟨rfl, hb⟩; have HB2 := Lib.hid hb; clear hb)
  clear HAL
  have k1 := (HC.out w2 HB2.out).1
  go_wp2_with fail
  refine (HGR.out w2 HB2.out).mono ?_
  rintro e w3 ⟨g, rfl, hg, hb⟩
  have HB3 := Lib.hid (HB2.out.trans (hb.mono HB2.out.size))
  clear hb k1 HB2 HGR
  cases g with
  | true =>
    clear hg
    go_wp2
    go_ret
    exact ⟨rfl, HF.out.trans (HB3.out.mono HF.out.size)⟩
  | false =>
  have HSM := Lib.hid (hg rfl)
  clear hg
  by_cases hneg : at_ < 0
  · have e1 : decide (at_ < 0) = true := decide_eq_true hneg
    go_wp2
    go_ret
    exact ⟨rfl, HF.out.trans (HB3.out.mono HF.out.size)⟩
  have e1 : decide (at_ < 0) = false := decide_eq_false hneg
  by_cases hbig : (ls.length : Int) < at_
  · have e2 : decide ((ls.length : Int) < at_) = true := decide_eq_true hbig
    go_wp2
    go_ret
    exact ⟨rfl, HF.out.trans (HB3.out.mono HF.out.size)⟩
  have e2 : decide ((ls.length : Int) < at_) = false := decide_eq_false hbig
  obtain ⟨a, rfl⟩ : ∃ a : Nat, at_ = (a : Int) := ⟨at_.toNat, by omega⟩
  have HA : Hid (a ≤ ls.length) := Lib.hid (by omega)
  have e3 : decide (ls.length < a) = false := decide_eq_false (by omega)
  clear hneg hbig e2
  have HCK : Hid (∀ w', Below w1.heap.size w1 w' → Calls Tryd.prog 7 #[.agg (cfgV ep AM ms.length cM), .slice A ls.length c] w' (ChkIs w' (checkN ep ms (ls.map LkM.x)))) := Lib.hid (fun w' hb =>
    check_any15 ep ms AM cM (by have := HSM.out.mem; omega) ls A c (by have := HSM.out.len; omega) (fun l hl => (HSM.out.each l hl).lk) w' (HM1.out.far hb) (HL1.out.call hb) (HR1.out.of_below hb))
  have HCT : Hid (∀ w', Below w1.heap.size w1 w' → Calls Tryd.prog 7 #[.agg (cfgV ep AM ms.length cM), .slice A a c] w' (ChkIs w' (checkN ep ms ((ls.map LkM.x).take a)))) := Lib.hid (fun w' hb => by
    have h := check_any15 ep ms AM cM (by have := HSM.out.mem; omega) (ls.take a) A c (by have := HSM.out.len; rw [List.length_take]; omega) (fun l hl => (HSM.out.each l (List.mem_of_mem_take hl)).lk) w' (HM1.out.far hb) ⟨EK.See.take15 (HL1.out.call hb).row a, fun l hl => (HL1.out.call hb).each l (List.mem_of_mem_take hl)⟩ (HR1.out.of_below hb)
    rw [List.length_take, Nat.min_eq_left HA.out, List.map_take] at h
    exact h)
  have HCD : Hid (∀ w', Below w1.heap.size w1 w' → ∀ (E : Int) (M : List MemX) (B : Option Addr) (d : Nat), M.length ≤ 1000000 → Mems w' w'.heap.size B M → Calls Tryd.prog 7 #[.agg (cfgV E B M.length d), .slice (if c = a then A else A.map (·.add (a * 103))) (ls.length - a) (c - a)] w' (ChkIs w' (checkN E M ((ls.map LkM.x).drop a)))) := Lib.hid (fun w' hb E M B d hm hB => by
    have h := check_any15 E M B d hm (ls.drop a) (if c = a then A else A.map (·.add (a * 103))) (c - a) (by have := HSM.out.len; rw [List.length_drop]; omega) (fun l hl => (HSM.out.each l (List.mem_of_mem_drop hl)).lk) w' hB ⟨EK.See.drop15 (HL1.out.call hb).row HA.out HCP.out, fun l hl => (HL1.out.call hb).each l (List.mem_of_mem_drop hl)⟩ (HR1.out.of_below hb)
    rw [List.length_drop, List.map_drop] at h
    exact h)
  have HLR : Hid (∀ w', Below w1.heap.size w1 w' → LksSee w' A ls) := Lib.hid (fun w' hb => HL1.out.call hb)
  have HLN : Hid (ls.length ≤ 6) := Lib.hid HSM.out.len
  have hal := al_cf15
  have sup : ∀ w, (slLk (.slice A ls.length c) none (some (.int .i64 (a : Int))) none).run Tryd.prog w = .ok (.slice A a c) w := fun w => links_upto (Nat.le_trans HA.out HCP.out) w
  have sfr : ∀ w, (slLk (.slice A ls.length c) (some (.int .i64 (a : Int))) none none).run Tryd.prog w = .ok (.slice (if c = a then A else A.map (·.add (a * 103))) (ls.length - a) (c - a)) w := fun w => links_from HA.out w
  generalize (if c = a then A else A.map (·.add (a * 103))) = AD at *
  generalize hCF : cfgV ep AM ms.length cM = CF at *
  clear hCF HM1 HL1 HR1
  have k1 := (HC.out w3 HB3.out).1
  have hck := HCK.out w3 HB3.out
  generalize hr1 : checkN ep ms (ls.map LkM.x) = r1 at *
  generalize hr2 : checkN ep ms ((ls.map LkM.x).take a) = r2 at *
  go_upto_region 6 with (go_at_call 7; (with_reducible refine hck.mono ?_); rintro e w4 ⟨A4, c4, rfl, ho4, hb⟩; obtain ⟨w5, hst5, hx5, hbl5, _⟩ := laid_cf w4 (cfgV 0 none 0 0) rfl r1.1.1 A4 r1.1.2.length c4; have HK1 := Lib.hid (CkBox.late hb (EK.Own.see ho4) hx5 hbl5); have HB5 := Lib.hid (HB3.out.trans (HK1.out.far.mono HB3.out.size)); clear hx5 hbl5 hb ho4)
  clear hst5 hck HB3 e1 e3 k1
  go_cut [10, 11, 12, 42, 43, 44, 45, 46, 47, 48, 49, 50] (fun p n2 f2 _ _ _ _ _ _ _ _ _ wx => ∃ g2, p = .pointer (some ⟨g2, 0, none⟩) ∧ n2 = .int .i64 (r2.2.1 : Int) ∧ f2 = .int .i64 r2.2.2 ∧ Hid (CkBox w5 r2 g2 wx))
  case first =>
    obtain ⟨wd, hwd⟩ : ∃ wd, wd = w5.drew := ⟨_, rfl⟩
    have hbd : Below w5.heap.size w5 wd := by rw [hwd]; exact (Below.refl _ _).drew
    have HD := Lib.hid hbd
    refine wp_region_held_drew (S := fun w' => Below w5.heap.size w5 w') (by kernel_rfl) (by rw [← hwd]; exact hbd) (fun hS => ?_)
    rw [← hwd] at hS ⊢
    clear hwd hbd
    (refine wpAnyH_take (i := 0) (v := .agg CF) rfl (by kernel_rfl) (by kernel_rfl) (by kernel_rfl) (fun _ _ _ h => h) (Or.inl ⟨by kernel_rfl, fun w hSw => by have hc := (HC.out w (HB5.out.trans (hSw.mono HB5.out.size))).1; go_simp⟩) hS ?_)
    (try simp only [Act.put])
    (refine wpAnyH_take (i := 1) (v := .slice A ls.length c) rfl (by kernel_rfl) (by kernel_rfl) (by kernel_rfl) (fun _ _ _ h => h) (Or.inl ⟨by kernel_rfl, fun w hSw => by go_simp⟩) hS ?_)
    (try simp only [Act.put])
    (refine wpAnyH_take (i := 2) (v := .int .i64 (a : Int)) rfl (by kernel_rfl) (by kernel_rfl) (by kernel_rfl) (fun _ _ _ h => h) (Or.inl ⟨by kernel_rfl, fun w hSw => by go_simp⟩) hS ?_)
    (try simp only [Act.put])
    (refine wpAnyH_take (i := 3) (v := .slice A a c) rfl (by kernel_rfl) (by kernel_rfl) (by kernel_rfl) (fun _ _ _ h => h) (Or.inl ⟨by kernel_rfl, fun w hSw => by have hc := sup w; go_simp⟩) hS ?_)
    (try simp only [Act.put])
    refine wpAnyH_ready (rs := [4, 9]) (by decide +kernel) (by simp) (AllReadyH.cons rfl (fun K hK => ?_) (AllReadyH.cons rfl (fun K hK => ?_) AllReadyH.nil))
    · go_simp
      have hck := HCT.out wd (HB5.out.trans (HD.out.mono HB5.out.size))
      (go_at_call 7; (with_reducible refine hck.mono ?_); rintro e w6 ⟨A6, c6, rfl, ho6, hb⟩)
      refine hK.out _ _ (hS.trans (hb.mono hS.size)) (fun hS => ?_)
      clear hK K
      (try simp only [Act.put])
      have HB6 := Lib.hid (HD.out.trans (hb.mono HD.out.size))
      have HO6 := Lib.hid ho6
      clear hb ho6 hck
      obtain ⟨w9, hst, hb9, hl9, hg9⟩ := laid_cf w6 (cfgV 0 none 0 0) rfl r2.1.1 A6 r2.1.2.length c6
      have HCB := Lib.hid (CkBox.late HB6.out (EK.Own.see HO6.out) hb9 hl9)
      clear hb9 hl9
      (refine wpAnyH_take (i := 5) (v := .tuple #[.agg (cfgV r2.1.1 A6 r2.1.2.length c6), .int .i64 (r2.2.1 : Int), .int .i64 r2.2.2]) rfl (by kernel_rfl) (by kernel_rfl) (by kernel_rfl) (fun _ _ _ h => h) (Or.inl ⟨by kernel_rfl, fun w hSw => by go_simp⟩) hS ?_)
      (try simp only [Act.put])
      (refine wpAnyH_take (i := 6) (v := .agg (cfgV r2.1.1 A6 r2.1.2.length c6)) rfl (by kernel_rfl) (by kernel_rfl) (by kernel_rfl) (fun _ _ _ h => h) (Or.inl ⟨by kernel_rfl, fun w hSw => by go_simp⟩) hS ?_)
      (try simp only [Act.put])
      (refine wpAnyH_take (i := 7) (v := .int .i64 (r2.2.1 : Int)) rfl (by kernel_rfl) (by kernel_rfl) (by kernel_rfl) (fun _ _ _ h => h) (Or.inl ⟨by kernel_rfl, fun w hSw => by go_simp⟩) hS ?_)
      (try simp only [Act.put])
      (refine wpAnyH_take (i := 8) (v := .int .i64 r2.2.2) rfl (by kernel_rfl) (by kernel_rfl) (by kernel_rfl) (fun _ _ _ h => h) (Or.inl ⟨by kernel_rfl, fun w hSw => by go_simp⟩) hS ?_)
      (try simp only [Act.put])
      have hala := hal w6
      refine wpAnyH_ready (rs := [9]) (by decide +kernel) (by simp) (AllReadyH.cons rfl (fun K hK => ?_) AllReadyH.nil)
      go_simp
      refine hK.out _ _ (hS.alloc hS.size _) (fun hS => ?_)
      clear hK K
      (try simp only [Act.put])
      refine wpAnyH_ready (rs := [10]) (by decide +kernel) (by simp) (AllReadyH.cons rfl (fun K hK => ?_) AllReadyH.nil)
      go_simp
      refine hK.out _ _ (HCB.out.far) (fun hS => ?_)
      clear hK K
      (try simp only [Act.put])
      (refine wpAnyH_take (i := 11) (v := .int .i64 (r2.2.1 : Int)) rfl (by kernel_rfl) (by kernel_rfl) (by kernel_rfl) (fun _ _ _ h => h) (Or.inl ⟨by kernel_rfl, fun w hSw => by go_simp⟩) hS ?_)
      (try simp only [Act.put])
      (refine wpAnyH_take (i := 12) (v := .int .i64 r2.2.2) rfl (by kernel_rfl) (by kernel_rfl) (by kernel_rfl) (fun _ _ _ h => h) (Or.inl ⟨by kernel_rfl, fun w hSw => by go_simp⟩) hS ?_)
      (try simp only [Act.put])
      refine wpAnyH_done (by kernel_rfl) ?_ _
      clear hS hst
      go_simp
      go_wp2_with fail
      go_meet
      exact ⟨w6.heap.size, rfl, rfl, rfl, HCB⟩
    · have hala := hal wd
      go_simp
      refine hK.out _ _ (hS.alloc hS.size _) (fun hS => ?_)
      clear hK K
      (try simp only [Act.put])
      have HX9 : Hid (Box (wd.alloc (.cells (cfgV 0 none 0 0) 24)) wd.heap.size 24 (cfgV 0 none 0 0)) := Box.made _ _ _
      have HB9 := Lib.hid hS
      have HLO : Hid (w5.heap.size ≤ wd.heap.size) := Lib.hid HD.out.size
      generalize wd.alloc (.cells (cfgV 0 none 0 0) 24) = w8 at *
      generalize wd.heap.size = g9 at *
      refine wpAnyH_ready (rs := [4]) (by decide +kernel) (by simp) (AllReadyH.cons rfl (fun K hK => ?_) AllReadyH.nil)
      go_simp
      have hck := HCT.out w8 (HB5.out.trans (HB9.out.mono HB5.out.size))
      (go_at_call 7; (with_reducible refine hck.mono ?_); rintro e w6 ⟨A6, c6, rfl, ho6, hb⟩)
      refine hK.out _ _ (hS.trans (hb.mono hS.size)) (fun hS => ?_)
      clear hK K
      (try simp only [Act.put])
      have HB6 := Lib.hid (HB9.out.trans (hb.mono HB9.out.size))
      have HO6 := Lib.hid ho6
      have HX6 := Lib.hid (HX9.out.below hb HX9.out.lt)
      clear hb ho6 hck
      obtain ⟨w9, hst, hb9, hg9⟩ := HX6.out.s_cf rfl r2.1.1 A6 r2.1.2.length c6
      have HCB := Lib.hid (CkBox.early HLO.out HB6.out HO6.out HX6.out hb9 hg9)
      clear hb9 hg9
      (refine wpAnyH_take (i := 5) (v := .tuple #[.agg (cfgV r2.1.1 A6 r2.1.2.length c6), .int .i64 (r2.2.1 : Int), .int .i64 r2.2.2]) rfl (by kernel_rfl) (by kernel_rfl) (by kernel_rfl) (fun _ _ _ h => h) (Or.inl ⟨by kernel_rfl, fun w hSw => by go_simp⟩) hS ?_)
      (try simp only [Act.put])
      (refine wpAnyH_take (i := 6) (v := .agg (cfgV r2.1.1 A6 r2.1.2.length c6)) rfl (by kernel_rfl) (by kernel_rfl) (by kernel_rfl) (fun _ _ _ h => h) (Or.inl ⟨by kernel_rfl, fun w hSw => by go_simp⟩) hS ?_)
      (try simp only [Act.put])
      (refine wpAnyH_take (i := 7) (v := .int .i64 (r2.2.1 : Int)) rfl (by kernel_rfl) (by kernel_rfl) (by kernel_rfl) (fun _ _ _ h => h) (Or.inl ⟨by kernel_rfl, fun w hSw => by go_simp⟩) hS ?_)
      (try simp only [Act.put])
      (refine wpAnyH_take (i := 8) (v := .int .i64 r2.2.2) rfl (by kernel_rfl) (by kernel_rfl) (by kernel_rfl) (fun _ _ _ h => h) (Or.inl ⟨by kernel_rfl, fun w hSw => by go_simp⟩) hS ?_)
      (try simp only [Act.put])
      refine wpAnyH_ready (rs := [10]) (by decide +kernel) (by simp) (AllReadyH.cons rfl (fun K hK => ?_) AllReadyH.nil)
      go_simp
      refine hK.out _ _ (HCB.out.far) (fun hS => ?_)
      clear hK K
      (try simp only [Act.put])
      (refine wpAnyH_take (i := 11) (v := .int .i64 (r2.2.1 : Int)) rfl (by kernel_rfl) (by kernel_rfl) (by kernel_rfl) (fun _ _ _ h => h) (Or.inl ⟨by kernel_rfl, fun w hSw => by go_simp⟩) hS ?_)
      (try simp only [Act.put])
      (refine wpAnyH_take (i := 12) (v := .int .i64 r2.2.2) rfl (by kernel_rfl) (by kernel_rfl) (by kernel_rfl) (fun _ _ _ h => h) (Or.inl ⟨by kernel_rfl, fun w hSw => by go_simp⟩) hS ?_)
      (try simp only [Act.put])
      refine wpAnyH_done (by kernel_rfl) ?_ _
      clear hS hst
      go_simp
      go_wp2_with fail
      go_meet
      exact ⟨g9, rfl, rfl, rfl, HCB⟩
  case rest =>
    obtain ⟨g2, rfl, rfl, rfl, HK2⟩ := hcut
    obtain ⟨w7, rfl⟩ : ∃ w7, w7 = wc := ⟨_, rfl⟩
    have HPL := Lib.hid (checkN_parts (ep := ep) (ms := ms) (xs := ls.map LkM.x) (a := a) (by rw [List.length_map]; exact HA.out) (by rw [List.length_map]; have := HLN.out; omega))
    rw [hr1, hr2, List.length_map] at HPL
    have HB7 := Lib.hid (HB5.out.trans (HK2.out.far.mono HB5.out.size))
    have HFE := Lib.hid (HF.out.trans (HB7.out.mono HF.out.size))
    have HK7 := Lib.hid (HK1.out.call HK2.out.far)
    clear HCT hr1 hr2 HB5 HK1 HCK sup
    by_cases hx : r1.2.2 = 0
    rotate_left
    · have m1 : (r1.2.2 != 0) = true := by simpa using hx
      have hcase := HPL.out.1 hx
      clear HPL HK7 HK2 HCD
      generalize r1.2.2 = x1 at *
      generalize r1.2.1 = n1 at *
      generalize r2.2.2 = x2 at *
      generalize r2.2.1 = n2 at *
      rcases hcase with ⟨h1, h2, h3⟩ | ⟨h1, h2⟩
      · subst h1 h2
        have m2 : ((n2 : Int) == (n2 : Int)) = true := by simp
        have m3 : decide ((n2 : Int) ≤ (n1 : Int)) = true := decide_eq_true (by omega)
        have m4 : decide (n2 ≤ n1) = true := decide_eq_true h3
        have m5 : (n2 == n2) = true := by simp
        go_wp2
        go_ret
        exact ⟨rfl, HFE.out⟩
      · subst h1 h2
        have m2 : ((n2 : Int) == (n2 : Int)) = true := by simp
        have m3 : (x2 == 0) = false := by simpa using hx
        have m4 : (x2 == x2) = true := by simp
        have m5 : (n2 == n2) = true := by simp
        go_wp2
        go_ret
        exact ⟨rfl, HFE.out⟩
    obtain ⟨h2, h3, h4, h5, h6, h7, h8⟩ := HPL.out.2 hx
    have HX2 := Lib.hid h2
    have HN1 := Lib.hid h3
    have HML := Lib.hid h4
    have HWK := Lib.hid h5
    have HX3 := Lib.hid h6
    have HEQ := Lib.hid h7
    have HLEN := Lib.hid h8
    have HX1 := Lib.hid hx
    clear HPL h2 h3 h4 h5 h6 h7 h8
    have m1 : (r1.2.2 != 0) = false := by rw [hx]; rfl
    have m2 : (r2.2.2 != 0) = false := by rw [HX2.out]; rfl
    have m3 : ((r1.2.1 : Int) != (ls.length : Int)) = false := by rw [HN1.out]; simp
    have m4 : (r1.2.1 != ls.length) = false := by rw [HN1.out]; simp
    clear hx
    go_upto_region 11 with fail
    clear m1 m2 m3 m4
    obtain ⟨AM2, cM2, hx2, hm2⟩ := HK2.out.box
    have HBX2 := Lib.hid hx2
    have HMM2 := Lib.hid hm2
    clear hx2 hm2 HK2
    generalize hr3 : checkN r2.1.1 r2.1.2 ((ls.map LkM.x).drop a) = r3 at *
    have HC3 : Hid (∀ w', Below w7.heap.size w7 w' → Calls Tryd.prog 7 #[.agg (cfgV r2.1.1 AM2 r2.1.2.length cM2), .slice AD (ls.length - a) (c - a)] w' (ChkIs w' r3)) := Lib.hid (fun w' hb => by
      have h := HCD.out w' (HB7.out.trans (hb.mono HB7.out.size)) r2.1.1 r2.1.2 AM2 cM2 (by have := HML.out; omega) (HMM2.out.far hb)
      rw [hr3] at h
      exact h)
    clear HCD hr3
    go_cut [13, 14, 15, 83, 84, 85, 86, 87, 88, 89, 90, 91] (fun p n2 f2 _ _ _ _ _ _ _ _ _ wx => ∃ g2, p = .pointer (some ⟨g2, 0, none⟩) ∧ n2 = .int .i64 (r3.2.1 : Int) ∧ f2 = .int .i64 r3.2.2 ∧ Hid (CkBox w7 r3 g2 wx))
    case first =>
      obtain ⟨wd, hwd⟩ : ∃ wd, wd = w7.drew := ⟨_, rfl⟩
      have hbd : Below w7.heap.size w7 wd := by rw [hwd]; exact (Below.refl _ _).drew
      have HD := Lib.hid hbd
      refine wp_region_held_drew (S := fun w' => Below w7.heap.size w7 w') (by kernel_rfl) (by rw [← hwd]; exact hbd) (fun hS => ?_)
      rw [← hwd] at hS ⊢
      clear hwd hbd
      (refine wpAnyH_take (i := 0) (v := .agg (cfgV r2.1.1 AM2 r2.1.2.length cM2)) rfl (by kernel_rfl) (by kernel_rfl) (by kernel_rfl) (fun _ _ _ h => h) (Or.inl ⟨by kernel_rfl, fun w hSw => by have hc := (HBX2.out.below hSw HBX2.out.lt).l_cf; go_simp⟩) hS ?_)
      (try simp only [Act.put])
      (refine wpAnyH_take (i := 1) (v := .slice A ls.length c) rfl (by kernel_rfl) (by kernel_rfl) (by kernel_rfl) (fun _ _ _ h => h) (Or.inl ⟨by kernel_rfl, fun w hSw => by go_simp⟩) hS ?_)
      (try simp only [Act.put])
      (refine wpAnyH_take (i := 2) (v := .int .i64 (a : Int)) rfl (by kernel_rfl) (by kernel_rfl) (by kernel_rfl) (fun _ _ _ h => h) (Or.inl ⟨by kernel_rfl, fun w hSw => by go_simp⟩) hS ?_)
      (try simp only [Act.put])
      (refine wpAnyH_take (i := 3) (v := .slice AD (ls.length - a) (c - a)) rfl (by kernel_rfl) (by kernel_rfl) (by kernel_rfl) (fun _ _ _ h => h) (Or.inl ⟨by kernel_rfl, fun w hSw => by have hc := sfr w; go_simp⟩) hS ?_)
      (try simp only [Act.put])
      refine wpAnyH_ready (rs := [4, 9]) (by decide +kernel) (by simp) (AllReadyH.cons rfl (fun K hK => ?_) (AllReadyH.cons rfl (fun K hK => ?_) AllReadyH.nil))
      · go_simp
        have hck := HC3.out wd HD.out
        (go_at_call 7; (with_reducible refine hck.mono ?_); rintro e w6 ⟨A6, c6, rfl, ho6, hb⟩)
        refine hK.out _ _ (hS.trans (hb.mono hS.size)) (fun hS => ?_)
        clear hK K
        (try simp only [Act.put])
        have HB6 := Lib.hid (HD.out.trans (hb.mono HD.out.size))
        have HO6 := Lib.hid ho6
        clear hb ho6 hck
        obtain ⟨w9, hst, hb9, hl9, hg9⟩ := laid_cf w6 (cfgV 0 none 0 0) rfl r3.1.1 A6 r3.1.2.length c6
        have HCB := Lib.hid (CkBox.late HB6.out (EK.Own.see HO6.out) hb9 hl9)
        clear hb9 hl9
        (refine wpAnyH_take (i := 5) (v := .tuple #[.agg (cfgV r3.1.1 A6 r3.1.2.length c6), .int .i64 (r3.2.1 : Int), .int .i64 r3.2.2]) rfl (by kernel_rfl) (by kernel_rfl) (by kernel_rfl) (fun _ _ _ h => h) (Or.inl ⟨by kernel_rfl, fun w hSw => by go_simp⟩) hS ?_)
        (try simp only [Act.put])
        (refine wpAnyH_take (i := 6) (v := .agg (cfgV r3.1.1 A6 r3.1.2.length c6)) rfl (by kernel_rfl) (by kernel_rfl) (by kernel_rfl) (fun _ _ _ h => h) (Or.inl ⟨by kernel_rfl, fun w hSw => by go_simp⟩) hS ?_)
        (try simp only [Act.put])
        (refine wpAnyH_take (i := 7) (v := .int .i64 (r3.2.1 : Int)) rfl (by kernel_rfl) (by kernel_rfl) (by kernel_rfl) (fun _ _ _ h => h) (Or.inl ⟨by kernel_rfl, fun w hSw => by go_simp⟩) hS ?_)
        (try simp only [Act.put])
        (refine wpAnyH_take (i := 8) (v := .int .i64 r3.2.2) rfl (by kernel_rfl) (by kernel_rfl) (by kernel_rfl) (fun _ _ _ h => h) (Or.inl ⟨by kernel_rfl, fun w hSw => by go_simp⟩) hS ?_)
        (try simp only [Act.put])
        have hala := hal w6
        refine wpAnyH_ready (rs := [9]) (by decide +kernel) (by simp) (AllReadyH.cons rfl (fun K hK => ?_) AllReadyH.nil)
        go_simp
        refine hK.out _ _ (hS.alloc hS.size _) (fun hS => ?_)
        clear hK K
        (try simp only [Act.put])
        refine wpAnyH_ready (rs := [10]) (by decide +kernel) (by simp) (AllReadyH.cons rfl (fun K hK => ?_) AllReadyH.nil)
        go_simp
        refine hK.out _ _ (HCB.out.far) (fun hS => ?_)
        clear hK K
        (try simp only [Act.put])
        (refine wpAnyH_take (i := 11) (v := .int .i64 (r3.2.1 : Int)) rfl (by kernel_rfl) (by kernel_rfl) (by kernel_rfl) (fun _ _ _ h => h) (Or.inl ⟨by kernel_rfl, fun w hSw => by go_simp⟩) hS ?_)
        (try simp only [Act.put])
        (refine wpAnyH_take (i := 12) (v := .int .i64 r3.2.2) rfl (by kernel_rfl) (by kernel_rfl) (by kernel_rfl) (fun _ _ _ h => h) (Or.inl ⟨by kernel_rfl, fun w hSw => by go_simp⟩) hS ?_)
        (try simp only [Act.put])
        refine wpAnyH_done (by kernel_rfl) ?_ _
        clear hS hst
        go_simp
        go_wp2_with fail
        go_meet
        exact ⟨w6.heap.size, rfl, rfl, rfl, HCB⟩
      · have hala := hal wd
        go_simp
        refine hK.out _ _ (hS.alloc hS.size _) (fun hS => ?_)
        clear hK K
        (try simp only [Act.put])
        have HX9 : Hid (Box (wd.alloc (.cells (cfgV 0 none 0 0) 24)) wd.heap.size 24 (cfgV 0 none 0 0)) := Box.made _ _ _
        have HB9 := Lib.hid hS
        have HLO : Hid (w7.heap.size ≤ wd.heap.size) := Lib.hid HD.out.size
        generalize wd.alloc (.cells (cfgV 0 none 0 0) 24) = w8 at *
        generalize wd.heap.size = g9 at *
        refine wpAnyH_ready (rs := [4]) (by decide +kernel) (by simp) (AllReadyH.cons rfl (fun K hK => ?_) AllReadyH.nil)
        go_simp
        have hck := HC3.out w8 HB9.out
        (go_at_call 7; (with_reducible refine hck.mono ?_); rintro e w6 ⟨A6, c6, rfl, ho6, hb⟩)
        refine hK.out _ _ (hS.trans (hb.mono hS.size)) (fun hS => ?_)
        clear hK K
        (try simp only [Act.put])
        have HB6 := Lib.hid (HB9.out.trans (hb.mono HB9.out.size))
        have HO6 := Lib.hid ho6
        have HX6 := Lib.hid (HX9.out.below hb HX9.out.lt)
        clear hb ho6 hck
        obtain ⟨w9, hst, hb9, hg9⟩ := HX6.out.s_cf rfl r3.1.1 A6 r3.1.2.length c6
        have HCB := Lib.hid (CkBox.early HLO.out HB6.out HO6.out HX6.out hb9 hg9)
        clear hb9 hg9
        (refine wpAnyH_take (i := 5) (v := .tuple #[.agg (cfgV r3.1.1 A6 r3.1.2.length c6), .int .i64 (r3.2.1 : Int), .int .i64 r3.2.2]) rfl (by kernel_rfl) (by kernel_rfl) (by kernel_rfl) (fun _ _ _ h => h) (Or.inl ⟨by kernel_rfl, fun w hSw => by go_simp⟩) hS ?_)
        (try simp only [Act.put])
        (refine wpAnyH_take (i := 6) (v := .agg (cfgV r3.1.1 A6 r3.1.2.length c6)) rfl (by kernel_rfl) (by kernel_rfl) (by kernel_rfl) (fun _ _ _ h => h) (Or.inl ⟨by kernel_rfl, fun w hSw => by go_simp⟩) hS ?_)
        (try simp only [Act.put])
        (refine wpAnyH_take (i := 7) (v := .int .i64 (r3.2.1 : Int)) rfl (by kernel_rfl) (by kernel_rfl) (by kernel_rfl) (fun _ _ _ h => h) (Or.inl ⟨by kernel_rfl, fun w hSw => by go_simp⟩) hS ?_)
        (try simp only [Act.put])
        (refine wpAnyH_take (i := 8) (v := .int .i64 r3.2.2) rfl (by kernel_rfl) (by kernel_rfl) (by kernel_rfl) (fun _ _ _ h => h) (Or.inl ⟨by kernel_rfl, fun w hSw => by go_simp⟩) hS ?_)
        (try simp only [Act.put])
        refine wpAnyH_ready (rs := [10]) (by decide +kernel) (by simp) (AllReadyH.cons rfl (fun K hK => ?_) AllReadyH.nil)
        go_simp
        refine hK.out _ _ (HCB.out.far) (fun hS => ?_)
        clear hK K
        (try simp only [Act.put])
        (refine wpAnyH_take (i := 11) (v := .int .i64 (r3.2.1 : Int)) rfl (by kernel_rfl) (by kernel_rfl) (by kernel_rfl) (fun _ _ _ h => h) (Or.inl ⟨by kernel_rfl, fun w hSw => by go_simp⟩) hS ?_)
        (try simp only [Act.put])
        (refine wpAnyH_take (i := 12) (v := .int .i64 r3.2.2) rfl (by kernel_rfl) (by kernel_rfl) (by kernel_rfl) (fun _ _ _ h => h) (Or.inl ⟨by kernel_rfl, fun w hSw => by go_simp⟩) hS ?_)
        (try simp only [Act.put])
        refine wpAnyH_done (by kernel_rfl) ?_ _
        clear hS hst
        go_simp
        go_wp2_with fail
        go_meet
        exact ⟨g9, rfl, rfl, rfl, HCB⟩
    case rest =>
      obtain ⟨g3, rfl, rfl, rfl, HK3⟩ := hcut
      obtain ⟨w9, rfl⟩ : ∃ w9, w9 = wc := ⟨_, rfl⟩
      have HB9 := Lib.hid (HB7.out.trans (HK3.out.far.mono HB7.out.size))
      have HK9 := Lib.hid (HK7.out.call HK3.out.far)
      have HL9 := Lib.hid (HLR.out w9 HB9.out)
      have k9 := (HC.out w9 HB9.out).2
      have HSA : Hid (∀ w', Below w9.heap.size w9 w' → ∃ A1 c1 A3 c3, (ldCf (.pointer (some ⟨w4.heap.size, 0, none⟩))).run Tryd.prog w' = .ok (.agg (cfgV r1.1.1 A1 r1.1.2.length c1)) w' ∧ (ldCf (.pointer (some ⟨g3, 0, none⟩))).run Tryd.prog w' = .ok (.agg (cfgV r3.1.1 A3 r3.1.2.length c3)) w' ∧ Calls Tryd.prog 8 #[.agg (cfgV r3.1.1 A3 r3.1.2.length c3), .agg (cfgV r1.1.1 A1 r1.1.2.length c1)] w' fun e w'' => e = .returned (.bool true) ∧ Below w'.heap.size w' w'') := Lib.hid (fun w' hb => by
        obtain ⟨A1, c1, hb1, hm1⟩ := (HK9.out.call hb).box
        obtain ⟨A3, c3, hb3, hm3⟩ := (HK3.out.call hb).box
        refine ⟨A1, c1, A3, c3, hb1.l_cf, hb3.l_cf, ?_⟩
        have hlen : r1.1.2.length ≤ maxLen := Nat.le_trans HLEN.out (by simp [maxLen])
        have h := same_any8 r3.1.1 r3.1.2 A3 c3 r1.1.1 r1.1.2 A1 c1 (by rw [HEQ.out]; exact hlen) hlen w' hm3 hm1
        rw [HEQ.out] at h ⊢
        have e : sameB r1.1.1 r1.1.2 r1.1.1 r1.1.2 = true := by unfold sameB; simp
        rw [e] at h
        exact h)
      clear HK3 HK9 HK7 HC HLR HB7 HEQ HBX2 HMM2 HC3 HML
      go_wp2
      clear k9
      have m3 : (r3.2.2 == 0) = true := by rw [HX3.out]; rfl
      go_loopw [16, 17, 96] (fun ev hv i wr => ∃ (k : Nat) (E : Int) (M : List MemX) (hh : Int), k ≤ ls.length ∧ ev = .int .i64 E ∧ hv = .int .i64 hh ∧ i = .int .i64 (k : Int) ∧ Hid (Below w9.heap.size w9 wr) ∧ Hid ((walkN E M hh k ((ls.map LkM.x).drop k)).2.2 = 0)) (fun _ _ i _ => ls.length - (intOf i).toNat)
      case atStart => exact ⟨0, ep, ms, 0, Nat.zero_le _, rfl, rfl, rfl, Lib.hid (Below.refl _ _), HWK⟩
      case round =>
        obtain ⟨k, E, M, hh, hk, rfl, rfl, rfl, HW, HI⟩ := hrel
        by_cases hlt : k < ls.length
        rotate_left
        · have i1 : ¬ (k : Int) < (ls.length : Int) := by omega
          obtain ⟨A1, c1, A3, c3, l1, l3, hsm⟩ := HSA.out wr HW.out
          have HSM2 := Lib.hid hsm
          clear hsm HI HSA
          go_wp2_with (go_at_call 8; (with_reducible refine (HSM2.out).mono ?_); rintro e wz ⟨rfl, hb⟩; have HBZ := Lib.hid (HW.out.trans (hb.mono HW.out.size)); clear hb)
          go_ret
          exact ⟨rfl, HF.out.trans ((HB9.out.trans (HBZ.out.mono HB9.out.size)).mono HF.out.size)⟩
        have i1 : (k : Int) < (ls.length : Int) := by omega
        have i0 : (0 : Int) ≤ (k : Int) := by omega
        obtain ⟨g, o, hA, hll⟩ := row_link (HL9.out.call HW.out).row hlt
        have lk := hll wr (Below.refl _ _)
        have hst1 : (walkN E M hh k ((ls[k]'hlt).x :: (ls.map LkM.x).drop (k + 1))).2.2 = 0 := by
          have h := HI.out
          rw [List.drop_eq_getElem_cons (by rw [List.length_map]; exact hlt), List.getElem_map] at h
          exact h
        obtain ⟨⟨q1, q2, q3, _⟩, q5, _⟩ := walkN_step hst1
        have HI2 := Lib.hid q5
        have HLT := Lib.hid hlt
        clear hll HI hst1 q5 hk
        rw [hA]
        generalize ls[k]'hlt = l at *
        obtain ⟨w8, hst8, hb8, hbl8⟩ := laid_lk wr l
        have hav := al_lk wr
        have HW8 := Lib.hid (HW.out.trans (hbl8.mono HW.out.size))
        have d0 : w8.cell? ⟨wr.heap.size, 0, none⟩ = some (.int .i64 l.b.x.epoch) := Box.lk_0 hb8
        have d1 : w8.cell? ⟨wr.heap.size, 1, none⟩ = some (.int .i64 l.b.x.height) := Box.lk_1 hb8
        have d2 : w8.cell? ⟨wr.heap.size, 101, none⟩ = some (.int .i64 l.ep) := Box.lk_101 l.b.cells_len hb8
        have wk : IntKind.i64.wrap ((k : Int) + 1) = ((k + 1 : Nat) : Int) := by rw [IntKind.wrap_i64]; have := HLN.out; omega
        have q1' : hh < l.b.x.height := q1
        have q2' : E < l.ep := q2
        have q3' : l.b.x.epoch = E := q3
        have HI3 : Hid ((walkN l.ep l.ms l.b.x.height (k + 1) ((ls.map LkM.x).drop (k + 1))).2.2 = 0) := HI2
        clear hb8 hbl8 q1 q2 q3 HI2 HW hlt
        have e1 : decide (l.ep ≤ E) = false := decide_eq_false (by omega)
        have e2 : decide (l.b.x.height ≤ hh) = false := decide_eq_false (by omega)
        have e3 : (l.b.x.epoch != E) = false := by rw [q3']; simp
        clear q1' q2' q3'
        generalize l.b.x.height = h9 at *
        generalize l.ep = p9 at *
        generalize l.b.x.epoch = n9 at *
        generalize l.ms = m9 at *
        generalize l.cells.toArray = LC at *
        go_upto_region 18 with fail
        clear hst8 hav lk e1 e2 e3 d0
        go_quiet (fail)
        have HF2 := Lib.hid (HW8.out.trans ((below_drewN (Below.refl w8.heap.size w8) nq).mono HW8.out.size))
        clear d1 d2 HW8
        generalize w8.drewN nq = w5 at *
        go_wp2
        go_roundw
        case rel => exact ⟨k + 1, p9, m9, h9, HLT.out, rfl, rfl, by go_num, HF2, HI3⟩
        case measure => have := HLT.out; simp [intOf]; omega
end Go.Proofs.YtbclepdcngaonaaDoor
