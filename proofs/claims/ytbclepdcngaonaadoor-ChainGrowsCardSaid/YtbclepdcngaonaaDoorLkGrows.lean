/-
  ChainGrows: the walk. Written by gen_lkgrows.py.
-/
import Derived.Test.YtbclepdcngaonaaDoorLkGreat
import Derived.Test.YtbclepdcngaonaaDoorLkAlive
import Derived.Test.YtbclepdcngaonaaDoorLkTwice
import Derived.Test.YtbclepdcngaonaaDoorCA
namespace Go.Proofs.YtbclepdcngaonaaDoor
open Go.RowKit Go.Maps Go.Sort

set_option maxRecDepth 100000 in
theorem last15 {ls : List LkM} {n : Nat} (h : n + 1 = ls.length) (hlt : n < ls.length) (y : LkX) (hy : (ls.map LkM.x).getLast? = some y) : (ls[n]'hlt).b.x.height = y.b.height := by
  rw [List.getLast?_eq_getElem?, List.length_map, ← h, Nat.add_sub_cancel, List.getElem?_map, List.getElem?_eq_getElem hlt] at hy
  injection hy with hy
  rw [← hy]
  rfl

attribute [local go_sem ↓] ldCf_def stCf_def ldLk_def stLk_def alCf15_def bsT_def apAll_def
set_option maxRecDepth 100000 in
set_option maxHeartbeats 16000000 in
theorem grows_walk15 (ms : List MemX) (ep : Int) (AM : Option Addr) (cM : Nat) (ls : List LkM) (hlim : ∀ l ∈ ls, LkLim l) (A : Option Addr) (c : Nat) (l : LkM) (hlim1 : LkLim l) (w : World) (hM : Mems w w.heap.size AM ms) (hL : LksSee w A ls) (hl : LkSee w l) (hR : Roots w) :
    Calls Tryd.prog 4 #[.agg (cfgV ep AM ms.length cM), .slice A ls.length c, .agg l.cells.toArray] w fun e w' => e = .returned (.bool true) ∧ Below w.heap.size w w' := by
  obtain ⟨w1, hw1⟩ : ∃ w1, w1 = (w.alloc (.cells (cfgV ep AM ms.length cM) 24)).alloc (.cells l.cells.toArray 40) := ⟨_, rfl⟩
  have hX : Box w1 w.heap.size 24 (cfgV ep AM ms.length cM) := by rw [hw1]; exact (Box.made w _ _).alloc _
  have hY : Box w1 (w.heap.size + 1) 40 (lkL l.b.cells l.r (.slice l.A l.vs.length l.c) l.ep (.slice l.M l.ms.length l.m)).toArray := by rw [hw1]; exact Box.made_at (by simp) _ _
  have HF : Hid (Below w.heap.size w w1) := by rw [hw1]; exact ((Below.refl _ _).alloc (Nat.le_refl _) _).alloc (by simp) _
  have HC : Hid (∀ w', Below w1.heap.size w1 w' → (ldCf (.pointer (some ⟨w.heap.size, 0, none⟩))).run Tryd.prog w' = .ok (.agg (cfgV ep AM ms.length cM)) w' ∧ (ldLk (.pointer (some ⟨w.heap.size + 1, 0, none⟩))).run Tryd.prog w' = .ok (.agg l.cells.toArray) w' ∧ (ldCf (.pointer (some ⟨w.heap.size + 1, 101, none⟩))).run Tryd.prog w' = .ok (.agg (cfgV l.ep l.M l.ms.length l.m)) w') := Lib.hid (fun w' hb => by
    have hx := hX.below hb hX.lt
    have hy := hY.below hb hY.lt
    exact ⟨hx.l_cf, Box.ld_lk hy, hy.lk_cf l.b.cells_len⟩)
  have HR1 := Lib.hid (hR.of_below HF.out)
  have HL1 := Lib.hid (hL.call HF.out)
  have HM1 := Lib.hid (hM.far HF.out)
  have Hl1 := Lib.hid (hl.call HF.out)
  have HAL := Lib.hid (alive_any15 w1 HR1.out)
  have HGR : Hid (∀ w', Below w1.heap.size w1 w' → Calls Tryd.prog 6 #[.agg (cfgV ep AM ms.length cM), .slice A ls.length c] w' (GreatL ms ls w')) := Lib.hid (fun w' hb => lgreat_any ms ep AM cM ls hlim A c w' (HL1.out.call hb))
  have HGL : Hid (∀ w', Below w1.heap.size w1 w' → Calls Tryd.prog 6 #[.agg (cfgV ep AM ms.length cM), .slice (some ⟨w'.heap.size, 0, none⟩) 1 1] (w'.alloc (.cells l.cells.toArray 40)) (GreatL ms [l] (w'.alloc (.cells l.cells.toArray 40)))) := Lib.hid (fun w' hb => lgreat_any ms ep AM cM [l] (fun x hx => by rw [List.mem_singleton.1 hx]; exact hlim1) (some ⟨w'.heap.size, 0, none⟩) 1 _ ⟨LkK.see_one w' l, fun x hx => by rw [List.mem_singleton.1 hx]; exact Hl1.out.call (hb.alloc hb.size _)⟩)
  clear hX hY hM hL hl hR hlim hlim1
  generalize hlc : l.cells.toArray = LC at *
  generalize hCF : cfgV ep AM ms.length cM = CF at *
  go_enter Tryd.func4, Tryd.ntmps4
  go_upto_region 1 with fail
  change Code.wp _ _ _ _ ((w.alloc (.cells CF 24)).alloc (.cells LC 40))
  rw [← hw1]
  clear hw1
  go_upto_region 3 with (go_at_call 5; (with_reducible refine (HAL.out).mono ?_); rintro e w2 ⟨rfl, hb⟩; have HB2 := Lib.hid hb; clear hb)
  clear HAL
  have k1 := (HC.out w2 HB2.out).1
  go_wp2_with fail
  refine (HGR.out w2 HB2.out).mono ?_
  rintro e w3 ⟨g, rfl, hg, hb⟩
  have HB3 := Lib.hid (HB2.out.trans (hb.mono HB2.out.size))
  clear hb k1 HB2 HGR
  cases g with
  | true =>
    clear hg
    go_wp2
    go_ret
    exact ⟨rfl, HF.out.trans (HB3.out.mono HF.out.size)⟩
  | false =>
  have HSM := Lib.hid (hg rfl)
  clear hg
  obtain ⟨k1, k2, _⟩ := HC.out w3 HB3.out
  have hbs : (bsT 25 1 #[(0, .agg LC)]).run Tryd.prog w3 = .ok (.slice (some ⟨w3.heap.size, 0, none⟩) 1 1) (w3.alloc (.cells LC 40)) := by
    rw [← hlc]
    exact LkK.build1 l (.agg l.cells.toArray) rfl (by decide) w3
  go_wp2_with fail
  refine (HGL.out w3 HB3.out).mono ?_
  rintro e w4 ⟨g, rfl, hg, hb⟩
  have HB4 : Hid (Below w1.heap.size w1 w4) := Lib.hid ((HB3.out.alloc HB3.out.size _).trans (hb.mono (HB3.out.alloc HB3.out.size _).size))
  clear hb k1 k2 HB3 HGL hbs
  cases g with
  | true =>
    clear hg
    go_wp2
    go_ret
    exact ⟨rfl, HF.out.trans (HB4.out.mono HF.out.size)⟩
  | false =>
  have HSL := Lib.hid ((hg rfl).each l (List.mem_singleton.2 rfl))
  clear hg
  by_cases h5 : 5 < ls.length
  · have e1 : decide ((5 : Int) < (ls.length : Int)) = true := decide_eq_true (by omega)
    go_wp2
    go_ret
    exact ⟨rfl, HF.out.trans (HB4.out.mono HF.out.size)⟩
  have e1 : decide ((5 : Int) < (ls.length : Int)) = false := decide_eq_false (by omega)
  have HL5 : Hid (ls.length ≤ 5) := Lib.hid (by omega)
  clear h5
  have HCK : Hid (∀ w', Below w1.heap.size w1 w' → Calls Tryd.prog 7 #[.agg CF, .slice A ls.length c] w' (ChkIs w' (checkN ep ms (ls.map LkM.x)))) := Lib.hid (fun w' hb => by
    rw [← hCF]
    exact check_any15 ep ms AM cM (by have := HSM.out.mem; omega) ls A c (by have := HSM.out.len; omega) (fun l hl => (HSM.out.each l hl).lk) w' (HM1.out.far hb) (HL1.out.call hb) (HR1.out.of_below hb))
  have HCA : Hid (∀ w', Below w1.heap.size w1 w' → ∀ A9 c9, LkK.See w' w'.heap.size A9 (ls ++ [l]) → Calls Tryd.prog 7 #[.agg CF, .slice A9 (ls.length + 1) c9] w' (ChkIs w' (checkN ep ms (ls.map LkM.x ++ [l.x])))) := Lib.hid (fun w' hb A9 c9 hs => by
    have h := check_any15 ep ms AM cM (by have := HSM.out.mem; omega) (ls ++ [l]) A9 c9 (by have := HSM.out.len; rw [List.length_append]; simp; omega) (fun x hx => by
      rcases List.mem_append.1 hx with hx | hx
      · exact (HSM.out.each x hx).lk
      · rw [List.mem_singleton.1 hx]
        exact HSL.out.lk) w' (HM1.out.far hb) ⟨hs, fun x hx => by
      rcases List.mem_append.1 hx with hx | hx
      · exact (HL1.out.call hb).each x hx
      · rw [List.mem_singleton.1 hx]
        exact Hl1.out.call hb⟩ (HR1.out.of_below hb)
    rw [List.length_append, List.map_append, hCF] at h
    exact h)
  have HST : Hid (∀ w', Below w1.heap.size w1 w' → ∀ (E : Int) (M : List MemX) (B : Option Addr) (d : Nat) (hh : Int), M.length ≤ 1000000 → Mems w' w'.heap.size B M → Calls Tryd.prog 9 #[.agg (cfgV E B M.length d), .int .i64 hh, .agg LC] w' fun e w'' => e = .returned (.int .i64 (stepN E M hh l.x)) ∧ Below w'.heap.size w' w'') := Lib.hid (fun w' hb E M B d hh hm hB => by
    rw [← hlc]
    exact step_any15 E M B d (by omega) hh l HSL.out.lk w' hB (Hl1.out.call hb) (HR1.out.of_below hb))
  have HLR : Hid (∀ w', Below w1.heap.size w1 w' → LkK.See w' w'.heap.size A ls) := Lib.hid (fun w' hb => (HL1.out.call hb).row)
  have HLM : Hid (∀ w', Below w1.heap.size w1 w' → Mems w' w'.heap.size l.M l.ms) := Lib.hid (fun w' hb => (Hl1.out.call hb).mem)
  have hal := al_cf15
  clear HM1 HL1 Hl1 HR1 HSM
  have k1 := (HC.out w4 HB4.out).1
  have hck := HCK.out w4 HB4.out
  generalize hr1 : checkN ep ms (ls.map LkM.x) = r1 at *
  go_upto_region 6 with (go_at_call 7; (with_reducible refine hck.mono ?_); rintro e w6 ⟨A6, c6, rfl, ho6, hb⟩; obtain ⟨w5, hst5, hx5, hbl5, _⟩ := laid_cf w6 (cfgV 0 none 0 0) rfl r1.1.1 A6 r1.1.2.length c6; have HK1 := Lib.hid (CkBox.late hb (EK.Own.see ho6) hx5 hbl5); have HB5 := Lib.hid (HB4.out.trans (HK1.out.far.mono HB4.out.size)); clear hx5 hbl5 hb ho6)
  clear hst5 hck HB4 e1 k1 HCK
  by_cases hx : r1.2.2 = 0
  rotate_left
  · have m1 : (r1.2.2 != 0) = true := by simpa using hx
    go_wp2
    go_ret
    exact ⟨rfl, HF.out.trans (HB5.out.mono HF.out.size)⟩
  have m1 : (r1.2.2 != 0) = false := by rw [hx]; rfl
  obtain ⟨hn, hm10, hgr⟩ := checkN_grow (ep := ep) (ms := ms) (xs := ls.map LkM.x) (by rw [List.length_map]; exact HL5.out) (by rw [hr1]; exact hx)
  rw [hr1, List.length_map] at hn
  rw [hr1] at hm10 hgr
  have HM10 := Lib.hid hm10
  have HGROW := Lib.hid (hgr l.x)
  have HN1 := Lib.hid hn
  clear hgr hm10 hx hn
  go_upto_if 41 with fail
  clear m1
  go_cut [10, 42, 43, 44, 45, 46, 47, 48] (fun hv _ _ _ _ _ _ _ wx => ∃ hh, hv = .int .i64 hh ∧ wx = w5 ∧ Hid ((ls.map LkM.x = [] → hh = 0) ∧ ∀ y, (ls.map LkM.x).getLast? = some y → hh = y.b.height))
  case first =>
    clear HGROW HCA HST HLM HM10
    by_cases h0 : ls.length = 0
    · have m1 : decide ((0 : Int) < (r1.2.1 : Int)) = false := decide_eq_false (by have := HN1.out; omega)
      have m2 : decide (0 < r1.2.1) = false := decide_eq_false (by have := HN1.out; omega)
      have hnil : ls = [] := List.eq_nil_of_length_eq_zero h0
      have HNIL := Lib.hid hnil
      clear h0 hnil
      rw [m2]
      go_wp2_with fail
      go_meet
      exact ⟨0, rfl, rfl, Lib.hid ⟨fun _ => rfl, fun y hy => by rw [HNIL.out] at hy; cases hy⟩⟩
    · obtain ⟨m, hm⟩ : ∃ m, ls.length = m + 1 := ⟨ls.length - 1, by omega⟩
      have m1 : decide ((0 : Int) < (r1.2.1 : Int)) = true := decide_eq_true (by have := HN1.out; omega)
      have m2 : decide (0 < r1.2.1) = true := decide_eq_true (by have := HN1.out; omega)
      have hlt : m < ls.length := by omega
      have ws : IntKind.i64.wrap ((r1.2.1 : Int) - 1) = (m : Int) := by rw [IntKind.wrap_i64]; have := HL5.out; have := HN1.out; omega
      have i1 : (m : Int) < (ls.length : Int) := by omega
      have i0 : (0 : Int) ≤ (m : Int) := by omega
      obtain ⟨g, o, hA, _, hr⟩ := EK.See.range (HLR.out w5 HB5.out) hlt
      have lh : w5.cell? ⟨g, o + m * 103 + 1, none⟩ = some (.int .i64 (ls[m]'hlt).b.x.height) := hr m hlt 1 _ rfl
      have HH : Hid ((ls.map LkM.x = [] → (ls[m]'hlt).b.x.height = 0) ∧ ∀ y, (ls.map LkM.x).getLast? = some y → (ls[m]'hlt).b.x.height = y.b.height) := Lib.hid ⟨fun e => (by have h := congrArg List.length e; rw [List.length_map, hm] at h; cases h), fun y hy => last15 hm.symm hlt y hy⟩
      have hix : (Instr.indexAt 25 (.slice A ls.length c) (.int .i64 (m : Int))).run Tryd.prog w5 = .ok (.pointer (some ⟨g, o + m * 103, none⟩)) w5 := by
        rw [hA]
        have hb : ¬ ((m : Int) + 1 ≤ (m : Int)) := by omega
        rw [hm]
        have i9 : (m : Int) < ((m + 1 : Nat) : Int) := by omega
        go_simp
      generalize (ls[m]'hlt).b.x.height = hh at *
      clear hr h0 hlt hm hA
      rw [m2]
      go_wp2_with fail
      go_meet
      exact ⟨hh, rfl, rfl, HH⟩
  case rest =>
    obtain ⟨hh, rfl, hwc, HH⟩ := hcut
    replace hwc := hwc.symm
    subst hwc
    have HGW := Lib.hid (HGROW.out hh HH.out.1 HH.out.2)
    clear HGROW HH
    generalize hr2 : checkN ep ms (ls.map LkM.x ++ [l.x]) = r2 at *
    clear hr2
    go_upto_region 11 with fail
    subst hlc
    go_cut [11, 12, 13, 49, 50, 51, 52, 53, 54, 55, 56, 57, 58, 59, 60] (fun p n2 f2 _ _ _ _ _ _ _ _ _ _ _ _ wx => ∃ g2, p = .pointer (some ⟨g2, 0, none⟩) ∧ n2 = .int .i64 (r2.2.1 : Int) ∧ f2 = .int .i64 r2.2.2 ∧ Hid (CkBox w5 r2 g2 wx))
    case first =>
      obtain ⟨wd, hwd⟩ : ∃ wd, wd = w5.drew := ⟨_, rfl⟩
      have hbd : Below w5.heap.size w5 wd := by rw [hwd]; exact (Below.refl _ _).drew
      have HD := Lib.hid hbd
      have HDA := Lib.hid (HB5.out.trans (hbd.mono HB5.out.size))
      have HLD := Lib.hid (HLR.out wd HDA.out)
      have HVL : Hid (ls.length < 1000000) := Lib.hid (by have := HL5.out; omega)
      have HT0 := Lib.hid (T15.start wd ls l)
      refine wp_region_held_drew (S := fun w' => Below wd.heap.size wd w') (by kernel_rfl) (by rw [← hwd]; exact Below.refl _ _) (fun hS => ?_)
      rw [← hwd] at hS ⊢
      clear hwd hbd HGW HST HLM HM10 HN1 HK1
      (refine wpAnyH_take (i := 0) (v := .agg CF) rfl (by kernel_rfl) (by kernel_rfl) (by kernel_rfl) (fun _ _ _ h => h) (Or.inl ⟨by kernel_rfl, fun w hSw => by have hc := (HC.out w (HDA.out.trans (hSw.mono HDA.out.size))).1; go_simp⟩) hS ?_)
      (try simp only [Act.put])
      (refine wpAnyH_take (i := 2) (v := .slice A ls.length c) rfl (by kernel_rfl) (by kernel_rfl) (by kernel_rfl) (fun _ _ _ h => h) (Or.inl ⟨by kernel_rfl, fun w hSw => by go_simp⟩) hS ?_)
      (try simp only [Act.put])
      (refine wpAnyH_take (i := 4) (v := .agg l.cells.toArray) rfl (by kernel_rfl) (by kernel_rfl) (by kernel_rfl) (fun _ _ _ h => h) (Or.inl ⟨by kernel_rfl, fun w hSw => by have hc := (HC.out w (HDA.out.trans (hSw.mono HDA.out.size))).2.1; go_simp⟩) hS ?_)
      (try simp only [Act.put])
      refine wpAnyH_ready (rs := [1, 5, 12]) (by decide +kernel) (by simp) (AllReadyH.cons rfl (fun K hK => ?_) (AllReadyH.cons rfl (fun K hK => ?_) (AllReadyH.cons rfl (fun K hK => ?_) AllReadyH.nil)))
      · obtain ⟨x1, g0, hr1, ht1⟩ := HT0.out.lit0
        go_simp
        refine hK.out _ _ (ht1.far) (fun hS => ?_)
        clear hK K
        (try simp only [Act.put])
        have HT1 := Lib.hid ht1
        clear ht1 hr1 HT0
        refine wpAnyH_ready (rs := [3, 5, 12]) (by decide +kernel) (by simp) (AllReadyH.cons rfl (fun K hK => ?_) (AllReadyH.cons rfl (fun K hK => ?_) (AllReadyH.cons rfl (fun K hK => ?_) AllReadyH.nil)))
        · obtain ⟨x2, AB, cB, hr2, ht2⟩ := HT1.out.app3 (A := A) (c := c) HLD.out HVL.out
          go_simp
          refine hK.out _ _ (ht2.far) (fun hS => ?_)
          clear hK K
          (try simp only [Act.put])
          have HT2 := Lib.hid ht2
          clear ht2 hr2 HT1
          refine wpAnyH_ready (rs := [5, 12]) (by decide +kernel) (by simp) (AllReadyH.cons rfl (fun K hK => ?_) (AllReadyH.cons rfl (fun K hK => ?_) AllReadyH.nil))
          · obtain ⟨x3, g8, hr3, ht3⟩ := HT2.out.lit1
            go_simp
            refine hK.out _ _ (ht3.far) (fun hS => ?_)
            clear hK K
            (try simp only [Act.put])
            have HT3 := Lib.hid ht3
            clear ht3 hr3 HT2
            refine wpAnyH_ready (rs := [6, 12]) (by decide +kernel) (by simp) (AllReadyH.cons rfl (fun K hK => ?_) (AllReadyH.cons rfl (fun K hK => ?_) AllReadyH.nil))
            · obtain ⟨x4, A9, c9, hr4, ht4⟩ := HT3.out.app6 HVL.out
              go_simp
              refine hK.out _ _ (ht4.far) (fun hS => ?_)
              clear hK K
              (try simp only [Act.put])
              have HT4 := Lib.hid ht4
              clear ht4 hr4 HT3
              refine wpAnyH_ready (rs := [7, 12]) (by decide +kernel) (by simp) (AllReadyH.cons rfl (fun K hK => ?_) (AllReadyH.cons rfl (fun K hK => ?_) AllReadyH.nil))
              · have hck := HCA.out _ (HDA.out.trans (HT4.out.far.mono HDA.out.size)) A9 c9 (EK.Own.see HT4.out.own)
                go_simp
                (go_at_call 7; (with_reducible refine (hck).mono ?_); rintro e x5 ⟨AR, cR, rfl, ho, hb⟩)
                have ht5 := HT4.out.call hb
                refine hK.out _ _ (ht5.far) (fun hS => ?_)
                clear hK K
                (try simp only [Act.put])
                have HT5 := Lib.hid ht5
                have HO := Lib.hid ho
                clear ht5 hck ho hb HT4
                (refine wpAnyH_take (i := 8) (v := .tuple #[.agg (cfgV r2.1.1 AR r2.1.2.length cR), .int .i64 (r2.2.1 : Int), .int .i64 r2.2.2]) rfl (by kernel_rfl) (by kernel_rfl) (by kernel_rfl) (fun _ _ _ h => h) (Or.inl ⟨by kernel_rfl, fun w hSw => by go_simp⟩) hS ?_)
                (try simp only [Act.put])
                (refine wpAnyH_take (i := 9) (v := .agg (cfgV r2.1.1 AR r2.1.2.length cR)) rfl (by kernel_rfl) (by kernel_rfl) (by kernel_rfl) (fun _ _ _ h => h) (Or.inl ⟨by kernel_rfl, fun w hSw => by go_simp⟩) hS ?_)
                (try simp only [Act.put])
                (refine wpAnyH_take (i := 10) (v := .int .i64 (r2.2.1 : Int)) rfl (by kernel_rfl) (by kernel_rfl) (by kernel_rfl) (fun _ _ _ h => h) (Or.inl ⟨by kernel_rfl, fun w hSw => by go_simp⟩) hS ?_)
                (try simp only [Act.put])
                (refine wpAnyH_take (i := 11) (v := .int .i64 r2.2.2) rfl (by kernel_rfl) (by kernel_rfl) (by kernel_rfl) (fun _ _ _ h => h) (Or.inl ⟨by kernel_rfl, fun w hSw => by go_simp⟩) hS ?_)
                (try simp only [Act.put])
                refine wpAnyH_ready (rs := [12]) (by decide +kernel) (by simp) (AllReadyH.cons rfl (fun K hK => ?_) AllReadyH.nil)
                have ht6 := HT5.out.al
                go_simp
                refine hK.out _ _ (ht6.far) (fun hS => ?_)
                clear hK K
                (try simp only [Act.put])
                have HT6 := Lib.hid ht6
                have HO := Lib.hid (EK.Own.keep HO.out ((Below.refl _ _).alloc (Nat.le_refl _) (.cells (cfgV 0 none 0 0) 24)))
                clear ht6 HT5
                obtain ⟨wz, hst, hb9, hg9⟩ := (HT6.out.bx _ rfl).s_cf rfl r2.1.1 AR r2.1.2.length cR
                have HCB := Lib.hid (CkBox.early (Nat.le_trans HD.out.size (HT6.out.lo _ rfl)) (HD.out.trans (HT6.out.far.mono HD.out.size)) HO.out (HT6.out.bx _ rfl) hb9 hg9)
                refine wpAnyH_ready (rs := [13]) (by decide +kernel) (by simp) (AllReadyH.cons rfl (fun K hK => ?_) AllReadyH.nil)
                go_simp
                refine hK.out _ _ (HT6.out.far.trans (below_only hg9 (HT6.out.lo _ rfl) HT6.out.far.size)) (fun hS => ?_)
                clear hK K
                (try simp only [Act.put])
                (refine wpAnyH_take (i := 14) (v := .int .i64 (r2.2.1 : Int)) rfl (by kernel_rfl) (by kernel_rfl) (by kernel_rfl) (fun _ _ _ h => h) (Or.inl ⟨by kernel_rfl, fun w hSw => by go_simp⟩) hS ?_)
                (try simp only [Act.put])
                (refine wpAnyH_take (i := 15) (v := .int .i64 r2.2.2) rfl (by kernel_rfl) (by kernel_rfl) (by kernel_rfl) (fun _ _ _ h => h) (Or.inl ⟨by kernel_rfl, fun w hSw => by go_simp⟩) hS ?_)
                (try simp only [Act.put])
                refine wpAnyH_done (by kernel_rfl) ?_ _
                clear hS hst hb9 hg9 HT6
                go_simp
                go_wp2_with fail
                go_meet
                exact ⟨_, rfl, rfl, rfl, HCB⟩
              · have ht5 := HT4.out.al
                go_simp
                refine hK.out _ _ (ht5.far) (fun hS => ?_)
                clear hK K
                (try simp only [Act.put])
                have HT5 := Lib.hid ht5
                clear ht5 HT4
                refine wpAnyH_ready (rs := [7]) (by decide +kernel) (by simp) (AllReadyH.cons rfl (fun K hK => ?_) AllReadyH.nil)
                have hck := HCA.out _ (HDA.out.trans (HT5.out.far.mono HDA.out.size)) A9 c9 (EK.Own.see HT5.out.own)
                go_simp
                (go_at_call 7; (with_reducible refine (hck).mono ?_); rintro e x6 ⟨AR, cR, rfl, ho, hb⟩)
                have ht6 := HT5.out.call hb
                refine hK.out _ _ (ht6.far) (fun hS => ?_)
                clear hK K
                (try simp only [Act.put])
                have HT6 := Lib.hid ht6
                have HO := Lib.hid ho
                clear ht6 hck ho hb HT5
                (refine wpAnyH_take (i := 8) (v := .tuple #[.agg (cfgV r2.1.1 AR r2.1.2.length cR), .int .i64 (r2.2.1 : Int), .int .i64 r2.2.2]) rfl (by kernel_rfl) (by kernel_rfl) (by kernel_rfl) (fun _ _ _ h => h) (Or.inl ⟨by kernel_rfl, fun w hSw => by go_simp⟩) hS ?_)
                (try simp only [Act.put])
                (refine wpAnyH_take (i := 9) (v := .agg (cfgV r2.1.1 AR r2.1.2.length cR)) rfl (by kernel_rfl) (by kernel_rfl) (by kernel_rfl) (fun _ _ _ h => h) (Or.inl ⟨by kernel_rfl, fun w hSw => by go_simp⟩) hS ?_)
                (try simp only [Act.put])
                (refine wpAnyH_take (i := 10) (v := .int .i64 (r2.2.1 : Int)) rfl (by kernel_rfl) (by kernel_rfl) (by kernel_rfl) (fun _ _ _ h => h) (Or.inl ⟨by kernel_rfl, fun w hSw => by go_simp⟩) hS ?_)
                (try simp only [Act.put])
                (refine wpAnyH_take (i := 11) (v := .int .i64 r2.2.2) rfl (by kernel_rfl) (by kernel_rfl) (by kernel_rfl) (fun _ _ _ h => h) (Or.inl ⟨by kernel_rfl, fun w hSw => by go_simp⟩) hS ?_)
                (try simp only [Act.put])
                obtain ⟨wz, hst, hb9, hg9⟩ := (HT6.out.bx _ rfl).s_cf rfl r2.1.1 AR r2.1.2.length cR
                have HCB := Lib.hid (CkBox.early (Nat.le_trans HD.out.size (HT6.out.lo _ rfl)) (HD.out.trans (HT6.out.far.mono HD.out.size)) HO.out (HT6.out.bx _ rfl) hb9 hg9)
                refine wpAnyH_ready (rs := [13]) (by decide +kernel) (by simp) (AllReadyH.cons rfl (fun K hK => ?_) AllReadyH.nil)
                go_simp
                refine hK.out _ _ (HT6.out.far.trans (below_only hg9 (HT6.out.lo _ rfl) HT6.out.far.size)) (fun hS => ?_)
                clear hK K
                (try simp only [Act.put])
                (refine wpAnyH_take (i := 14) (v := .int .i64 (r2.2.1 : Int)) rfl (by kernel_rfl) (by kernel_rfl) (by kernel_rfl) (fun _ _ _ h => h) (Or.inl ⟨by kernel_rfl, fun w hSw => by go_simp⟩) hS ?_)
                (try simp only [Act.put])
                (refine wpAnyH_take (i := 15) (v := .int .i64 r2.2.2) rfl (by kernel_rfl) (by kernel_rfl) (by kernel_rfl) (fun _ _ _ h => h) (Or.inl ⟨by kernel_rfl, fun w hSw => by go_simp⟩) hS ?_)
                (try simp only [Act.put])
                refine wpAnyH_done (by kernel_rfl) ?_ _
                clear hS hst hb9 hg9 HT6
                go_simp
                go_wp2_with fail
                go_meet
                exact ⟨_, rfl, rfl, rfl, HCB⟩
            · have ht4 := HT3.out.al
              go_simp
              refine hK.out _ _ (ht4.far) (fun hS => ?_)
              clear hK K
              (try simp only [Act.put])
              have HT4 := Lib.hid ht4
              clear ht4 HT3
              refine wpAnyH_ready (rs := [6]) (by decide +kernel) (by simp) (AllReadyH.cons rfl (fun K hK => ?_) AllReadyH.nil)
              obtain ⟨x5, A9, c9, hr5, ht5⟩ := HT4.out.app6 HVL.out
              go_simp
              refine hK.out _ _ (ht5.far) (fun hS => ?_)
              clear hK K
              (try simp only [Act.put])
              have HT5 := Lib.hid ht5
              clear ht5 hr5 HT4
              refine wpAnyH_ready (rs := [7]) (by decide +kernel) (by simp) (AllReadyH.cons rfl (fun K hK => ?_) AllReadyH.nil)
              have hck := HCA.out _ (HDA.out.trans (HT5.out.far.mono HDA.out.size)) A9 c9 (EK.Own.see HT5.out.own)
              go_simp
              (go_at_call 7; (with_reducible refine (hck).mono ?_); rintro e x6 ⟨AR, cR, rfl, ho, hb⟩)
              have ht6 := HT5.out.call hb
              refine hK.out _ _ (ht6.far) (fun hS => ?_)
              clear hK K
              (try simp only [Act.put])
              have HT6 := Lib.hid ht6
              have HO := Lib.hid ho
              clear ht6 hck ho hb HT5
              (refine wpAnyH_take (i := 8) (v := .tuple #[.agg (cfgV r2.1.1 AR r2.1.2.length cR), .int .i64 (r2.2.1 : Int), .int .i64 r2.2.2]) rfl (by kernel_rfl) (by kernel_rfl) (by kernel_rfl) (fun _ _ _ h => h) (Or.inl ⟨by kernel_rfl, fun w hSw => by go_simp⟩) hS ?_)
              (try simp only [Act.put])
              (refine wpAnyH_take (i := 9) (v := .agg (cfgV r2.1.1 AR r2.1.2.length cR)) rfl (by kernel_rfl) (by kernel_rfl) (by kernel_rfl) (fun _ _ _ h => h) (Or.inl ⟨by kernel_rfl, fun w hSw => by go_simp⟩) hS ?_)
              (try simp only [Act.put])
              (refine wpAnyH_take (i := 10) (v := .int .i64 (r2.2.1 : Int)) rfl (by kernel_rfl) (by kernel_rfl) (by kernel_rfl) (fun _ _ _ h => h) (Or.inl ⟨by kernel_rfl, fun w hSw => by go_simp⟩) hS ?_)
              (try simp only [Act.put])
              (refine wpAnyH_take (i := 11) (v := .int .i64 r2.2.2) rfl (by kernel_rfl) (by kernel_rfl) (by kernel_rfl) (fun _ _ _ h => h) (Or.inl ⟨by kernel_rfl, fun w hSw => by go_simp⟩) hS ?_)
              (try simp only [Act.put])
              obtain ⟨wz, hst, hb9, hg9⟩ := (HT6.out.bx _ rfl).s_cf rfl r2.1.1 AR r2.1.2.length cR
              have HCB := Lib.hid (CkBox.early (Nat.le_trans HD.out.size (HT6.out.lo _ rfl)) (HD.out.trans (HT6.out.far.mono HD.out.size)) HO.out (HT6.out.bx _ rfl) hb9 hg9)
              refine wpAnyH_ready (rs := [13]) (by decide +kernel) (by simp) (AllReadyH.cons rfl (fun K hK => ?_) AllReadyH.nil)
              go_simp
              refine hK.out _ _ (HT6.out.far.trans (below_only hg9 (HT6.out.lo _ rfl) HT6.out.far.size)) (fun hS => ?_)
              clear hK K
              (try simp only [Act.put])
              (refine wpAnyH_take (i := 14) (v := .int .i64 (r2.2.1 : Int)) rfl (by kernel_rfl) (by kernel_rfl) (by kernel_rfl) (fun _ _ _ h => h) (Or.inl ⟨by kernel_rfl, fun w hSw => by go_simp⟩) hS ?_)
              (try simp only [Act.put])
              (refine wpAnyH_take (i := 15) (v := .int .i64 r2.2.2) rfl (by kernel_rfl) (by kernel_rfl) (by kernel_rfl) (fun _ _ _ h => h) (Or.inl ⟨by kernel_rfl, fun w hSw => by go_simp⟩) hS ?_)
              (try simp only [Act.put])
              refine wpAnyH_done (by kernel_rfl) ?_ _
              clear hS hst hb9 hg9 HT6
              go_simp
              go_wp2_with fail
              go_meet
              exact ⟨_, rfl, rfl, rfl, HCB⟩
          · have ht3 := HT2.out.al
            go_simp
            refine hK.out _ _ (ht3.far) (fun hS => ?_)
            clear hK K
            (try simp only [Act.put])
            have HT3 := Lib.hid ht3
            clear ht3 HT2
            refine wpAnyH_ready (rs := [5]) (by decide +kernel) (by simp) (AllReadyH.cons rfl (fun K hK => ?_) AllReadyH.nil)
            obtain ⟨x4, g8, hr4, ht4⟩ := HT3.out.lit1
            go_simp
            refine hK.out _ _ (ht4.far) (fun hS => ?_)
            clear hK K
            (try simp only [Act.put])
            have HT4 := Lib.hid ht4
            clear ht4 hr4 HT3
            refine wpAnyH_ready (rs := [6]) (by decide +kernel) (by simp) (AllReadyH.cons rfl (fun K hK => ?_) AllReadyH.nil)
            obtain ⟨x5, A9, c9, hr5, ht5⟩ := HT4.out.app6 HVL.out
            go_simp
            refine hK.out _ _ (ht5.far) (fun hS => ?_)
            clear hK K
            (try simp only [Act.put])
            have HT5 := Lib.hid ht5
            clear ht5 hr5 HT4
            refine wpAnyH_ready (rs := [7]) (by decide +kernel) (by simp) (AllReadyH.cons rfl (fun K hK => ?_) AllReadyH.nil)
            have hck := HCA.out _ (HDA.out.trans (HT5.out.far.mono HDA.out.size)) A9 c9 (EK.Own.see HT5.out.own)
            go_simp
            (go_at_call 7; (with_reducible refine (hck).mono ?_); rintro e x6 ⟨AR, cR, rfl, ho, hb⟩)
            have ht6 := HT5.out.call hb
            refine hK.out _ _ (ht6.far) (fun hS => ?_)
            clear hK K
            (try simp only [Act.put])
            have HT6 := Lib.hid ht6
            have HO := Lib.hid ho
            clear ht6 hck ho hb HT5
            (refine wpAnyH_take (i := 8) (v := .tuple #[.agg (cfgV r2.1.1 AR r2.1.2.length cR), .int .i64 (r2.2.1 : Int), .int .i64 r2.2.2]) rfl (by kernel_rfl) (by kernel_rfl) (by kernel_rfl) (fun _ _ _ h => h) (Or.inl ⟨by kernel_rfl, fun w hSw => by go_simp⟩) hS ?_)
            (try simp only [Act.put])
            (refine wpAnyH_take (i := 9) (v := .agg (cfgV r2.1.1 AR r2.1.2.length cR)) rfl (by kernel_rfl) (by kernel_rfl) (by kernel_rfl) (fun _ _ _ h => h) (Or.inl ⟨by kernel_rfl, fun w hSw => by go_simp⟩) hS ?_)
            (try simp only [Act.put])
            (refine wpAnyH_take (i := 10) (v := .int .i64 (r2.2.1 : Int)) rfl (by kernel_rfl) (by kernel_rfl) (by kernel_rfl) (fun _ _ _ h => h) (Or.inl ⟨by kernel_rfl, fun w hSw => by go_simp⟩) hS ?_)
            (try simp only [Act.put])
            (refine wpAnyH_take (i := 11) (v := .int .i64 r2.2.2) rfl (by kernel_rfl) (by kernel_rfl) (by kernel_rfl) (fun _ _ _ h => h) (Or.inl ⟨by kernel_rfl, fun w hSw => by go_simp⟩) hS ?_)
            (try simp only [Act.put])
            obtain ⟨wz, hst, hb9, hg9⟩ := (HT6.out.bx _ rfl).s_cf rfl r2.1.1 AR r2.1.2.length cR
            have HCB := Lib.hid (CkBox.early (Nat.le_trans HD.out.size (HT6.out.lo _ rfl)) (HD.out.trans (HT6.out.far.mono HD.out.size)) HO.out (HT6.out.bx _ rfl) hb9 hg9)
            refine wpAnyH_ready (rs := [13]) (by decide +kernel) (by simp) (AllReadyH.cons rfl (fun K hK => ?_) AllReadyH.nil)
            go_simp
            refine hK.out _ _ (HT6.out.far.trans (below_only hg9 (HT6.out.lo _ rfl) HT6.out.far.size)) (fun hS => ?_)
            clear hK K
            (try simp only [Act.put])
            (refine wpAnyH_take (i := 14) (v := .int .i64 (r2.2.1 : Int)) rfl (by kernel_rfl) (by kernel_rfl) (by kernel_rfl) (fun _ _ _ h => h) (Or.inl ⟨by kernel_rfl, fun w hSw => by go_simp⟩) hS ?_)
            (try simp only [Act.put])
            (refine wpAnyH_take (i := 15) (v := .int .i64 r2.2.2) rfl (by kernel_rfl) (by kernel_rfl) (by kernel_rfl) (fun _ _ _ h => h) (Or.inl ⟨by kernel_rfl, fun w hSw => by go_simp⟩) hS ?_)
            (try simp only [Act.put])
            refine wpAnyH_done (by kernel_rfl) ?_ _
            clear hS hst hb9 hg9 HT6
            go_simp
            go_wp2_with fail
            go_meet
            exact ⟨_, rfl, rfl, rfl, HCB⟩
        · obtain ⟨x2, g8, hr2, ht2⟩ := HT1.out.lit1
          go_simp
          refine hK.out _ _ (ht2.far) (fun hS => ?_)
          clear hK K
          (try simp only [Act.put])
          have HT2 := Lib.hid ht2
          clear ht2 hr2 HT1
          refine wpAnyH_ready (rs := [3, 12]) (by decide +kernel) (by simp) (AllReadyH.cons rfl (fun K hK => ?_) (AllReadyH.cons rfl (fun K hK => ?_) AllReadyH.nil))
          · obtain ⟨x3, AB, cB, hr3, ht3⟩ := HT2.out.app3 (A := A) (c := c) HLD.out HVL.out
            go_simp
            refine hK.out _ _ (ht3.far) (fun hS => ?_)
            clear hK K
            (try simp only [Act.put])
            have HT3 := Lib.hid ht3
            clear ht3 hr3 HT2
            refine wpAnyH_ready (rs := [6, 12]) (by decide +kernel) (by simp) (AllReadyH.cons rfl (fun K hK => ?_) (AllReadyH.cons rfl (fun K hK => ?_) AllReadyH.nil))
            · obtain ⟨x4, A9, c9, hr4, ht4⟩ := HT3.out.app6 HVL.out
              go_simp
              refine hK.out _ _ (ht4.far) (fun hS => ?_)
              clear hK K
              (try simp only [Act.put])
              have HT4 := Lib.hid ht4
              clear ht4 hr4 HT3
              refine wpAnyH_ready (rs := [7, 12]) (by decide +kernel) (by simp) (AllReadyH.cons rfl (fun K hK => ?_) (AllReadyH.cons rfl (fun K hK => ?_) AllReadyH.nil))
              · have hck := HCA.out _ (HDA.out.trans (HT4.out.far.mono HDA.out.size)) A9 c9 (EK.Own.see HT4.out.own)
                go_simp
                (go_at_call 7; (with_reducible refine (hck).mono ?_); rintro e x5 ⟨AR, cR, rfl, ho, hb⟩)
                have ht5 := HT4.out.call hb
                refine hK.out _ _ (ht5.far) (fun hS => ?_)
                clear hK K
                (try simp only [Act.put])
                have HT5 := Lib.hid ht5
                have HO := Lib.hid ho
                clear ht5 hck ho hb HT4
                (refine wpAnyH_take (i := 8) (v := .tuple #[.agg (cfgV r2.1.1 AR r2.1.2.length cR), .int .i64 (r2.2.1 : Int), .int .i64 r2.2.2]) rfl (by kernel_rfl) (by kernel_rfl) (by kernel_rfl) (fun _ _ _ h => h) (Or.inl ⟨by kernel_rfl, fun w hSw => by go_simp⟩) hS ?_)
                (try simp only [Act.put])
                (refine wpAnyH_take (i := 9) (v := .agg (cfgV r2.1.1 AR r2.1.2.length cR)) rfl (by kernel_rfl) (by kernel_rfl) (by kernel_rfl) (fun _ _ _ h => h) (Or.inl ⟨by kernel_rfl, fun w hSw => by go_simp⟩) hS ?_)
                (try simp only [Act.put])
                (refine wpAnyH_take (i := 10) (v := .int .i64 (r2.2.1 : Int)) rfl (by kernel_rfl) (by kernel_rfl) (by kernel_rfl) (fun _ _ _ h => h) (Or.inl ⟨by kernel_rfl, fun w hSw => by go_simp⟩) hS ?_)
                (try simp only [Act.put])
                (refine wpAnyH_take (i := 11) (v := .int .i64 r2.2.2) rfl (by kernel_rfl) (by kernel_rfl) (by kernel_rfl) (fun _ _ _ h => h) (Or.inl ⟨by kernel_rfl, fun w hSw => by go_simp⟩) hS ?_)
                (try simp only [Act.put])
                refine wpAnyH_ready (rs := [12]) (by decide +kernel) (by simp) (AllReadyH.cons rfl (fun K hK => ?_) AllReadyH.nil)
                have ht6 := HT5.out.al
                go_simp
                refine hK.out _ _ (ht6.far) (fun hS => ?_)
                clear hK K
                (try simp only [Act.put])
                have HT6 := Lib.hid ht6
                have HO := Lib.hid (EK.Own.keep HO.out ((Below.refl _ _).alloc (Nat.le_refl _) (.cells (cfgV 0 none 0 0) 24)))
                clear ht6 HT5
                obtain ⟨wz, hst, hb9, hg9⟩ := (HT6.out.bx _ rfl).s_cf rfl r2.1.1 AR r2.1.2.length cR
                have HCB := Lib.hid (CkBox.early (Nat.le_trans HD.out.size (HT6.out.lo _ rfl)) (HD.out.trans (HT6.out.far.mono HD.out.size)) HO.out (HT6.out.bx _ rfl) hb9 hg9)
                refine wpAnyH_ready (rs := [13]) (by decide +kernel) (by simp) (AllReadyH.cons rfl (fun K hK => ?_) AllReadyH.nil)
                go_simp
                refine hK.out _ _ (HT6.out.far.trans (below_only hg9 (HT6.out.lo _ rfl) HT6.out.far.size)) (fun hS => ?_)
                clear hK K
                (try simp only [Act.put])
                (refine wpAnyH_take (i := 14) (v := .int .i64 (r2.2.1 : Int)) rfl (by kernel_rfl) (by kernel_rfl) (by kernel_rfl) (fun _ _ _ h => h) (Or.inl ⟨by kernel_rfl, fun w hSw => by go_simp⟩) hS ?_)
                (try simp only [Act.put])
                (refine wpAnyH_take (i := 15) (v := .int .i64 r2.2.2) rfl (by kernel_rfl) (by kernel_rfl) (by kernel_rfl) (fun _ _ _ h => h) (Or.inl ⟨by kernel_rfl, fun w hSw => by go_simp⟩) hS ?_)
                (try simp only [Act.put])
                refine wpAnyH_done (by kernel_rfl) ?_ _
                clear hS hst hb9 hg9 HT6
                go_simp
                go_wp2_with fail
                go_meet
                exact ⟨_, rfl, rfl, rfl, HCB⟩
              · have ht5 := HT4.out.al
                go_simp
                refine hK.out _ _ (ht5.far) (fun hS => ?_)
                clear hK K
                (try simp only [Act.put])
                have HT5 := Lib.hid ht5
                clear ht5 HT4
                refine wpAnyH_ready (rs := [7]) (by decide +kernel) (by simp) (AllReadyH.cons rfl (fun K hK => ?_) AllReadyH.nil)
                have hck := HCA.out _ (HDA.out.trans (HT5.out.far.mono HDA.out.size)) A9 c9 (EK.Own.see HT5.out.own)
                go_simp
                (go_at_call 7; (with_reducible refine (hck).mono ?_); rintro e x6 ⟨AR, cR, rfl, ho, hb⟩)
                have ht6 := HT5.out.call hb
                refine hK.out _ _ (ht6.far) (fun hS => ?_)
                clear hK K
                (try simp only [Act.put])
                have HT6 := Lib.hid ht6
                have HO := Lib.hid ho
                clear ht6 hck ho hb HT5
                (refine wpAnyH_take (i := 8) (v := .tuple #[.agg (cfgV r2.1.1 AR r2.1.2.length cR), .int .i64 (r2.2.1 : Int), .int .i64 r2.2.2]) rfl (by kernel_rfl) (by kernel_rfl) (by kernel_rfl) (fun _ _ _ h => h) (Or.inl ⟨by kernel_rfl, fun w hSw => by go_simp⟩) hS ?_)
                (try simp only [Act.put])
                (refine wpAnyH_take (i := 9) (v := .agg (cfgV r2.1.1 AR r2.1.2.length cR)) rfl (by kernel_rfl) (by kernel_rfl) (by kernel_rfl) (fun _ _ _ h => h) (Or.inl ⟨by kernel_rfl, fun w hSw => by go_simp⟩) hS ?_)
                (try simp only [Act.put])
                (refine wpAnyH_take (i := 10) (v := .int .i64 (r2.2.1 : Int)) rfl (by kernel_rfl) (by kernel_rfl) (by kernel_rfl) (fun _ _ _ h => h) (Or.inl ⟨by kernel_rfl, fun w hSw => by go_simp⟩) hS ?_)
                (try simp only [Act.put])
                (refine wpAnyH_take (i := 11) (v := .int .i64 r2.2.2) rfl (by kernel_rfl) (by kernel_rfl) (by kernel_rfl) (fun _ _ _ h => h) (Or.inl ⟨by kernel_rfl, fun w hSw => by go_simp⟩) hS ?_)
                (try simp only [Act.put])
                obtain ⟨wz, hst, hb9, hg9⟩ := (HT6.out.bx _ rfl).s_cf rfl r2.1.1 AR r2.1.2.length cR
                have HCB := Lib.hid (CkBox.early (Nat.le_trans HD.out.size (HT6.out.lo _ rfl)) (HD.out.trans (HT6.out.far.mono HD.out.size)) HO.out (HT6.out.bx _ rfl) hb9 hg9)
                refine wpAnyH_ready (rs := [13]) (by decide +kernel) (by simp) (AllReadyH.cons rfl (fun K hK => ?_) AllReadyH.nil)
                go_simp
                refine hK.out _ _ (HT6.out.far.trans (below_only hg9 (HT6.out.lo _ rfl) HT6.out.far.size)) (fun hS => ?_)
                clear hK K
                (try simp only [Act.put])
                (refine wpAnyH_take (i := 14) (v := .int .i64 (r2.2.1 : Int)) rfl (by kernel_rfl) (by kernel_rfl) (by kernel_rfl) (fun _ _ _ h => h) (Or.inl ⟨by kernel_rfl, fun w hSw => by go_simp⟩) hS ?_)
                (try simp only [Act.put])
                (refine wpAnyH_take (i := 15) (v := .int .i64 r2.2.2) rfl (by kernel_rfl) (by kernel_rfl) (by kernel_rfl) (fun _ _ _ h => h) (Or.inl ⟨by kernel_rfl, fun w hSw => by go_simp⟩) hS ?_)
                (try simp only [Act.put])
                refine wpAnyH_done (by kernel_rfl) ?_ _
                clear hS hst hb9 hg9 HT6
                go_simp
                go_wp2_with fail
                go_meet
                exact ⟨_, rfl, rfl, rfl, HCB⟩
            · have ht4 := HT3.out.al
              go_simp
              refine hK.out _ _ (ht4.far) (fun hS => ?_)
              clear hK K
              (try simp only [Act.put])
              have HT4 := Lib.hid ht4
              clear ht4 HT3
              refine wpAnyH_ready (rs := [6]) (by decide +kernel) (by simp) (AllReadyH.cons rfl (fun K hK => ?_) AllReadyH.nil)
              obtain ⟨x5, A9, c9, hr5, ht5⟩ := HT4.out.app6 HVL.out
              go_simp
              refine hK.out _ _ (ht5.far) (fun hS => ?_)
              clear hK K
              (try simp only [Act.put])
              have HT5 := Lib.hid ht5
              clear ht5 hr5 HT4
              refine wpAnyH_ready (rs := [7]) (by decide +kernel) (by simp) (AllReadyH.cons rfl (fun K hK => ?_) AllReadyH.nil)
              have hck := HCA.out _ (HDA.out.trans (HT5.out.far.mono HDA.out.size)) A9 c9 (EK.Own.see HT5.out.own)
              go_simp
              (go_at_call 7; (with_reducible refine (hck).mono ?_); rintro e x6 ⟨AR, cR, rfl, ho, hb⟩)
              have ht6 := HT5.out.call hb
              refine hK.out _ _ (ht6.far) (fun hS => ?_)
              clear hK K
              (try simp only [Act.put])
              have HT6 := Lib.hid ht6
              have HO := Lib.hid ho
              clear ht6 hck ho hb HT5
              (refine wpAnyH_take (i := 8) (v := .tuple #[.agg (cfgV r2.1.1 AR r2.1.2.length cR), .int .i64 (r2.2.1 : Int), .int .i64 r2.2.2]) rfl (by kernel_rfl) (by kernel_rfl) (by kernel_rfl) (fun _ _ _ h => h) (Or.inl ⟨by kernel_rfl, fun w hSw => by go_simp⟩) hS ?_)
              (try simp only [Act.put])
              (refine wpAnyH_take (i := 9) (v := .agg (cfgV r2.1.1 AR r2.1.2.length cR)) rfl (by kernel_rfl) (by kernel_rfl) (by kernel_rfl) (fun _ _ _ h => h) (Or.inl ⟨by kernel_rfl, fun w hSw => by go_simp⟩) hS ?_)
              (try simp only [Act.put])
              (refine wpAnyH_take (i := 10) (v := .int .i64 (r2.2.1 : Int)) rfl (by kernel_rfl) (by kernel_rfl) (by kernel_rfl) (fun _ _ _ h => h) (Or.inl ⟨by kernel_rfl, fun w hSw => by go_simp⟩) hS ?_)
              (try simp only [Act.put])
              (refine wpAnyH_take (i := 11) (v := .int .i64 r2.2.2) rfl (by kernel_rfl) (by kernel_rfl) (by kernel_rfl) (fun _ _ _ h => h) (Or.inl ⟨by kernel_rfl, fun w hSw => by go_simp⟩) hS ?_)
              (try simp only [Act.put])
              obtain ⟨wz, hst, hb9, hg9⟩ := (HT6.out.bx _ rfl).s_cf rfl r2.1.1 AR r2.1.2.length cR
              have HCB := Lib.hid (CkBox.early (Nat.le_trans HD.out.size (HT6.out.lo _ rfl)) (HD.out.trans (HT6.out.far.mono HD.out.size)) HO.out (HT6.out.bx _ rfl) hb9 hg9)
              refine wpAnyH_ready (rs := [13]) (by decide +kernel) (by simp) (AllReadyH.cons rfl (fun K hK => ?_) AllReadyH.nil)
              go_simp
              refine hK.out _ _ (HT6.out.far.trans (below_only hg9 (HT6.out.lo _ rfl) HT6.out.far.size)) (fun hS => ?_)
              clear hK K
              (try simp only [Act.put])
              (refine wpAnyH_take (i := 14) (v := .int .i64 (r2.2.1 : Int)) rfl (by kernel_rfl) (by kernel_rfl) (by kernel_rfl) (fun _ _ _ h => h) (Or.inl ⟨by kernel_rfl, fun w hSw => by go_simp⟩) hS ?_)
              (try simp only [Act.put])
              (refine wpAnyH_take (i := 15) (v := .int .i64 r2.2.2) rfl (by kernel_rfl) (by kernel_rfl) (by kernel_rfl) (fun _ _ _ h => h) (Or.inl ⟨by kernel_rfl, fun w hSw => by go_simp⟩) hS ?_)
              (try simp only [Act.put])
              refine wpAnyH_done (by kernel_rfl) ?_ _
              clear hS hst hb9 hg9 HT6
              go_simp
              go_wp2_with fail
              go_meet
              exact ⟨_, rfl, rfl, rfl, HCB⟩
          · have ht3 := HT2.out.al
            go_simp
            refine hK.out _ _ (ht3.far) (fun hS => ?_)
            clear hK K
            (try simp only [Act.put])
            have HT3 := Lib.hid ht3
            clear ht3 HT2
            refine wpAnyH_ready (rs := [3]) (by decide +kernel) (by simp) (AllReadyH.cons rfl (fun K hK => ?_) AllReadyH.nil)
            obtain ⟨x4, AB, cB, hr4, ht4⟩ := HT3.out.app3 (A := A) (c := c) HLD.out HVL.out
            go_simp
            refine hK.out _ _ (ht4.far) (fun hS => ?_)
            clear hK K
            (try simp only [Act.put])
            have HT4 := Lib.hid ht4
            clear ht4 hr4 HT3
            refine wpAnyH_ready (rs := [6]) (by decide +kernel) (by simp) (AllReadyH.cons rfl (fun K hK => ?_) AllReadyH.nil)
            obtain ⟨x5, A9, c9, hr5, ht5⟩ := HT4.out.app6 HVL.out
            go_simp
            refine hK.out _ _ (ht5.far) (fun hS => ?_)
            clear hK K
            (try simp only [Act.put])
            have HT5 := Lib.hid ht5
            clear ht5 hr5 HT4
            refine wpAnyH_ready (rs := [7]) (by decide +kernel) (by simp) (AllReadyH.cons rfl (fun K hK => ?_) AllReadyH.nil)
            have hck := HCA.out _ (HDA.out.trans (HT5.out.far.mono HDA.out.size)) A9 c9 (EK.Own.see HT5.out.own)
            go_simp
            (go_at_call 7; (with_reducible refine (hck).mono ?_); rintro e x6 ⟨AR, cR, rfl, ho, hb⟩)
            have ht6 := HT5.out.call hb
            refine hK.out _ _ (ht6.far) (fun hS => ?_)
            clear hK K
            (try simp only [Act.put])
            have HT6 := Lib.hid ht6
            have HO := Lib.hid ho
            clear ht6 hck ho hb HT5
            (refine wpAnyH_take (i := 8) (v := .tuple #[.agg (cfgV r2.1.1 AR r2.1.2.length cR), .int .i64 (r2.2.1 : Int), .int .i64 r2.2.2]) rfl (by kernel_rfl) (by kernel_rfl) (by kernel_rfl) (fun _ _ _ h => h) (Or.inl ⟨by kernel_rfl, fun w hSw => by go_simp⟩) hS ?_)
            (try simp only [Act.put])
            (refine wpAnyH_take (i := 9) (v := .agg (cfgV r2.1.1 AR r2.1.2.length cR)) rfl (by kernel_rfl) (by kernel_rfl) (by kernel_rfl) (fun _ _ _ h => h) (Or.inl ⟨by kernel_rfl, fun w hSw => by go_simp⟩) hS ?_)
            (try simp only [Act.put])
            (refine wpAnyH_take (i := 10) (v := .int .i64 (r2.2.1 : Int)) rfl (by kernel_rfl) (by kernel_rfl) (by kernel_rfl) (fun _ _ _ h => h) (Or.inl ⟨by kernel_rfl, fun w hSw => by go_simp⟩) hS ?_)
            (try simp only [Act.put])
            (refine wpAnyH_take (i := 11) (v := .int .i64 r2.2.2) rfl (by kernel_rfl) (by kernel_rfl) (by kernel_rfl) (fun _ _ _ h => h) (Or.inl ⟨by kernel_rfl, fun w hSw => by go_simp⟩) hS ?_)
            (try simp only [Act.put])
            obtain ⟨wz, hst, hb9, hg9⟩ := (HT6.out.bx _ rfl).s_cf rfl r2.1.1 AR r2.1.2.length cR
            have HCB := Lib.hid (CkBox.early (Nat.le_trans HD.out.size (HT6.out.lo _ rfl)) (HD.out.trans (HT6.out.far.mono HD.out.size)) HO.out (HT6.out.bx _ rfl) hb9 hg9)
            refine wpAnyH_ready (rs := [13]) (by decide +kernel) (by simp) (AllReadyH.cons rfl (fun K hK => ?_) AllReadyH.nil)
            go_simp
            refine hK.out _ _ (HT6.out.far.trans (below_only hg9 (HT6.out.lo _ rfl) HT6.out.far.size)) (fun hS => ?_)
            clear hK K
            (try simp only [Act.put])
            (refine wpAnyH_take (i := 14) (v := .int .i64 (r2.2.1 : Int)) rfl (by kernel_rfl) (by kernel_rfl) (by kernel_rfl) (fun _ _ _ h => h) (Or.inl ⟨by kernel_rfl, fun w hSw => by go_simp⟩) hS ?_)
            (try simp only [Act.put])
            (refine wpAnyH_take (i := 15) (v := .int .i64 r2.2.2) rfl (by kernel_rfl) (by kernel_rfl) (by kernel_rfl) (fun _ _ _ h => h) (Or.inl ⟨by kernel_rfl, fun w hSw => by go_simp⟩) hS ?_)
            (try simp only [Act.put])
            refine wpAnyH_done (by kernel_rfl) ?_ _
            clear hS hst hb9 hg9 HT6
            go_simp
            go_wp2_with fail
            go_meet
            exact ⟨_, rfl, rfl, rfl, HCB⟩
        · have ht2 := HT1.out.al
          go_simp
          refine hK.out _ _ (ht2.far) (fun hS => ?_)
          clear hK K
          (try simp only [Act.put])
          have HT2 := Lib.hid ht2
          clear ht2 HT1
          refine wpAnyH_ready (rs := [3, 5]) (by decide +kernel) (by simp) (AllReadyH.cons rfl (fun K hK => ?_) (AllReadyH.cons rfl (fun K hK => ?_) AllReadyH.nil))
          · obtain ⟨x3, AB, cB, hr3, ht3⟩ := HT2.out.app3 (A := A) (c := c) HLD.out HVL.out
            go_simp
            refine hK.out _ _ (ht3.far) (fun hS => ?_)
            clear hK K
            (try simp only [Act.put])
            have HT3 := Lib.hid ht3
            clear ht3 hr3 HT2
            refine wpAnyH_ready (rs := [5]) (by decide +kernel) (by simp) (AllReadyH.cons rfl (fun K hK => ?_) AllReadyH.nil)
            obtain ⟨x4, g8, hr4, ht4⟩ := HT3.out.lit1
            go_simp
            refine hK.out _ _ (ht4.far) (fun hS => ?_)
            clear hK K
            (try simp only [Act.put])
            have HT4 := Lib.hid ht4
            clear ht4 hr4 HT3
            refine wpAnyH_ready (rs := [6]) (by decide +kernel) (by simp) (AllReadyH.cons rfl (fun K hK => ?_) AllReadyH.nil)
            obtain ⟨x5, A9, c9, hr5, ht5⟩ := HT4.out.app6 HVL.out
            go_simp
            refine hK.out _ _ (ht5.far) (fun hS => ?_)
            clear hK K
            (try simp only [Act.put])
            have HT5 := Lib.hid ht5
            clear ht5 hr5 HT4
            refine wpAnyH_ready (rs := [7]) (by decide +kernel) (by simp) (AllReadyH.cons rfl (fun K hK => ?_) AllReadyH.nil)
            have hck := HCA.out _ (HDA.out.trans (HT5.out.far.mono HDA.out.size)) A9 c9 (EK.Own.see HT5.out.own)
            go_simp
            (go_at_call 7; (with_reducible refine (hck).mono ?_); rintro e x6 ⟨AR, cR, rfl, ho, hb⟩)
            have ht6 := HT5.out.call hb
            refine hK.out _ _ (ht6.far) (fun hS => ?_)
            clear hK K
            (try simp only [Act.put])
            have HT6 := Lib.hid ht6
            have HO := Lib.hid ho
            clear ht6 hck ho hb HT5
            (refine wpAnyH_take (i := 8) (v := .tuple #[.agg (cfgV r2.1.1 AR r2.1.2.length cR), .int .i64 (r2.2.1 : Int), .int .i64 r2.2.2]) rfl (by kernel_rfl) (by kernel_rfl) (by kernel_rfl) (fun _ _ _ h => h) (Or.inl ⟨by kernel_rfl, fun w hSw => by go_simp⟩) hS ?_)
            (try simp only [Act.put])
            (refine wpAnyH_take (i := 9) (v := .agg (cfgV r2.1.1 AR r2.1.2.length cR)) rfl (by kernel_rfl) (by kernel_rfl) (by kernel_rfl) (fun _ _ _ h => h) (Or.inl ⟨by kernel_rfl, fun w hSw => by go_simp⟩) hS ?_)
            (try simp only [Act.put])
            (refine wpAnyH_take (i := 10) (v := .int .i64 (r2.2.1 : Int)) rfl (by kernel_rfl) (by kernel_rfl) (by kernel_rfl) (fun _ _ _ h => h) (Or.inl ⟨by kernel_rfl, fun w hSw => by go_simp⟩) hS ?_)
            (try simp only [Act.put])
            (refine wpAnyH_take (i := 11) (v := .int .i64 r2.2.2) rfl (by kernel_rfl) (by kernel_rfl) (by kernel_rfl) (fun _ _ _ h => h) (Or.inl ⟨by kernel_rfl, fun w hSw => by go_simp⟩) hS ?_)
            (try simp only [Act.put])
            obtain ⟨wz, hst, hb9, hg9⟩ := (HT6.out.bx _ rfl).s_cf rfl r2.1.1 AR r2.1.2.length cR
            have HCB := Lib.hid (CkBox.early (Nat.le_trans HD.out.size (HT6.out.lo _ rfl)) (HD.out.trans (HT6.out.far.mono HD.out.size)) HO.out (HT6.out.bx _ rfl) hb9 hg9)
            refine wpAnyH_ready (rs := [13]) (by decide +kernel) (by simp) (AllReadyH.cons rfl (fun K hK => ?_) AllReadyH.nil)
            go_simp
            refine hK.out _ _ (HT6.out.far.trans (below_only hg9 (HT6.out.lo _ rfl) HT6.out.far.size)) (fun hS => ?_)
            clear hK K
            (try simp only [Act.put])
            (refine wpAnyH_take (i := 14) (v := .int .i64 (r2.2.1 : Int)) rfl (by kernel_rfl) (by kernel_rfl) (by kernel_rfl) (fun _ _ _ h => h) (Or.inl ⟨by kernel_rfl, fun w hSw => by go_simp⟩) hS ?_)
            (try simp only [Act.put])
            (refine wpAnyH_take (i := 15) (v := .int .i64 r2.2.2) rfl (by kernel_rfl) (by kernel_rfl) (by kernel_rfl) (fun _ _ _ h => h) (Or.inl ⟨by kernel_rfl, fun w hSw => by go_simp⟩) hS ?_)
            (try simp only [Act.put])
            refine wpAnyH_done (by kernel_rfl) ?_ _
            clear hS hst hb9 hg9 HT6
            go_simp
            go_wp2_with fail
            go_meet
            exact ⟨_, rfl, rfl, rfl, HCB⟩
          · obtain ⟨x3, g8, hr3, ht3⟩ := HT2.out.lit1
            go_simp
            refine hK.out _ _ (ht3.far) (fun hS => ?_)
            clear hK K
            (try simp only [Act.put])
            have HT3 := Lib.hid ht3
            clear ht3 hr3 HT2
            refine wpAnyH_ready (rs := [3]) (by decide +kernel) (by simp) (AllReadyH.cons rfl (fun K hK => ?_) AllReadyH.nil)
            obtain ⟨x4, AB, cB, hr4, ht4⟩ := HT3.out.app3 (A := A) (c := c) HLD.out HVL.out
            go_simp
            refine hK.out _ _ (ht4.far) (fun hS => ?_)
            clear hK K
            (try simp only [Act.put])
            have HT4 := Lib.hid ht4
            clear ht4 hr4 HT3
            refine wpAnyH_ready (rs := [6]) (by decide +kernel) (by simp) (AllReadyH.cons rfl (fun K hK => ?_) AllReadyH.nil)
            obtain ⟨x5, A9, c9, hr5, ht5⟩ := HT4.out.app6 HVL.out
            go_simp
            refine hK.out _ _ (ht5.far) (fun hS => ?_)
            clear hK K
            (try simp only [Act.put])
            have HT5 := Lib.hid ht5
            clear ht5 hr5 HT4
            refine wpAnyH_ready (rs := [7]) (by decide +kernel) (by simp) (AllReadyH.cons rfl (fun K hK => ?_) AllReadyH.nil)
            have hck := HCA.out _ (HDA.out.trans (HT5.out.far.mono HDA.out.size)) A9 c9 (EK.Own.see HT5.out.own)
            go_simp
            (go_at_call 7; (with_reducible refine (hck).mono ?_); rintro e x6 ⟨AR, cR, rfl, ho, hb⟩)
            have ht6 := HT5.out.call hb
            refine hK.out _ _ (ht6.far) (fun hS => ?_)
            clear hK K
            (try simp only [Act.put])
            have HT6 := Lib.hid ht6
            have HO := Lib.hid ho
            clear ht6 hck ho hb HT5
            (refine wpAnyH_take (i := 8) (v := .tuple #[.agg (cfgV r2.1.1 AR r2.1.2.length cR), .int .i64 (r2.2.1 : Int), .int .i64 r2.2.2]) rfl (by kernel_rfl) (by kernel_rfl) (by kernel_rfl) (fun _ _ _ h => h) (Or.inl ⟨by kernel_rfl, fun w hSw => by go_simp⟩) hS ?_)
            (try simp only [Act.put])
            (refine wpAnyH_take (i := 9) (v := .agg (cfgV r2.1.1 AR r2.1.2.length cR)) rfl (by kernel_rfl) (by kernel_rfl) (by kernel_rfl) (fun _ _ _ h => h) (Or.inl ⟨by kernel_rfl, fun w hSw => by go_simp⟩) hS ?_)
            (try simp only [Act.put])
            (refine wpAnyH_take (i := 10) (v := .int .i64 (r2.2.1 : Int)) rfl (by kernel_rfl) (by kernel_rfl) (by kernel_rfl) (fun _ _ _ h => h) (Or.inl ⟨by kernel_rfl, fun w hSw => by go_simp⟩) hS ?_)
            (try simp only [Act.put])
            (refine wpAnyH_take (i := 11) (v := .int .i64 r2.2.2) rfl (by kernel_rfl) (by kernel_rfl) (by kernel_rfl) (fun _ _ _ h => h) (Or.inl ⟨by kernel_rfl, fun w hSw => by go_simp⟩) hS ?_)
            (try simp only [Act.put])
            obtain ⟨wz, hst, hb9, hg9⟩ := (HT6.out.bx _ rfl).s_cf rfl r2.1.1 AR r2.1.2.length cR
            have HCB := Lib.hid (CkBox.early (Nat.le_trans HD.out.size (HT6.out.lo _ rfl)) (HD.out.trans (HT6.out.far.mono HD.out.size)) HO.out (HT6.out.bx _ rfl) hb9 hg9)
            refine wpAnyH_ready (rs := [13]) (by decide +kernel) (by simp) (AllReadyH.cons rfl (fun K hK => ?_) AllReadyH.nil)
            go_simp
            refine hK.out _ _ (HT6.out.far.trans (below_only hg9 (HT6.out.lo _ rfl) HT6.out.far.size)) (fun hS => ?_)
            clear hK K
            (try simp only [Act.put])
            (refine wpAnyH_take (i := 14) (v := .int .i64 (r2.2.1 : Int)) rfl (by kernel_rfl) (by kernel_rfl) (by kernel_rfl) (fun _ _ _ h => h) (Or.inl ⟨by kernel_rfl, fun w hSw => by go_simp⟩) hS ?_)
            (try simp only [Act.put])
            (refine wpAnyH_take (i := 15) (v := .int .i64 r2.2.2) rfl (by kernel_rfl) (by kernel_rfl) (by kernel_rfl) (fun _ _ _ h => h) (Or.inl ⟨by kernel_rfl, fun w hSw => by go_simp⟩) hS ?_)
            (try simp only [Act.put])
            refine wpAnyH_done (by kernel_rfl) ?_ _
            clear hS hst hb9 hg9 HT6
            go_simp
            go_wp2_with fail
            go_meet
            exact ⟨_, rfl, rfl, rfl, HCB⟩
      · obtain ⟨x1, g8, hr1, ht1⟩ := HT0.out.lit1
        go_simp
        refine hK.out _ _ (ht1.far) (fun hS => ?_)
        clear hK K
        (try simp only [Act.put])
        have HT1 := Lib.hid ht1
        clear ht1 hr1 HT0
        refine wpAnyH_ready (rs := [1, 12]) (by decide +kernel) (by simp) (AllReadyH.cons rfl (fun K hK => ?_) (AllReadyH.cons rfl (fun K hK => ?_) AllReadyH.nil))
        · obtain ⟨x2, g0, hr2, ht2⟩ := HT1.out.lit0
          go_simp
          refine hK.out _ _ (ht2.far) (fun hS => ?_)
          clear hK K
          (try simp only [Act.put])
          have HT2 := Lib.hid ht2
          clear ht2 hr2 HT1
          refine wpAnyH_ready (rs := [3, 12]) (by decide +kernel) (by simp) (AllReadyH.cons rfl (fun K hK => ?_) (AllReadyH.cons rfl (fun K hK => ?_) AllReadyH.nil))
          · obtain ⟨x3, AB, cB, hr3, ht3⟩ := HT2.out.app3 (A := A) (c := c) HLD.out HVL.out
            go_simp
            refine hK.out _ _ (ht3.far) (fun hS => ?_)
            clear hK K
            (try simp only [Act.put])
            have HT3 := Lib.hid ht3
            clear ht3 hr3 HT2
            refine wpAnyH_ready (rs := [6, 12]) (by decide +kernel) (by simp) (AllReadyH.cons rfl (fun K hK => ?_) (AllReadyH.cons rfl (fun K hK => ?_) AllReadyH.nil))
            · obtain ⟨x4, A9, c9, hr4, ht4⟩ := HT3.out.app6 HVL.out
              go_simp
              refine hK.out _ _ (ht4.far) (fun hS => ?_)
              clear hK K
              (try simp only [Act.put])
              have HT4 := Lib.hid ht4
              clear ht4 hr4 HT3
              refine wpAnyH_ready (rs := [7, 12]) (by decide +kernel) (by simp) (AllReadyH.cons rfl (fun K hK => ?_) (AllReadyH.cons rfl (fun K hK => ?_) AllReadyH.nil))
              · have hck := HCA.out _ (HDA.out.trans (HT4.out.far.mono HDA.out.size)) A9 c9 (EK.Own.see HT4.out.own)
                go_simp
                (go_at_call 7; (with_reducible refine (hck).mono ?_); rintro e x5 ⟨AR, cR, rfl, ho, hb⟩)
                have ht5 := HT4.out.call hb
                refine hK.out _ _ (ht5.far) (fun hS => ?_)
                clear hK K
                (try simp only [Act.put])
                have HT5 := Lib.hid ht5
                have HO := Lib.hid ho
                clear ht5 hck ho hb HT4
                (refine wpAnyH_take (i := 8) (v := .tuple #[.agg (cfgV r2.1.1 AR r2.1.2.length cR), .int .i64 (r2.2.1 : Int), .int .i64 r2.2.2]) rfl (by kernel_rfl) (by kernel_rfl) (by kernel_rfl) (fun _ _ _ h => h) (Or.inl ⟨by kernel_rfl, fun w hSw => by go_simp⟩) hS ?_)
                (try simp only [Act.put])
                (refine wpAnyH_take (i := 9) (v := .agg (cfgV r2.1.1 AR r2.1.2.length cR)) rfl (by kernel_rfl) (by kernel_rfl) (by kernel_rfl) (fun _ _ _ h => h) (Or.inl ⟨by kernel_rfl, fun w hSw => by go_simp⟩) hS ?_)
                (try simp only [Act.put])
                (refine wpAnyH_take (i := 10) (v := .int .i64 (r2.2.1 : Int)) rfl (by kernel_rfl) (by kernel_rfl) (by kernel_rfl) (fun _ _ _ h => h) (Or.inl ⟨by kernel_rfl, fun w hSw => by go_simp⟩) hS ?_)
                (try simp only [Act.put])
                (refine wpAnyH_take (i := 11) (v := .int .i64 r2.2.2) rfl (by kernel_rfl) (by kernel_rfl) (by kernel_rfl) (fun _ _ _ h => h) (Or.inl ⟨by kernel_rfl, fun w hSw => by go_simp⟩) hS ?_)
                (try simp only [Act.put])
                refine wpAnyH_ready (rs := [12]) (by decide +kernel) (by simp) (AllReadyH.cons rfl (fun K hK => ?_) AllReadyH.nil)
                have ht6 := HT5.out.al
                go_simp
                refine hK.out _ _ (ht6.far) (fun hS => ?_)
                clear hK K
                (try simp only [Act.put])
                have HT6 := Lib.hid ht6
                have HO := Lib.hid (EK.Own.keep HO.out ((Below.refl _ _).alloc (Nat.le_refl _) (.cells (cfgV 0 none 0 0) 24)))
                clear ht6 HT5
                obtain ⟨wz, hst, hb9, hg9⟩ := (HT6.out.bx _ rfl).s_cf rfl r2.1.1 AR r2.1.2.length cR
                have HCB := Lib.hid (CkBox.early (Nat.le_trans HD.out.size (HT6.out.lo _ rfl)) (HD.out.trans (HT6.out.far.mono HD.out.size)) HO.out (HT6.out.bx _ rfl) hb9 hg9)
                refine wpAnyH_ready (rs := [13]) (by decide +kernel) (by simp) (AllReadyH.cons rfl (fun K hK => ?_) AllReadyH.nil)
                go_simp
                refine hK.out _ _ (HT6.out.far.trans (below_only hg9 (HT6.out.lo _ rfl) HT6.out.far.size)) (fun hS => ?_)
                clear hK K
                (try simp only [Act.put])
                (refine wpAnyH_take (i := 14) (v := .int .i64 (r2.2.1 : Int)) rfl (by kernel_rfl) (by kernel_rfl) (by kernel_rfl) (fun _ _ _ h => h) (Or.inl ⟨by kernel_rfl, fun w hSw => by go_simp⟩) hS ?_)
                (try simp only [Act.put])
                (refine wpAnyH_take (i := 15) (v := .int .i64 r2.2.2) rfl (by kernel_rfl) (by kernel_rfl) (by kernel_rfl) (fun _ _ _ h => h) (Or.inl ⟨by kernel_rfl, fun w hSw => by go_simp⟩) hS ?_)
                (try simp only [Act.put])
                refine wpAnyH_done (by kernel_rfl) ?_ _
                clear hS hst hb9 hg9 HT6
                go_simp
                go_wp2_with fail
                go_meet
                exact ⟨_, rfl, rfl, rfl, HCB⟩
              · have ht5 := HT4.out.al
                go_simp
                refine hK.out _ _ (ht5.far) (fun hS => ?_)
                clear hK K
                (try simp only [Act.put])
                have HT5 := Lib.hid ht5
                clear ht5 HT4
                refine wpAnyH_ready (rs := [7]) (by decide +kernel) (by simp) (AllReadyH.cons rfl (fun K hK => ?_) AllReadyH.nil)
                have hck := HCA.out _ (HDA.out.trans (HT5.out.far.mono HDA.out.size)) A9 c9 (EK.Own.see HT5.out.own)
                go_simp
                (go_at_call 7; (with_reducible refine (hck).mono ?_); rintro e x6 ⟨AR, cR, rfl, ho, hb⟩)
                have ht6 := HT5.out.call hb
                refine hK.out _ _ (ht6.far) (fun hS => ?_)
                clear hK K
                (try simp only [Act.put])
                have HT6 := Lib.hid ht6
                have HO := Lib.hid ho
                clear ht6 hck ho hb HT5
                (refine wpAnyH_take (i := 8) (v := .tuple #[.agg (cfgV r2.1.1 AR r2.1.2.length cR), .int .i64 (r2.2.1 : Int), .int .i64 r2.2.2]) rfl (by kernel_rfl) (by kernel_rfl) (by kernel_rfl) (fun _ _ _ h => h) (Or.inl ⟨by kernel_rfl, fun w hSw => by go_simp⟩) hS ?_)
                (try simp only [Act.put])
                (refine wpAnyH_take (i := 9) (v := .agg (cfgV r2.1.1 AR r2.1.2.length cR)) rfl (by kernel_rfl) (by kernel_rfl) (by kernel_rfl) (fun _ _ _ h => h) (Or.inl ⟨by kernel_rfl, fun w hSw => by go_simp⟩) hS ?_)
                (try simp only [Act.put])
                (refine wpAnyH_take (i := 10) (v := .int .i64 (r2.2.1 : Int)) rfl (by kernel_rfl) (by kernel_rfl) (by kernel_rfl) (fun _ _ _ h => h) (Or.inl ⟨by kernel_rfl, fun w hSw => by go_simp⟩) hS ?_)
                (try simp only [Act.put])
                (refine wpAnyH_take (i := 11) (v := .int .i64 r2.2.2) rfl (by kernel_rfl) (by kernel_rfl) (by kernel_rfl) (fun _ _ _ h => h) (Or.inl ⟨by kernel_rfl, fun w hSw => by go_simp⟩) hS ?_)
                (try simp only [Act.put])
                obtain ⟨wz, hst, hb9, hg9⟩ := (HT6.out.bx _ rfl).s_cf rfl r2.1.1 AR r2.1.2.length cR
                have HCB := Lib.hid (CkBox.early (Nat.le_trans HD.out.size (HT6.out.lo _ rfl)) (HD.out.trans (HT6.out.far.mono HD.out.size)) HO.out (HT6.out.bx _ rfl) hb9 hg9)
                refine wpAnyH_ready (rs := [13]) (by decide +kernel) (by simp) (AllReadyH.cons rfl (fun K hK => ?_) AllReadyH.nil)
                go_simp
                refine hK.out _ _ (HT6.out.far.trans (below_only hg9 (HT6.out.lo _ rfl) HT6.out.far.size)) (fun hS => ?_)
                clear hK K
                (try simp only [Act.put])
                (refine wpAnyH_take (i := 14) (v := .int .i64 (r2.2.1 : Int)) rfl (by kernel_rfl) (by kernel_rfl) (by kernel_rfl) (fun _ _ _ h => h) (Or.inl ⟨by kernel_rfl, fun w hSw => by go_simp⟩) hS ?_)
                (try simp only [Act.put])
                (refine wpAnyH_take (i := 15) (v := .int .i64 r2.2.2) rfl (by kernel_rfl) (by kernel_rfl) (by kernel_rfl) (fun _ _ _ h => h) (Or.inl ⟨by kernel_rfl, fun w hSw => by go_simp⟩) hS ?_)
                (try simp only [Act.put])
                refine wpAnyH_done (by kernel_rfl) ?_ _
                clear hS hst hb9 hg9 HT6
                go_simp
                go_wp2_with fail
                go_meet
                exact ⟨_, rfl, rfl, rfl, HCB⟩
            · have ht4 := HT3.out.al
              go_simp
              refine hK.out _ _ (ht4.far) (fun hS => ?_)
              clear hK K
              (try simp only [Act.put])
              have HT4 := Lib.hid ht4
              clear ht4 HT3
              refine wpAnyH_ready (rs := [6]) (by decide +kernel) (by simp) (AllReadyH.cons rfl (fun K hK => ?_) AllReadyH.nil)
              obtain ⟨x5, A9, c9, hr5, ht5⟩ := HT4.out.app6 HVL.out
              go_simp
              refine hK.out _ _ (ht5.far) (fun hS => ?_)
              clear hK K
              (try simp only [Act.put])
              have HT5 := Lib.hid ht5
              clear ht5 hr5 HT4
              refine wpAnyH_ready (rs := [7]) (by decide +kernel) (by simp) (AllReadyH.cons rfl (fun K hK => ?_) AllReadyH.nil)
              have hck := HCA.out _ (HDA.out.trans (HT5.out.far.mono HDA.out.size)) A9 c9 (EK.Own.see HT5.out.own)
              go_simp
              (go_at_call 7; (with_reducible refine (hck).mono ?_); rintro e x6 ⟨AR, cR, rfl, ho, hb⟩)
              have ht6 := HT5.out.call hb
              refine hK.out _ _ (ht6.far) (fun hS => ?_)
              clear hK K
              (try simp only [Act.put])
              have HT6 := Lib.hid ht6
              have HO := Lib.hid ho
              clear ht6 hck ho hb HT5
              (refine wpAnyH_take (i := 8) (v := .tuple #[.agg (cfgV r2.1.1 AR r2.1.2.length cR), .int .i64 (r2.2.1 : Int), .int .i64 r2.2.2]) rfl (by kernel_rfl) (by kernel_rfl) (by kernel_rfl) (fun _ _ _ h => h) (Or.inl ⟨by kernel_rfl, fun w hSw => by go_simp⟩) hS ?_)
              (try simp only [Act.put])
              (refine wpAnyH_take (i := 9) (v := .agg (cfgV r2.1.1 AR r2.1.2.length cR)) rfl (by kernel_rfl) (by kernel_rfl) (by kernel_rfl) (fun _ _ _ h => h) (Or.inl ⟨by kernel_rfl, fun w hSw => by go_simp⟩) hS ?_)
              (try simp only [Act.put])
              (refine wpAnyH_take (i := 10) (v := .int .i64 (r2.2.1 : Int)) rfl (by kernel_rfl) (by kernel_rfl) (by kernel_rfl) (fun _ _ _ h => h) (Or.inl ⟨by kernel_rfl, fun w hSw => by go_simp⟩) hS ?_)
              (try simp only [Act.put])
              (refine wpAnyH_take (i := 11) (v := .int .i64 r2.2.2) rfl (by kernel_rfl) (by kernel_rfl) (by kernel_rfl) (fun _ _ _ h => h) (Or.inl ⟨by kernel_rfl, fun w hSw => by go_simp⟩) hS ?_)
              (try simp only [Act.put])
              obtain ⟨wz, hst, hb9, hg9⟩ := (HT6.out.bx _ rfl).s_cf rfl r2.1.1 AR r2.1.2.length cR
              have HCB := Lib.hid (CkBox.early (Nat.le_trans HD.out.size (HT6.out.lo _ rfl)) (HD.out.trans (HT6.out.far.mono HD.out.size)) HO.out (HT6.out.bx _ rfl) hb9 hg9)
              refine wpAnyH_ready (rs := [13]) (by decide +kernel) (by simp) (AllReadyH.cons rfl (fun K hK => ?_) AllReadyH.nil)
              go_simp
              refine hK.out _ _ (HT6.out.far.trans (below_only hg9 (HT6.out.lo _ rfl) HT6.out.far.size)) (fun hS => ?_)
              clear hK K
              (try simp only [Act.put])
              (refine wpAnyH_take (i := 14) (v := .int .i64 (r2.2.1 : Int)) rfl (by kernel_rfl) (by kernel_rfl) (by kernel_rfl) (fun _ _ _ h => h) (Or.inl ⟨by kernel_rfl, fun w hSw => by go_simp⟩) hS ?_)
              (try simp only [Act.put])
              (refine wpAnyH_take (i := 15) (v := .int .i64 r2.2.2) rfl (by kernel_rfl) (by kernel_rfl) (by kernel_rfl) (fun _ _ _ h => h) (Or.inl ⟨by kernel_rfl, fun w hSw => by go_simp⟩) hS ?_)
              (try simp only [Act.put])
              refine wpAnyH_done (by kernel_rfl) ?_ _
              clear hS hst hb9 hg9 HT6
              go_simp
              go_wp2_with fail
              go_meet
              exact ⟨_, rfl, rfl, rfl, HCB⟩
          · have ht3 := HT2.out.al
            go_simp
            refine hK.out _ _ (ht3.far) (fun hS => ?_)
            clear hK K
            (try simp only [Act.put])
            have HT3 := Lib.hid ht3
            clear ht3 HT2
            refine wpAnyH_ready (rs := [3]) (by decide +kernel) (by simp) (AllReadyH.cons rfl (fun K hK => ?_) AllReadyH.nil)
            obtain ⟨x4, AB, cB, hr4, ht4⟩ := HT3.out.app3 (A := A) (c := c) HLD.out HVL.out
            go_simp
            refine hK.out _ _ (ht4.far) (fun hS => ?_)
            clear hK K
            (try simp only [Act.put])
            have HT4 := Lib.hid ht4
            clear ht4 hr4 HT3
            refine wpAnyH_ready (rs := [6]) (by decide +kernel) (by simp) (AllReadyH.cons rfl (fun K hK => ?_) AllReadyH.nil)
            obtain ⟨x5, A9, c9, hr5, ht5⟩ := HT4.out.app6 HVL.out
            go_simp
            refine hK.out _ _ (ht5.far) (fun hS => ?_)
            clear hK K
            (try simp only [Act.put])
            have HT5 := Lib.hid ht5
            clear ht5 hr5 HT4
            refine wpAnyH_ready (rs := [7]) (by decide +kernel) (by simp) (AllReadyH.cons rfl (fun K hK => ?_) AllReadyH.nil)
            have hck := HCA.out _ (HDA.out.trans (HT5.out.far.mono HDA.out.size)) A9 c9 (EK.Own.see HT5.out.own)
            go_simp
            (go_at_call 7; (with_reducible refine (hck).mono ?_); rintro e x6 ⟨AR, cR, rfl, ho, hb⟩)
            have ht6 := HT5.out.call hb
            refine hK.out _ _ (ht6.far) (fun hS => ?_)
            clear hK K
            (try simp only [Act.put])
            have HT6 := Lib.hid ht6
            have HO := Lib.hid ho
            clear ht6 hck ho hb HT5
            (refine wpAnyH_take (i := 8) (v := .tuple #[.agg (cfgV r2.1.1 AR r2.1.2.length cR), .int .i64 (r2.2.1 : Int), .int .i64 r2.2.2]) rfl (by kernel_rfl) (by kernel_rfl) (by kernel_rfl) (fun _ _ _ h => h) (Or.inl ⟨by kernel_rfl, fun w hSw => by go_simp⟩) hS ?_)
            (try simp only [Act.put])
            (refine wpAnyH_take (i := 9) (v := .agg (cfgV r2.1.1 AR r2.1.2.length cR)) rfl (by kernel_rfl) (by kernel_rfl) (by kernel_rfl) (fun _ _ _ h => h) (Or.inl ⟨by kernel_rfl, fun w hSw => by go_simp⟩) hS ?_)
            (try simp only [Act.put])
            (refine wpAnyH_take (i := 10) (v := .int .i64 (r2.2.1 : Int)) rfl (by kernel_rfl) (by kernel_rfl) (by kernel_rfl) (fun _ _ _ h => h) (Or.inl ⟨by kernel_rfl, fun w hSw => by go_simp⟩) hS ?_)
            (try simp only [Act.put])
            (refine wpAnyH_take (i := 11) (v := .int .i64 r2.2.2) rfl (by kernel_rfl) (by kernel_rfl) (by kernel_rfl) (fun _ _ _ h => h) (Or.inl ⟨by kernel_rfl, fun w hSw => by go_simp⟩) hS ?_)
            (try simp only [Act.put])
            obtain ⟨wz, hst, hb9, hg9⟩ := (HT6.out.bx _ rfl).s_cf rfl r2.1.1 AR r2.1.2.length cR
            have HCB := Lib.hid (CkBox.early (Nat.le_trans HD.out.size (HT6.out.lo _ rfl)) (HD.out.trans (HT6.out.far.mono HD.out.size)) HO.out (HT6.out.bx _ rfl) hb9 hg9)
            refine wpAnyH_ready (rs := [13]) (by decide +kernel) (by simp) (AllReadyH.cons rfl (fun K hK => ?_) AllReadyH.nil)
            go_simp
            refine hK.out _ _ (HT6.out.far.trans (below_only hg9 (HT6.out.lo _ rfl) HT6.out.far.size)) (fun hS => ?_)
            clear hK K
            (try simp only [Act.put])
            (refine wpAnyH_take (i := 14) (v := .int .i64 (r2.2.1 : Int)) rfl (by kernel_rfl) (by kernel_rfl) (by kernel_rfl) (fun _ _ _ h => h) (Or.inl ⟨by kernel_rfl, fun w hSw => by go_simp⟩) hS ?_)
            (try simp only [Act.put])
            (refine wpAnyH_take (i := 15) (v := .int .i64 r2.2.2) rfl (by kernel_rfl) (by kernel_rfl) (by kernel_rfl) (fun _ _ _ h => h) (Or.inl ⟨by kernel_rfl, fun w hSw => by go_simp⟩) hS ?_)
            (try simp only [Act.put])
            refine wpAnyH_done (by kernel_rfl) ?_ _
            clear hS hst hb9 hg9 HT6
            go_simp
            go_wp2_with fail
            go_meet
            exact ⟨_, rfl, rfl, rfl, HCB⟩
        · have ht2 := HT1.out.al
          go_simp
          refine hK.out _ _ (ht2.far) (fun hS => ?_)
          clear hK K
          (try simp only [Act.put])
          have HT2 := Lib.hid ht2
          clear ht2 HT1
          refine wpAnyH_ready (rs := [1]) (by decide +kernel) (by simp) (AllReadyH.cons rfl (fun K hK => ?_) AllReadyH.nil)
          obtain ⟨x3, g0, hr3, ht3⟩ := HT2.out.lit0
          go_simp
          refine hK.out _ _ (ht3.far) (fun hS => ?_)
          clear hK K
          (try simp only [Act.put])
          have HT3 := Lib.hid ht3
          clear ht3 hr3 HT2
          refine wpAnyH_ready (rs := [3]) (by decide +kernel) (by simp) (AllReadyH.cons rfl (fun K hK => ?_) AllReadyH.nil)
          obtain ⟨x4, AB, cB, hr4, ht4⟩ := HT3.out.app3 (A := A) (c := c) HLD.out HVL.out
          go_simp
          refine hK.out _ _ (ht4.far) (fun hS => ?_)
          clear hK K
          (try simp only [Act.put])
          have HT4 := Lib.hid ht4
          clear ht4 hr4 HT3
          refine wpAnyH_ready (rs := [6]) (by decide +kernel) (by simp) (AllReadyH.cons rfl (fun K hK => ?_) AllReadyH.nil)
          obtain ⟨x5, A9, c9, hr5, ht5⟩ := HT4.out.app6 HVL.out
          go_simp
          refine hK.out _ _ (ht5.far) (fun hS => ?_)
          clear hK K
          (try simp only [Act.put])
          have HT5 := Lib.hid ht5
          clear ht5 hr5 HT4
          refine wpAnyH_ready (rs := [7]) (by decide +kernel) (by simp) (AllReadyH.cons rfl (fun K hK => ?_) AllReadyH.nil)
          have hck := HCA.out _ (HDA.out.trans (HT5.out.far.mono HDA.out.size)) A9 c9 (EK.Own.see HT5.out.own)
          go_simp
          (go_at_call 7; (with_reducible refine (hck).mono ?_); rintro e x6 ⟨AR, cR, rfl, ho, hb⟩)
          have ht6 := HT5.out.call hb
          refine hK.out _ _ (ht6.far) (fun hS => ?_)
          clear hK K
          (try simp only [Act.put])
          have HT6 := Lib.hid ht6
          have HO := Lib.hid ho
          clear ht6 hck ho hb HT5
          (refine wpAnyH_take (i := 8) (v := .tuple #[.agg (cfgV r2.1.1 AR r2.1.2.length cR), .int .i64 (r2.2.1 : Int), .int .i64 r2.2.2]) rfl (by kernel_rfl) (by kernel_rfl) (by kernel_rfl) (fun _ _ _ h => h) (Or.inl ⟨by kernel_rfl, fun w hSw => by go_simp⟩) hS ?_)
          (try simp only [Act.put])
          (refine wpAnyH_take (i := 9) (v := .agg (cfgV r2.1.1 AR r2.1.2.length cR)) rfl (by kernel_rfl) (by kernel_rfl) (by kernel_rfl) (fun _ _ _ h => h) (Or.inl ⟨by kernel_rfl, fun w hSw => by go_simp⟩) hS ?_)
          (try simp only [Act.put])
          (refine wpAnyH_take (i := 10) (v := .int .i64 (r2.2.1 : Int)) rfl (by kernel_rfl) (by kernel_rfl) (by kernel_rfl) (fun _ _ _ h => h) (Or.inl ⟨by kernel_rfl, fun w hSw => by go_simp⟩) hS ?_)
          (try simp only [Act.put])
          (refine wpAnyH_take (i := 11) (v := .int .i64 r2.2.2) rfl (by kernel_rfl) (by kernel_rfl) (by kernel_rfl) (fun _ _ _ h => h) (Or.inl ⟨by kernel_rfl, fun w hSw => by go_simp⟩) hS ?_)
          (try simp only [Act.put])
          obtain ⟨wz, hst, hb9, hg9⟩ := (HT6.out.bx _ rfl).s_cf rfl r2.1.1 AR r2.1.2.length cR
          have HCB := Lib.hid (CkBox.early (Nat.le_trans HD.out.size (HT6.out.lo _ rfl)) (HD.out.trans (HT6.out.far.mono HD.out.size)) HO.out (HT6.out.bx _ rfl) hb9 hg9)
          refine wpAnyH_ready (rs := [13]) (by decide +kernel) (by simp) (AllReadyH.cons rfl (fun K hK => ?_) AllReadyH.nil)
          go_simp
          refine hK.out _ _ (HT6.out.far.trans (below_only hg9 (HT6.out.lo _ rfl) HT6.out.far.size)) (fun hS => ?_)
          clear hK K
          (try simp only [Act.put])
          (refine wpAnyH_take (i := 14) (v := .int .i64 (r2.2.1 : Int)) rfl (by kernel_rfl) (by kernel_rfl) (by kernel_rfl) (fun _ _ _ h => h) (Or.inl ⟨by kernel_rfl, fun w hSw => by go_simp⟩) hS ?_)
          (try simp only [Act.put])
          (refine wpAnyH_take (i := 15) (v := .int .i64 r2.2.2) rfl (by kernel_rfl) (by kernel_rfl) (by kernel_rfl) (fun _ _ _ h => h) (Or.inl ⟨by kernel_rfl, fun w hSw => by go_simp⟩) hS ?_)
          (try simp only [Act.put])
          refine wpAnyH_done (by kernel_rfl) ?_ _
          clear hS hst hb9 hg9 HT6
          go_simp
          go_wp2_with fail
          go_meet
          exact ⟨_, rfl, rfl, rfl, HCB⟩
      · have ht1 := HT0.out.al
        go_simp
        refine hK.out _ _ (ht1.far) (fun hS => ?_)
        clear hK K
        (try simp only [Act.put])
        have HT1 := Lib.hid ht1
        clear ht1 HT0
        refine wpAnyH_ready (rs := [1, 5]) (by decide +kernel) (by simp) (AllReadyH.cons rfl (fun K hK => ?_) (AllReadyH.cons rfl (fun K hK => ?_) AllReadyH.nil))
        · obtain ⟨x2, g0, hr2, ht2⟩ := HT1.out.lit0
          go_simp
          refine hK.out _ _ (ht2.far) (fun hS => ?_)
          clear hK K
          (try simp only [Act.put])
          have HT2 := Lib.hid ht2
          clear ht2 hr2 HT1
          refine wpAnyH_ready (rs := [3, 5]) (by decide +kernel) (by simp) (AllReadyH.cons rfl (fun K hK => ?_) (AllReadyH.cons rfl (fun K hK => ?_) AllReadyH.nil))
          · obtain ⟨x3, AB, cB, hr3, ht3⟩ := HT2.out.app3 (A := A) (c := c) HLD.out HVL.out
            go_simp
            refine hK.out _ _ (ht3.far) (fun hS => ?_)
            clear hK K
            (try simp only [Act.put])
            have HT3 := Lib.hid ht3
            clear ht3 hr3 HT2
            refine wpAnyH_ready (rs := [5]) (by decide +kernel) (by simp) (AllReadyH.cons rfl (fun K hK => ?_) AllReadyH.nil)
            obtain ⟨x4, g8, hr4, ht4⟩ := HT3.out.lit1
            go_simp
            refine hK.out _ _ (ht4.far) (fun hS => ?_)
            clear hK K
            (try simp only [Act.put])
            have HT4 := Lib.hid ht4
            clear ht4 hr4 HT3
            refine wpAnyH_ready (rs := [6]) (by decide +kernel) (by simp) (AllReadyH.cons rfl (fun K hK => ?_) AllReadyH.nil)
            obtain ⟨x5, A9, c9, hr5, ht5⟩ := HT4.out.app6 HVL.out
            go_simp
            refine hK.out _ _ (ht5.far) (fun hS => ?_)
            clear hK K
            (try simp only [Act.put])
            have HT5 := Lib.hid ht5
            clear ht5 hr5 HT4
            refine wpAnyH_ready (rs := [7]) (by decide +kernel) (by simp) (AllReadyH.cons rfl (fun K hK => ?_) AllReadyH.nil)
            have hck := HCA.out _ (HDA.out.trans (HT5.out.far.mono HDA.out.size)) A9 c9 (EK.Own.see HT5.out.own)
            go_simp
            (go_at_call 7; (with_reducible refine (hck).mono ?_); rintro e x6 ⟨AR, cR, rfl, ho, hb⟩)
            have ht6 := HT5.out.call hb
            refine hK.out _ _ (ht6.far) (fun hS => ?_)
            clear hK K
            (try simp only [Act.put])
            have HT6 := Lib.hid ht6
            have HO := Lib.hid ho
            clear ht6 hck ho hb HT5
            (refine wpAnyH_take (i := 8) (v := .tuple #[.agg (cfgV r2.1.1 AR r2.1.2.length cR), .int .i64 (r2.2.1 : Int), .int .i64 r2.2.2]) rfl (by kernel_rfl) (by kernel_rfl) (by kernel_rfl) (fun _ _ _ h => h) (Or.inl ⟨by kernel_rfl, fun w hSw => by go_simp⟩) hS ?_)
            (try simp only [Act.put])
            (refine wpAnyH_take (i := 9) (v := .agg (cfgV r2.1.1 AR r2.1.2.length cR)) rfl (by kernel_rfl) (by kernel_rfl) (by kernel_rfl) (fun _ _ _ h => h) (Or.inl ⟨by kernel_rfl, fun w hSw => by go_simp⟩) hS ?_)
            (try simp only [Act.put])
            (refine wpAnyH_take (i := 10) (v := .int .i64 (r2.2.1 : Int)) rfl (by kernel_rfl) (by kernel_rfl) (by kernel_rfl) (fun _ _ _ h => h) (Or.inl ⟨by kernel_rfl, fun w hSw => by go_simp⟩) hS ?_)
            (try simp only [Act.put])
            (refine wpAnyH_take (i := 11) (v := .int .i64 r2.2.2) rfl (by kernel_rfl) (by kernel_rfl) (by kernel_rfl) (fun _ _ _ h => h) (Or.inl ⟨by kernel_rfl, fun w hSw => by go_simp⟩) hS ?_)
            (try simp only [Act.put])
            obtain ⟨wz, hst, hb9, hg9⟩ := (HT6.out.bx _ rfl).s_cf rfl r2.1.1 AR r2.1.2.length cR
            have HCB := Lib.hid (CkBox.early (Nat.le_trans HD.out.size (HT6.out.lo _ rfl)) (HD.out.trans (HT6.out.far.mono HD.out.size)) HO.out (HT6.out.bx _ rfl) hb9 hg9)
            refine wpAnyH_ready (rs := [13]) (by decide +kernel) (by simp) (AllReadyH.cons rfl (fun K hK => ?_) AllReadyH.nil)
            go_simp
            refine hK.out _ _ (HT6.out.far.trans (below_only hg9 (HT6.out.lo _ rfl) HT6.out.far.size)) (fun hS => ?_)
            clear hK K
            (try simp only [Act.put])
            (refine wpAnyH_take (i := 14) (v := .int .i64 (r2.2.1 : Int)) rfl (by kernel_rfl) (by kernel_rfl) (by kernel_rfl) (fun _ _ _ h => h) (Or.inl ⟨by kernel_rfl, fun w hSw => by go_simp⟩) hS ?_)
            (try simp only [Act.put])
            (refine wpAnyH_take (i := 15) (v := .int .i64 r2.2.2) rfl (by kernel_rfl) (by kernel_rfl) (by kernel_rfl) (fun _ _ _ h => h) (Or.inl ⟨by kernel_rfl, fun w hSw => by go_simp⟩) hS ?_)
            (try simp only [Act.put])
            refine wpAnyH_done (by kernel_rfl) ?_ _
            clear hS hst hb9 hg9 HT6
            go_simp
            go_wp2_with fail
            go_meet
            exact ⟨_, rfl, rfl, rfl, HCB⟩
          · obtain ⟨x3, g8, hr3, ht3⟩ := HT2.out.lit1
            go_simp
            refine hK.out _ _ (ht3.far) (fun hS => ?_)
            clear hK K
            (try simp only [Act.put])
            have HT3 := Lib.hid ht3
            clear ht3 hr3 HT2
            refine wpAnyH_ready (rs := [3]) (by decide +kernel) (by simp) (AllReadyH.cons rfl (fun K hK => ?_) AllReadyH.nil)
            obtain ⟨x4, AB, cB, hr4, ht4⟩ := HT3.out.app3 (A := A) (c := c) HLD.out HVL.out
            go_simp
            refine hK.out _ _ (ht4.far) (fun hS => ?_)
            clear hK K
            (try simp only [Act.put])
            have HT4 := Lib.hid ht4
            clear ht4 hr4 HT3
            refine wpAnyH_ready (rs := [6]) (by decide +kernel) (by simp) (AllReadyH.cons rfl (fun K hK => ?_) AllReadyH.nil)
            obtain ⟨x5, A9, c9, hr5, ht5⟩ := HT4.out.app6 HVL.out
            go_simp
            refine hK.out _ _ (ht5.far) (fun hS => ?_)
            clear hK K
            (try simp only [Act.put])
            have HT5 := Lib.hid ht5
            clear ht5 hr5 HT4
            refine wpAnyH_ready (rs := [7]) (by decide +kernel) (by simp) (AllReadyH.cons rfl (fun K hK => ?_) AllReadyH.nil)
            have hck := HCA.out _ (HDA.out.trans (HT5.out.far.mono HDA.out.size)) A9 c9 (EK.Own.see HT5.out.own)
            go_simp
            (go_at_call 7; (with_reducible refine (hck).mono ?_); rintro e x6 ⟨AR, cR, rfl, ho, hb⟩)
            have ht6 := HT5.out.call hb
            refine hK.out _ _ (ht6.far) (fun hS => ?_)
            clear hK K
            (try simp only [Act.put])
            have HT6 := Lib.hid ht6
            have HO := Lib.hid ho
            clear ht6 hck ho hb HT5
            (refine wpAnyH_take (i := 8) (v := .tuple #[.agg (cfgV r2.1.1 AR r2.1.2.length cR), .int .i64 (r2.2.1 : Int), .int .i64 r2.2.2]) rfl (by kernel_rfl) (by kernel_rfl) (by kernel_rfl) (fun _ _ _ h => h) (Or.inl ⟨by kernel_rfl, fun w hSw => by go_simp⟩) hS ?_)
            (try simp only [Act.put])
            (refine wpAnyH_take (i := 9) (v := .agg (cfgV r2.1.1 AR r2.1.2.length cR)) rfl (by kernel_rfl) (by kernel_rfl) (by kernel_rfl) (fun _ _ _ h => h) (Or.inl ⟨by kernel_rfl, fun w hSw => by go_simp⟩) hS ?_)
            (try simp only [Act.put])
            (refine wpAnyH_take (i := 10) (v := .int .i64 (r2.2.1 : Int)) rfl (by kernel_rfl) (by kernel_rfl) (by kernel_rfl) (fun _ _ _ h => h) (Or.inl ⟨by kernel_rfl, fun w hSw => by go_simp⟩) hS ?_)
            (try simp only [Act.put])
            (refine wpAnyH_take (i := 11) (v := .int .i64 r2.2.2) rfl (by kernel_rfl) (by kernel_rfl) (by kernel_rfl) (fun _ _ _ h => h) (Or.inl ⟨by kernel_rfl, fun w hSw => by go_simp⟩) hS ?_)
            (try simp only [Act.put])
            obtain ⟨wz, hst, hb9, hg9⟩ := (HT6.out.bx _ rfl).s_cf rfl r2.1.1 AR r2.1.2.length cR
            have HCB := Lib.hid (CkBox.early (Nat.le_trans HD.out.size (HT6.out.lo _ rfl)) (HD.out.trans (HT6.out.far.mono HD.out.size)) HO.out (HT6.out.bx _ rfl) hb9 hg9)
            refine wpAnyH_ready (rs := [13]) (by decide +kernel) (by simp) (AllReadyH.cons rfl (fun K hK => ?_) AllReadyH.nil)
            go_simp
            refine hK.out _ _ (HT6.out.far.trans (below_only hg9 (HT6.out.lo _ rfl) HT6.out.far.size)) (fun hS => ?_)
            clear hK K
            (try simp only [Act.put])
            (refine wpAnyH_take (i := 14) (v := .int .i64 (r2.2.1 : Int)) rfl (by kernel_rfl) (by kernel_rfl) (by kernel_rfl) (fun _ _ _ h => h) (Or.inl ⟨by kernel_rfl, fun w hSw => by go_simp⟩) hS ?_)
            (try simp only [Act.put])
            (refine wpAnyH_take (i := 15) (v := .int .i64 r2.2.2) rfl (by kernel_rfl) (by kernel_rfl) (by kernel_rfl) (fun _ _ _ h => h) (Or.inl ⟨by kernel_rfl, fun w hSw => by go_simp⟩) hS ?_)
            (try simp only [Act.put])
            refine wpAnyH_done (by kernel_rfl) ?_ _
            clear hS hst hb9 hg9 HT6
            go_simp
            go_wp2_with fail
            go_meet
            exact ⟨_, rfl, rfl, rfl, HCB⟩
        · obtain ⟨x2, g8, hr2, ht2⟩ := HT1.out.lit1
          go_simp
          refine hK.out _ _ (ht2.far) (fun hS => ?_)
          clear hK K
          (try simp only [Act.put])
          have HT2 := Lib.hid ht2
          clear ht2 hr2 HT1
          refine wpAnyH_ready (rs := [1]) (by decide +kernel) (by simp) (AllReadyH.cons rfl (fun K hK => ?_) AllReadyH.nil)
          obtain ⟨x3, g0, hr3, ht3⟩ := HT2.out.lit0
          go_simp
          refine hK.out _ _ (ht3.far) (fun hS => ?_)
          clear hK K
          (try simp only [Act.put])
          have HT3 := Lib.hid ht3
          clear ht3 hr3 HT2
          refine wpAnyH_ready (rs := [3]) (by decide +kernel) (by simp) (AllReadyH.cons rfl (fun K hK => ?_) AllReadyH.nil)
          obtain ⟨x4, AB, cB, hr4, ht4⟩ := HT3.out.app3 (A := A) (c := c) HLD.out HVL.out
          go_simp
          refine hK.out _ _ (ht4.far) (fun hS => ?_)
          clear hK K
          (try simp only [Act.put])
          have HT4 := Lib.hid ht4
          clear ht4 hr4 HT3
          refine wpAnyH_ready (rs := [6]) (by decide +kernel) (by simp) (AllReadyH.cons rfl (fun K hK => ?_) AllReadyH.nil)
          obtain ⟨x5, A9, c9, hr5, ht5⟩ := HT4.out.app6 HVL.out
          go_simp
          refine hK.out _ _ (ht5.far) (fun hS => ?_)
          clear hK K
          (try simp only [Act.put])
          have HT5 := Lib.hid ht5
          clear ht5 hr5 HT4
          refine wpAnyH_ready (rs := [7]) (by decide +kernel) (by simp) (AllReadyH.cons rfl (fun K hK => ?_) AllReadyH.nil)
          have hck := HCA.out _ (HDA.out.trans (HT5.out.far.mono HDA.out.size)) A9 c9 (EK.Own.see HT5.out.own)
          go_simp
          (go_at_call 7; (with_reducible refine (hck).mono ?_); rintro e x6 ⟨AR, cR, rfl, ho, hb⟩)
          have ht6 := HT5.out.call hb
          refine hK.out _ _ (ht6.far) (fun hS => ?_)
          clear hK K
          (try simp only [Act.put])
          have HT6 := Lib.hid ht6
          have HO := Lib.hid ho
          clear ht6 hck ho hb HT5
          (refine wpAnyH_take (i := 8) (v := .tuple #[.agg (cfgV r2.1.1 AR r2.1.2.length cR), .int .i64 (r2.2.1 : Int), .int .i64 r2.2.2]) rfl (by kernel_rfl) (by kernel_rfl) (by kernel_rfl) (fun _ _ _ h => h) (Or.inl ⟨by kernel_rfl, fun w hSw => by go_simp⟩) hS ?_)
          (try simp only [Act.put])
          (refine wpAnyH_take (i := 9) (v := .agg (cfgV r2.1.1 AR r2.1.2.length cR)) rfl (by kernel_rfl) (by kernel_rfl) (by kernel_rfl) (fun _ _ _ h => h) (Or.inl ⟨by kernel_rfl, fun w hSw => by go_simp⟩) hS ?_)
          (try simp only [Act.put])
          (refine wpAnyH_take (i := 10) (v := .int .i64 (r2.2.1 : Int)) rfl (by kernel_rfl) (by kernel_rfl) (by kernel_rfl) (fun _ _ _ h => h) (Or.inl ⟨by kernel_rfl, fun w hSw => by go_simp⟩) hS ?_)
          (try simp only [Act.put])
          (refine wpAnyH_take (i := 11) (v := .int .i64 r2.2.2) rfl (by kernel_rfl) (by kernel_rfl) (by kernel_rfl) (fun _ _ _ h => h) (Or.inl ⟨by kernel_rfl, fun w hSw => by go_simp⟩) hS ?_)
          (try simp only [Act.put])
          obtain ⟨wz, hst, hb9, hg9⟩ := (HT6.out.bx _ rfl).s_cf rfl r2.1.1 AR r2.1.2.length cR
          have HCB := Lib.hid (CkBox.early (Nat.le_trans HD.out.size (HT6.out.lo _ rfl)) (HD.out.trans (HT6.out.far.mono HD.out.size)) HO.out (HT6.out.bx _ rfl) hb9 hg9)
          refine wpAnyH_ready (rs := [13]) (by decide +kernel) (by simp) (AllReadyH.cons rfl (fun K hK => ?_) AllReadyH.nil)
          go_simp
          refine hK.out _ _ (HT6.out.far.trans (below_only hg9 (HT6.out.lo _ rfl) HT6.out.far.size)) (fun hS => ?_)
          clear hK K
          (try simp only [Act.put])
          (refine wpAnyH_take (i := 14) (v := .int .i64 (r2.2.1 : Int)) rfl (by kernel_rfl) (by kernel_rfl) (by kernel_rfl) (fun _ _ _ h => h) (Or.inl ⟨by kernel_rfl, fun w hSw => by go_simp⟩) hS ?_)
          (try simp only [Act.put])
          (refine wpAnyH_take (i := 15) (v := .int .i64 r2.2.2) rfl (by kernel_rfl) (by kernel_rfl) (by kernel_rfl) (fun _ _ _ h => h) (Or.inl ⟨by kernel_rfl, fun w hSw => by go_simp⟩) hS ?_)
          (try simp only [Act.put])
          refine wpAnyH_done (by kernel_rfl) ?_ _
          clear hS hst hb9 hg9 HT6
          go_simp
          go_wp2_with fail
          go_meet
          exact ⟨_, rfl, rfl, rfl, HCB⟩
    case rest =>
      obtain ⟨g2, rfl, rfl, rfl, HK2⟩ := hcut
      obtain ⟨w7, rfl⟩ : ∃ w7, w7 = wc := ⟨_, rfl⟩
      have HB7 := Lib.hid (HB5.out.trans (HK2.out.far.mono HB5.out.size))
      obtain ⟨A1, c1, hb1, hm1⟩ := (HK1.out.call HK2.out.far).box
      have l1 := hb1.l_cf
      have l2 := (HC.out w7 HB7.out).2.1
      have HS := Lib.hid (HST.out w7 HB7.out r1.1.1 r1.1.2 A1 c1 hh (by have := HM10.out; omega) hm1)
      have HR2 : Hid (r2 = if stepN r1.1.1 r1.1.2 hh l.x = 0 then ((l.ep, l.ms), ls.length + 1, 0) else ((0, []), ls.length, stepN r1.1.1 r1.1.2 hh l.x)) := Lib.hid (by
        have h := HGW.out
        rw [List.length_map] at h
        exact h)
      clear HGW HST HM10 hb1 hm1 HCA HLR HB5 HK1
      generalize stepN r1.1.1 r1.1.2 hh l.x = s at *
      by_cases hs : s = 0
      rotate_left
      · have hr2 : r2 = ((0, []), ls.length, s) := by rw [HR2.out, if_neg hs]
        have hf : r2.2.2 = s := by rw [hr2]
        have hk : r2.2.1 = r1.2.1 := by rw [hr2, HN1.out]
        have es : (s != 0) = true := by simpa using hs
        have ess : (s == s) = true := by simp
        clear HR2 hr2 hs HK2
        generalize r2.2.2 = f2 at *
        generalize r2.2.1 = k2 at *
        subst hf hk
        have ek : ((r1.2.1 : Int) == (r1.2.1 : Int)) = true := by simp
        have ek2 : (r1.2.1 == r1.2.1) = true := by simp
        clear HN1
        go_wp2_with (go_at_call 9; (with_reducible refine (HS.out).mono ?_); rintro e w8 ⟨rfl, hb⟩; have HB8 := Lib.hid (HB7.out.trans (hb.mono HB7.out.size)); clear hb)
        go_ret
        exact ⟨rfl, HF.out.trans (HB8.out.mono HF.out.size)⟩
      subst hs
      have hr2 : r2 = ((l.ep, l.ms), ls.length + 1, 0) := by rw [HR2.out, if_pos rfl]
      have HSA : Hid (∀ w', Below w7.heap.size w7 w' → ∃ A2 c2, (ldCf (.pointer (some ⟨g2, 0, none⟩))).run Tryd.prog w' = .ok (.agg (cfgV r2.1.1 A2 r2.1.2.length c2)) w' ∧ Calls Tryd.prog 8 #[.agg (cfgV r2.1.1 A2 r2.1.2.length c2), .agg (cfgV l.ep l.M l.ms.length l.m)] w' fun e w'' => e = .returned (.bool true) ∧ Below w'.heap.size w' w'') := Lib.hid (fun w' hb => by
        obtain ⟨A2, c2, hb2, hm2⟩ := (HK2.out.call hb).box
        refine ⟨A2, c2, hb2.l_cf, ?_⟩
        have hlen : l.ms.length ≤ maxLen := Nat.le_trans HSL.out.mem (by simp [maxLen])
        rw [hr2] at hm2 ⊢
        have h := same_any8 l.ep l.ms A2 c2 l.ep l.ms l.M l.m hlen hlen w' hm2 (HLM.out w' (HB7.out.trans (hb.mono HB7.out.size)))
        have e : sameB l.ep l.ms l.ep l.ms = true := by unfold sameB; simp
        rw [e] at h
        exact h)
      have hf : r2.2.2 = 0 := by rw [hr2]
      have hk : r2.2.1 = r1.2.1 + 1 := by rw [hr2, HN1.out]
      clear HR2 hr2 HK2 HLM
      generalize r2.2.2 = f2 at *
      generalize r2.2.1 = k2 at *
      subst hf hk
      have ws : IntKind.i64.wrap ((r1.2.1 : Int) + 1) = ((r1.2.1 + 1 : Nat) : Int) := by rw [IntKind.wrap_i64]; have := HL5.out; have := HN1.out; omega
      have ek : (((r1.2.1 + 1 : Nat) : Int) == ((r1.2.1 + 1 : Nat) : Int)) = true := by simp
      have ek2 : (r1.2.1 + 1 == r1.2.1 + 1) = true := by simp
      clear HN1
      go_upto_region 13 with (go_at_call 9; (with_reducible refine (HS.out).mono ?_); rintro e w8 ⟨rfl, hb⟩; have HB8 := Lib.hid (HB7.out.trans (hb.mono HB7.out.size)); have HB78 := Lib.hid hb; clear hb)
      obtain ⟨A2, c2, l3, hsm⟩ := HSA.out w8 HB78.out
      have l4 := (HC.out w8 HB8.out).2.2
      have HSM2 := Lib.hid hsm
      clear hsm HSA
      go_wp2_with (go_at_call 8; (with_reducible refine (HSM2.out).mono ?_); rintro e w9 ⟨rfl, hb⟩; have HB9 := Lib.hid (HB8.out.trans (hb.mono HB8.out.size)); clear hb)
      go_ret
      exact ⟨rfl, HF.out.trans (HB9.out.mono HF.out.size)⟩
end Go.Proofs.YtbclepdcngaonaaDoor
