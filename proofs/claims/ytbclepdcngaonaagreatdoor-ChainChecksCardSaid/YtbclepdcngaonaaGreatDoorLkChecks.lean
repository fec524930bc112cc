/-
  ChainChecks: the walk. Written by gen_lkchecks.py.
-/
import Derived.Test.YtbclepdcngaonaaGreatDoorMA
import Derived.Test.YtbclepdcngaonaaGreatDoorMC
import Derived.Test.YtbclepdcngaonaaGreatDoorCA
namespace Go.Proofs.YtbclepdcngaonaaGreatDoor
open Go.RowKit Go.Maps Go.Sort

set_option maxRecDepth 100000 in
theorem checkN_len15 {ep : Int} {ms : List MemX} {xs : List LkX} (h : ms.length ≤ 20) (hx : ∀ x ∈ xs, x.ms.length ≤ 20) : (checkN ep ms xs).1.2.length ≤ 20 := by
  have hw : ∀ (xs : List LkX) (ep : Int) (ms : List MemX) (h : Int) (i : Nat), ms.length ≤ 20 → (∀ x ∈ xs, x.ms.length ≤ 20) → (walkN ep ms h i xs).1.2.length ≤ 20 := by
    intro xs
    induction xs with
    | nil => exact fun _ _ _ _ h _ => h
    | cons l r ih =>
      intro ep ms h i hm hx
      rw [walkN_cons]
      split
      · exact ih _ _ _ _ (hx l (List.mem_cons_self ..)) (fun x hm => hx x (List.mem_cons_of_mem _ hm))
      · exact Nat.zero_le _
  unfold checkN
  split
  · exact Nat.zero_le _
  · split
    · exact Nat.zero_le _
    · exact hw xs ep ms 0 0 h hx

attribute [local go_sem ↓] ldCf_def stCf_def ldLk_def stLk_def alLk_def alCf15_def
set_option maxRecDepth 100000 in
set_option maxHeartbeats 16000000 in
theorem checks_walk15 (ms : List MemX) (ep : Int) (AM : Option Addr) (cM : Nat) (hh : Int) (ls : List LkM) (hlim : ∀ l ∈ ls, LkLim l) (hnum : ∀ l ∈ ls, LkNum l) (A : Option Addr) (c : Nat) (w : World) (hM : Mems w w.heap.size AM ms) (hL : LksSee w A ls) (hR : Roots w) :
    Calls Tryz.prog 3 #[.agg (cfgV ep AM ms.length cM), .int .i64 hh, .slice A ls.length c] w fun e w' => e = .returned (.bool true) ∧ Below w.heap.size w w' := by
  obtain ⟨w1, hw1⟩ : ∃ w1, w1 = w.alloc (.cells (cfgV ep AM ms.length cM) 24) := ⟨_, rfl⟩
  have hX : Box w1 w.heap.size 24 (cfgV ep AM ms.length cM) := by rw [hw1]; exact Box.made w _ _
  have HF : Hid (Below w.heap.size w w1) := by rw [hw1]; exact (Below.refl _ _).alloc (Nat.le_refl _) _
  have HC : Hid (∀ w', Below w1.heap.size w1 w' → (ldCf (.pointer (some ⟨w.heap.size, 0, none⟩))).run Tryz.prog w' = .ok (.agg (cfgV ep AM ms.length cM)) w') := Lib.hid (fun w' hb => (hX.below hb hX.lt).l_cf)
  have HR1 := Lib.hid (hR.of_below HF.out)
  have HL1 := Lib.hid (hL.call HF.out)
  have HM1 := Lib.hid (hM.far HF.out)
  have HAL := Lib.hid (alive_any15 w1 HR1.out)
  have HGR : Hid (∀ w', Below w1.heap.size w1 w' → Calls Tryz.prog 6 #[.agg (cfgV ep AM ms.length cM), .slice A ls.length c] w' (GreatL ms ls w')) := Lib.hid (fun w' hb => lgreat_any ms ep AM cM ls hlim A c w' (HL1.out.call hb))
  have HNU := Lib.hid hnum
  clear hX hM hL hR hlim hnum
  go_enter Tryz.func3, Tryz.ntmps3
  go_upto_region 1 with fail
  change Code.wp _ _ _ _ (w.alloc (.cells (cfgV ep AM ms.length cM) 24))
  rw [← hw1]
  clear hw1
  go_upto_region 3 with (go_at_call 5; (with_reducible refine (HAL.out).mono ?_); rintro e w2 ⟨rfl, hb⟩; have HB2 := Lib.hid hb; clear hb)
  clear HAL
  have k1 := HC.out w2 HB2.out
  go_wp2_with fail
  refine (HGR.out w2 HB2.out).mono ?_
  rintro e w3 ⟨g, rfl, hg, hb⟩
  have HB3 := Lib.hid (HB2.out.trans (hb.mono HB2.out.size))
  clear hb k1 HB2 HGR
  cases g with
  | true =>
    clear hg
    go_wp2
    go_ret
    exact ⟨rfl, HF.out.trans (HB3.out.mono HF.out.size)⟩
  | false =>
  have HSM := Lib.hid (hg rfl)
  clear hg
  have HCK : Hid (∀ w', Below w1.heap.size w1 w' → Calls Tryz.prog 9 #[.agg (cfgV ep AM ms.length cM), .slice A ls.length c] w' (ChkIs w' (checkN ep ms (ls.map LkM.x)))) := Lib.hid (fun w' hb =>
    check_any15 ep ms AM cM (by have := HSM.out.mem; omega) ls A c (by have := HSM.out.len; omega) (fun l hl => (HSM.out.each l hl).lk) w' (HM1.out.far hb) (HL1.out.call hb) (HR1.out.of_below hb))
  have HRK : Hid (∀ w', Below w1.heap.size w1 w' → Calls Tryz.prog 10 #[.agg (cfgV ep AM ms.length cM), .slice A ls.length c] w' (RChkIs w' (checkN ep ms (ls.map LkM.x)))) := Lib.hid (fun w' hb =>
    rlcheck_any15 ep ms AM cM (by have := HSM.out.mem; omega) ls A c (by have := HSM.out.len; omega) (fun l hl => (HSM.out.each l hl).lk) HNU.out w' (HM1.out.far hb) (HL1.out.call hb))
  have HS1 : Hid (∀ w', Below w1.heap.size w1 w' → ∀ l ∈ ls, Calls Tryz.prog 7 #[.agg (cfgV ep AM ms.length cM), .int .i64 hh, .agg l.cells.toArray] w' fun e w'' => e = .returned (.int .i64 (stepN ep ms hh l.x)) ∧ Below w'.heap.size w' w'') := Lib.hid (fun w' hb l hl =>
    step_any15 ep ms AM cM (by have := HSM.out.mem; omega) hh l (HSM.out.each l hl).lk w' (HM1.out.far hb) ((HL1.out.call hb).each l hl) (HR1.out.of_below hb))
  have HS2 : Hid (∀ w', Below w1.heap.size w1 w' → ∀ l ∈ ls, Calls Tryz.prog 8 #[.agg (cfgV ep AM ms.length cM), .int .i64 hh, .agg l.cells.toArray] w' fun e w'' => e = .returned (.int .i64 (stepN ep ms hh l.x)) ∧ Below w'.heap.size w' w'') := Lib.hid (fun w' hb l hl =>
    rstep_any15 ep ms AM cM (by have := HSM.out.mem; omega) hh l (HSM.out.each l hl).lk (HNU.out l hl) w' (HM1.out.far hb) ((HL1.out.call hb).each l hl))
  have HLR : Hid (∀ w', Below w1.heap.size w1 w' → LkK.See w' w'.heap.size A ls) := Lib.hid (fun w' hb => (HL1.out.call hb).row)
  have HLN : Hid (ls.length ≤ 6) := Lib.hid HSM.out.len
  have HLEN : Hid ((checkN ep ms (ls.map LkM.x)).1.2.length ≤ 20) := Lib.hid (checkN_len15 HSM.out.mem (fun x hx => by
    obtain ⟨l, hl, rfl⟩ := List.mem_map.1 hx
    exact (HSM.out.each l hl).mem))
  have hal := al_cf15
  generalize cfgV ep AM ms.length cM = CF at *
  generalize checkN ep ms (ls.map LkM.x) = r1 at *
  clear HM1 HL1 HR1 HSM HNU
  go_wp2
  go_loopw [22] (fun i wr => ∃ k : Nat, k ≤ ls.length ∧ i = .int .i64 (k : Int) ∧ Hid (Below w3.heap.size w3 wr)) (fun i _ => ls.length - (intOf i).toNat)
  case atStart => exact ⟨0, Nat.zero_le _, rfl, Lib.hid (Below.refl _ _)⟩
  case round =>
    obtain ⟨k, hk, rfl, HW⟩ := hrel
    have HB4 := Lib.hid (HB3.out.trans (HW.out.mono HB3.out.size))
    by_cases hlt : k < ls.length
    rotate_left
    · have i1 : ¬ (k : Int) < (ls.length : Int) := by omega
      have k1 := HC.out wr HB4.out
      have hck := HCK.out wr HB4.out
      clear HS1 HS2 HLR hk hlt HW
      go_upto_region 12 with (go_at_call 9; (with_reducible refine hck.mono ?_); rintro e w6 ⟨A6, c6, rfl, ho6, hb⟩; obtain ⟨w5, hst5, hx5, hbl5, _⟩ := laid_cf w6 (cfgV 0 none 0 0) rfl r1.1.1 A6 r1.1.2.length c6; have HX5 := Lib.hid hx5; have HM5 : Hid (Mems w5 w5.heap.size A6 r1.1.2) := Lib.hid (EK.See.far (EK.Own.see ho6) hbl5); have HB5 := Lib.hid (HB4.out.trans ((hb.trans (hbl5.mono hb.size)).mono HB4.out.size)); clear hx5 hbl5 hb ho6)
      clear hst5 k1 hck HCK HB4 i1
      have k1 := HC.out w5 HB5.out
      have hrk := HRK.out w5 HB5.out
      go_upto_region 13 with (go_at_call 10; (with_reducible refine hrk.mono ?_); rintro e w7 ⟨A7, c7, rfl, hm7, hb⟩; obtain ⟨w8, hst8, hx8, hbl8, _⟩ := laid_cf w7 (cfgV 0 none 0 0) rfl r1.1.1 A7 r1.1.2.length c7; have HX8 := Lib.hid hx8; have HM8 : Hid (Mems w8 w8.heap.size A7 r1.1.2) := Lib.hid (hm7.far hbl8); have HB58 := Lib.hid (hb.trans (hbl8.mono hb.size)); clear hx8 hbl8 hb hm7)
      clear hst8 k1 hrk HRK
      have l1 := (HX5.out.below HB58.out HX5.out.lt).l_cf
      have l2 := HX8.out.l_cf
      have hlen : r1.1.2.length ≤ maxLen := Nat.le_trans HLEN.out (by simp [maxLen])
      have hsm := same_any8 r1.1.1 r1.1.2 A6 c6 r1.1.1 r1.1.2 A7 c7 hlen hlen w8 (HM5.out.far HB58.out) HM8.out
      have e : sameB r1.1.1 r1.1.2 r1.1.1 r1.1.2 = true := by unfold sameB; simp
      rw [e] at hsm
      have HSM := Lib.hid hsm
      have HB8 := Lib.hid (HB5.out.trans (HB58.out.mono HB5.out.size))
      clear hsm hlen e
      have m1 : ((r1.2.1 : Int) == (r1.2.1 : Int)) = true := by simp
      have m2 : (r1.2.1 == r1.2.1) = true := by simp
      have m3 : (r1.2.2 == r1.2.2) = true := by simp
      go_wp2_with (go_at_call 11; (with_reducible refine (HSM.out).mono ?_); rintro e w9 ⟨rfl, hb⟩; have HB9 := Lib.hid (HB8.out.trans (hb.mono HB8.out.size)); clear hb)
      go_ret
      exact ⟨rfl, HF.out.trans (HB9.out.mono HF.out.size)⟩
    have i1 : (k : Int) < (ls.length : Int) := by omega
    have i0 : (0 : Int) ≤ (k : Int) := by omega
    obtain ⟨g, o, hA, hll⟩ := row_link (HLR.out wr HB4.out) hlt
    have lk := hll wr (Below.refl _ _)
    have HLT := Lib.hid hlt
    have HP1 : Hid (∀ w', Below w1.heap.size w1 w' → Calls Tryz.prog 7 #[.agg CF, .int .i64 hh, .agg (ls[k]'hlt).cells.toArray] w' fun e w'' => e = .returned (.int .i64 (stepN ep ms hh (ls[k]'hlt).x)) ∧ Below w'.heap.size w' w'') := Lib.hid (fun w' hb => HS1.out w' hb _ (List.getElem_mem hlt))
    have HP2 : Hid (∀ w', Below w1.heap.size w1 w' → Calls Tryz.prog 8 #[.agg CF, .int .i64 hh, .agg (ls[k]'hlt).cells.toArray] w' fun e w'' => e = .returned (.int .i64 (stepN ep ms hh (ls[k]'hlt).x)) ∧ Below w'.heap.size w' w'') := Lib.hid (fun w' hb => HS2.out w' hb _ (List.getElem_mem hlt))
    have wk : IntKind.i64.wrap ((k : Int) + 1) = ((k + 1 : Nat) : Int) := by rw [IntKind.wrap_i64]; have := HLN.out; omega
    clear hll hk
    rw [hA]
    generalize ls[k]'hlt = l at *
    obtain ⟨w8, hst8, hb8, hbl8⟩ := laid_lk wr l
    have hav := al_lk wr
    have HW8 := Lib.hid (HW.out.trans (hbl8.mono HW.out.size))
    have HB8 := Lib.hid (HB4.out.trans (hbl8.mono HB4.out.size))
    have HX8 := Lib.hid hb8
    clear hb8 hbl8 HB4 HW
    generalize stepN ep ms hh l.x = s at *
    go_upto_region 8 with fail
    clear hst8 lk hav
    generalize wr.heap.size = g10 at *
    obtain ⟨wd, hwd⟩ : ∃ wd, wd = w8.drew := ⟨_, rfl⟩
    have hbd : Below w8.heap.size w8 wd := by rw [hwd]; exact (Below.refl _ _).drew
    refine wp_region_held_drew (S := fun w' => Below w8.heap.size w8 w') (by kernel_rfl) (by rw [← hwd]; exact hbd) (fun hS => ?_)
    rw [← hwd] at hS ⊢
    clear hwd hbd
    (refine wpAnyH_take (i := 0) (v := .agg CF) rfl (by kernel_rfl) (by kernel_rfl) (by kernel_rfl) (fun _ _ _ h => h) (Or.inl ⟨by kernel_rfl, fun w hSw => by have hc := (HC.out w (HB8.out.trans (hSw.mono HB8.out.size))); go_simp⟩) hS ?_)
    (try simp only [Act.put])
    (refine wpAnyH_take (i := 2) (v := .agg l.cells.toArray) rfl (by kernel_rfl) (by kernel_rfl) (by kernel_rfl) (fun _ _ _ h => h) (Or.inl ⟨by kernel_rfl, fun w hSw => by have hc := (HX8.out.below hSw HX8.out.lt).ld_lk; go_simp⟩) hS ?_)
    (try simp only [Act.put])
    (refine wpAnyH_take (i := 4) (v := .agg CF) rfl (by kernel_rfl) (by kernel_rfl) (by kernel_rfl) (fun _ _ _ h => h) (Or.inl ⟨by kernel_rfl, fun w hSw => by have hc := (HC.out w (HB8.out.trans (hSw.mono HB8.out.size))); go_simp⟩) hS ?_)
    (try simp only [Act.put])
    (refine wpAnyH_take (i := 6) (v := .agg l.cells.toArray) rfl (by kernel_rfl) (by kernel_rfl) (by kernel_rfl) (fun _ _ _ h => h) (Or.inl ⟨by kernel_rfl, fun w hSw => by have hc := (HX8.out.below hSw HX8.out.lt).ld_lk; go_simp⟩) hS ?_)
    (try simp only [Act.put])
    (refine wpAnyH_take (i := 1) (v := .int .i64 hh) rfl (by kernel_rfl) (by kernel_rfl) (by kernel_rfl) (fun _ _ _ h => h) (Or.inl ⟨by kernel_rfl, fun w hSw => by go_simp⟩) hS ?_)
    (try simp only [Act.put])
    (refine wpAnyH_take (i := 5) (v := .int .i64 hh) rfl (by kernel_rfl) (by kernel_rfl) (by kernel_rfl) (fun _ _ _ h => h) (Or.inl ⟨by kernel_rfl, fun w hSw => by go_simp⟩) hS ?_)
    (try simp only [Act.put])
    refine wpAnyH_ready (rs := [3]) (by decide +kernel) (by simp) (AllReadyH.cons rfl (fun K hK => ?_) AllReadyH.nil)
    go_simp
    (go_at_call 7; (with_reducible refine (HP1.out _ (HB8.out.trans (hS.mono HB8.out.size))).mono ?_); rintro e x1 ⟨rfl, hb⟩)
    refine hK.out _ _ (hS.trans (hb.mono hS.size)) (fun hS => ?_)
    clear hK K
    (try simp only [Act.put])
    clear hb
    refine wpAnyH_ready (rs := [7]) (by decide +kernel) (by simp) (AllReadyH.cons rfl (fun K hK => ?_) AllReadyH.nil)
    go_simp
    (go_at_call 8; (with_reducible refine (HP2.out _ (HB8.out.trans (hS.mono HB8.out.size))).mono ?_); rintro e x2 ⟨rfl, hb⟩)
    refine hK.out _ _ (hS.trans (hb.mono hS.size)) (fun hS => ?_)
    clear hK K
    (try simp only [Act.put])
    clear hb
    have ess : (s != s) = false := by simp
    (refine wpAnyH_take (i := 8) (v := .bool false) rfl (by kernel_rfl) (by kernel_rfl) (by kernel_rfl) (fun _ _ _ h => h) (Or.inl ⟨by kernel_rfl, fun w hSw => by go_simp⟩) hS ?_)
    (try simp only [Act.put])
    refine wpAnyH_done (by kernel_rfl) ?_ _
    have HW9 := Lib.hid (HW8.out.trans (hS.mono HW8.out.size))
    clear hS
    go_simp
    go_wp2
    go_roundw
    case rel => exact ⟨k + 1, HLT.out, by go_num, HW9⟩
    case measure => have := HLT.out; simp [intOf]; omega
end Go.Proofs.YtbclepdcngaonaaGreatDoor
