/-
  Whether a signature is right under a key, by the document: wapentakeref05.Check.
-/
import Derived.Test.YtbclepdcngaonaaGreatDoorKD
import Derived.Test.YtbclepdcngaonaaGreatDoorKROf
import Derived.Test.YtbclepdcngaonaaGreatDoorTR
import Derived.Deep.RegionHeld3
namespace Go.Proofs.YtbclepdcngaonaaGreatDoor
open Go.RowKit

attribute [local go_sem ↓] ldDigest_def stDigest_def

/-- wapentakeref04.Of on any lists. -/
theorem rof_both (d : List UInt8) (hd : d.length = 32) (X Y : List (List UInt8)) (A B : Option Addr) (a b : Nat) (w : World) (hA : Digs w w.heap.size A X) (hB : Digs w w.heap.size B Y) :
    ∃ r : List UInt8, r.length = 32 ∧ (decide (X.length = 32 ∧ Y.length = 32) = true → r = ofT d X Y) ∧ Calls Tryz.prog 125 #[.agg (d.map bv).toArray, .agg #[.slice A X.length a, .slice B Y.length b]] w fun e w' => e = .returned (.tuple #[.agg (r.map bv).toArray, .bool (decide (X.length = 32 ∧ Y.length = 32))]) ∧ Below w.heap.size w w' := by
  by_cases h : X.length = 32 ∧ Y.length = 32
  · refine ⟨ofT d X Y, rfl, fun _ => rfl, ?_⟩
    have h2 := rof_any d hd X Y A B a b h.1 h.2 w hA hB
    rw [decide_eq_true h, h.1, h.2]
    exact h2
  · refine ⟨List.replicate 32 0, by simp, fun e => absurd (of_decide_eq_true e) h, ?_⟩
    have h2 := rof_not d X Y A B a b h w
    rw [decide_eq_false h]
    exact h2

set_option maxRecDepth 100000 in
set_option maxHeartbeats 2000000 in
theorem rkcheck_any (root d : List UInt8) (hr : root.length = 32) (hd : d.length = 32) (h n : Int) (X Y P : List (List UInt8)) (A B C : Option Addr) (a b c : Nat) (hc : P.length ≤ c) (w : World) (hA : Digs w w.heap.size A X) (hB : Digs w w.heap.size B Y) (hC : Digs w w.heap.size C P) :
    Calls Tryz.prog 93 #[.agg (keyV root h), .agg (d.map bv).toArray, .agg (sigV n A X.length a B Y.length b C P.length c)] w fun e w' => e = .returned (.bool (goodK root d h n X Y P)) ∧ Below w.heap.size w w' := by
  obtain ⟨w1, hw1⟩ : ∃ w1, w1 = ((w.alloc (.cells (keyV root h) 64)).alloc (.cells (d.map bv).toArray 29)).alloc (.cells (sigV n A X.length a B Y.length b C P.length c) 72) := ⟨_, rfl⟩
  have HK : Hid (Box w1 w.heap.size 64 (keyV root h)) := by
    rw [hw1]
    exact ((Box.made w _ _).alloc _).alloc _
  have HD : Hid (Box w1 (w.heap.size + 1) 29 (d.map bv).toArray) := by
    rw [hw1]
    exact (Box.made_at (by simp) _ _).alloc _
  have HS : Hid (Box w1 (w.heap.size + 1 + 1) 72 (sigV n A X.length a B Y.length b C P.length c)) := by
    rw [hw1]
    exact Box.made_at (by simp) _ _
  have HF : Hid (Below w.heap.size w w1) := by
    rw [hw1]
    exact (((Below.refl _ _).alloc (Nat.le_refl _) _).alloc (by simp) _).alloc (by simp; omega) _
  have HDC := Lib.hid (hC.far HF.out)
  have HRL := Lib.hid hr
  have HLC := Lib.hid hc
  have HLD := Lib.hid (dig_list d hd)
  have HLO := Lib.hid (once2_list A B X.length Y.length a b)
  have HRO := Lib.hid (once_of_sig (n' := 0) HS.out rfl)
  obtain ⟨r, hrl, hre, hof⟩ := rof_both d hd X Y A B a b w1 (hA.far HF.out) (hB.far HF.out)
  have HRR := Lib.hid hrl
  have HRE := Lib.hid hre
  have HOF := Lib.hid hof
  have HSM := Lib.hid (dig_same r hrl)
  have HSZ := Lib.hid (dig_size r hrl)
  obtain ⟨ok, hok⟩ : ∃ ok, decide (X.length = 32 ∧ Y.length = 32) = ok := ⟨_, rfl⟩
  have HE : Hid (goodK root d h n X Y P = ((decide (0 ≤ h) && decide (h ≤ 6)) && (ok && ((decide (0 ≤ n) && decide (n < ((2 ^ h.toNat : Nat) : Int))) && checkT root (leafT (ofT d X Y)) n.toNat (2 ^ h.toNat) P)))) := by
    show _ = _
    rw [← hok]
    rfl
  rw [hok] at HRE HOF
  have HCS : Hid (∀ w', Below w1.heap.size w1 w' → w'.cell? ⟨w.heap.size, 32, none⟩ = some (.int .i64 h) ∧ w'.cell? ⟨w.heap.size + 1 + 1, 0, none⟩ = some (.int .i64 n) ∧ w'.cell? ⟨w.heap.size + 1 + 1, 3, none⟩ = some (.slice C P.length c)) := fun w' hb => ⟨key_cell HRL.out (HK.out.below hb HK.out.lt), (HS.out.below hb HS.out.lt).cell 0, (HS.out.below hb HS.out.lt).cell 3⟩
  clear hA hB hC hr hd hc hrl hre hof hok
  obtain ⟨q, hq⟩ : ∃ q, goodK root d h n X Y P = q := ⟨_, rfl⟩
  rw [hq] at HE ⊢
  clear hq
  go_enter Tryz.func93, Tryz.ntmps93
  go_upto_region 1 with fail
  change Code.wp _ _ _ _ (((w.alloc (.cells (keyV root h) 64)).alloc (.cells (d.map bv).toArray 29)).alloc (.cells (sigV n A X.length a B Y.length b C P.length c) 72))
  rw [← hw1]
  clear hw1
  go_upto_region 2 with (first
    | ((with_reducible show wpList _ _ _ ((⟨some 11, _, _, _, _, _⟩ : Oper) :: _) _ _); refine wpList_load_mid rfl 29 (.tmp 4) rfl (w.heap.size + 1) 0 rfl (d.map bv) _ HD.out.range Tryz.underlying29 rfl HLD.out ?_)
    | ((with_reducible show wpList _ _ _ ((⟨some 13, _, _, _, _, _⟩ : Oper) :: _) _ _); refine wpList_load_mid rfl 70 (.tmp 12) rfl (w.heap.size + 1 + 1) 1 rfl [.slice A X.length a, .slice B Y.length b] _ HRO.out Tryz.underlying70 rfl HLO.out ?_)
    | (go_at_call 125; (with_reducible refine (HOF.out).mono ?_); rintro e w3 ⟨rfl, hb⟩; have HB3 := Lib.hid hb; clear hb)
    | (((with_reducible show wpList _ _ _ ((⟨none, Op.store _ (.tmp 7) (.tmp 15), _, _, _, _⟩ : Oper) :: _) _ _)); refine wpList_store_box rfl 29 (.tmp 7) (.tmp 15) rfl w3.heap.size (r.map bv).toArray rfl rfl 29 zs32 (Box.made w3 _ _) HSM.out HSZ.out (bv_one _) ?_; intro w4 hb4 hg4; have HX4 := Lib.hid hb4; have HB4 := Lib.hid (HB3.out.trans ((((Below.refl w3.heap.size w3).alloc (Nat.le_refl _) (.cells zs32 29)).trans (below_only hg4 (Nat.le_refl _) (by simp))).mono HB3.out.size)); clear hb4 hg4))
  clear HRO HOF HB3 HSM HSZ HLD HLO
  have HFF := Lib.hid (HF.out.trans (HB4.out.mono HF.out.size))
  have c32 := (HCS.out _ HB4.out).1
  have s0 := (HCS.out _ HB4.out).2.1
  rcases ok with _ | _
  · have HE2 : Hid (q = false) := by
      show _ = _
      rw [HE.out]
      simp
    go_wp2
    go_ret
    exact ⟨ret_val (congrArg Value.bool HE2.out.symm), HFF.out⟩
  rw [Bool.true_and] at HE
  by_cases h0 : h < 0
  · have e0 : decide (h < 0) = true := decide_eq_true h0
    have HE2 : Hid (q = false) := by
      show _ = _
      rw [HE.out, decide_eq_false (show ¬ 0 ≤ h by omega)]
      rfl
    go_wp2
    go_ret
    exact ⟨ret_val (congrArg Value.bool HE2.out.symm), HFF.out⟩
  have e0 : decide (h < 0) = false := decide_eq_false h0
  by_cases h6 : 6 < h
  · have e6 : decide (6 < h) = true := decide_eq_true h6
    have HE2 : Hid (q = false) := by
      show _ = _
      rw [HE.out, decide_eq_false (show ¬ h ≤ 6 by omega)]
      simp
    go_wp2
    go_ret
    exact ⟨ret_val (congrArg Value.bool HE2.out.symm), HFF.out⟩
  have e6 : decide (6 < h) = false := decide_eq_false h6
  by_cases n0 : n < 0
  · have en : decide (n < 0) = true := decide_eq_true n0
    have HE2 : Hid (q = false) := by
      show _ = _
      rw [HE.out, decide_eq_false (show ¬ 0 ≤ n by omega)]
      simp
    go_wp2
    go_ret
    exact ⟨ret_val (congrArg Value.bool HE2.out.symm), HFF.out⟩
  have en : decide (n < 0) = false := decide_eq_false n0
  obtain ⟨k, rfl⟩ : ∃ k : Nat, h = (k : Int) := ⟨h.toNat, by omega⟩
  have hk : k ≤ 6 := by omega
  have hk0 : (0 : Int) ≤ (k : Int) := by omega
  have hk6 : (k : Int) ≤ 6 := by omega
  have hp64 : 2 ^ k ≤ 64 := Nat.le_trans (Nat.pow_le_pow_right (by decide) hk) (by decide)
  have hsh : wrap64 ((2 : Int) ^ k) = ((2 ^ k : Nat) : Int) := by
    have e : (2 : Int) ^ k = ((2 ^ k : Nat) : Int) := by
      rw [Int.natCast_pow]
      rfl
    rw [e]
    clear e HE HRE HCS
    generalize 2 ^ k = m at hp64 ⊢
    unfold wrap64
    omega
  have HE2 : Hid (q = ((decide (0 ≤ n) && decide (n < ((2 ^ k : Nat) : Int))) && checkT root (leafT r) n.toNat (2 ^ k) P)) := by
    show _ = _
    rw [HE.out, HRE.out rfl, decide_eq_true hk0, decide_eq_true hk6, Int.toNat_natCast]
    rfl
  have HCK : Hid (n < ((2 ^ k : Nat) : Int) → ∀ w', Below w1.heap.size w1 w' → Calls Tryz.prog 126 #[.agg (root.map bv).toArray, .agg ((leafT r).map bv).toArray, .int .i64 n, .int .i64 ((2 ^ k : Nat) : Int), .slice C P.length c] w' fun e w'' => e = .returned (.bool q) ∧ Below w'.heap.size w' w'') := fun hn w' hb => by
    obtain ⟨m, rfl⟩ : ∃ m : Nat, n = (m : Int) := ⟨n.toNat, by omega⟩
    have h9 := rcheck_any root (leafT r) m (2 ^ k) P C c w' HRL.out rfl (by omega) (by omega) (HDC.out.far hb) HLC.out
    rw [HE2.out, decide_eq_true (show (0 : Int) ≤ (m : Int) by omega), decide_eq_true hn, Int.toNat_natCast]
    exact h9
  have HKR : Hid (∀ w', Below w1.heap.size w1 w' → w'.rangeAt w.heap.size 0 (root.map bv)) := fun w' hb => key_range (HK.out.below hb HK.out.lt)
  clear hp64 HE HRE
  generalize ((2 ^ k : Nat) : Int) = N at *
  by_cases hN : N ≤ n
  · have eN : decide (N ≤ n) = true := decide_eq_true hN
    have HE3 : Hid (q = false) := by
      show _ = _
      rw [HE2.out, decide_eq_false (show ¬ n < N by omega)]
      simp
    clear HE2 HCK
    go_wp2
    go_ret
    exact ⟨ret_val (congrArg Value.bool HE3.out.symm), HFF.out⟩
  have eN : decide (N ≤ n) = false := decide_eq_false hN
  have HCK2 := Lib.hid (HCK.out (by omega))
  have HDG : Hid (∀ w', Calls Tryz.prog 68 #[.agg (r.map bv).toArray] w' fun e w'' => e = .returned (str r) ∧ Below w'.heap.size w' w'') := fun w' => digstr_any r HRR.out w'
  have HLF : Hid (∀ w', Calls Tryz.prog 127 #[str r] w' fun e w'' => e = .returned (.agg ((leafT r).map bv).toArray) ∧ Below w'.heap.size w' w'') := fun w' => rleaf_any r (by rw [HRR.out]; decide) w'
  have hn1 := dig_list root HRL.out
  have hn2 := dig_list r HRR.out
  have hund := Tryz.underlying29
  clear HE2 HCK
  generalize leafT r = lf at *
  go_upto_region 7 with fail
  have HB4d := Lib.hid HB4.out.drew
  have HX4d : Hid (Box w4.drew w3.heap.size 29 (r.map bv).toArray) := HX4.out.drew
  refine wp_region_held_drew (S := fun w' => Below w1.heap.size w1 w' ∧ Box w' w3.heap.size 29 (r.map bv).toArray) (by kernel_rfl) ⟨HB4d.out, HX4d.out⟩ (fun hS => ?_)
  clear c32 s0
  (refine wpAnyH_take (i := 0) (v := .pointer (some ⟨w.heap.size, 0, none⟩)) rfl (by kernel_rfl) (by kernel_rfl) (by kernel_rfl) (fun _ _ _ h => h) (Or.inl ⟨by kernel_rfl, fun w hSw => by go_simp⟩) hS ?_)
  (try simp only [Act.put])
  (refine wpAnyH_take (i := 1) (v := .agg (root.map bv).toArray) rfl (by kernel_rfl) (by kernel_rfl) (by kernel_rfl) (fun _ _ _ h => h) (yieldsIf_load_mid (by kernel_rfl) 29 (.tmp 42) rfl w.heap.size (0) (by kernel_rfl) (root.map bv) _ (fun w h => HKR.out w h.1) hund rfl hn1) hS ?_)
  (try simp only [Act.put])
  (refine wpAnyH_take (i := 2) (v := .agg (r.map bv).toArray) rfl (by kernel_rfl) (by kernel_rfl) (by kernel_rfl) (fun _ _ _ h => h) (yieldsIf_load_mid (by kernel_rfl) 29 (.tmp 7) rfl w3.heap.size (0) (by kernel_rfl) (r.map bv) _ (fun w h => h.2.range) hund rfl hn2) hS ?_)
  (try simp only [Act.put])
  (refine wpAnyH_take (i := 5) (v := .pointer (some ⟨w.heap.size + 1 + 1, 0, none⟩)) rfl (by kernel_rfl) (by kernel_rfl) (by kernel_rfl) (fun _ _ _ h => h) (Or.inl ⟨by kernel_rfl, fun w hSw => by go_simp⟩) hS ?_)
  (try simp only [Act.put])
  (refine wpAnyH_take (i := 6) (v := .int .i64 n) rfl (by kernel_rfl) (by kernel_rfl) (by kernel_rfl) (fun _ _ _ h => h) (Or.inl ⟨by kernel_rfl, fun w hSw => by have hc := (HCS.out w hSw.1).2.1; go_simp⟩) hS ?_)
  (try simp only [Act.put])
  (refine wpAnyH_take (i := 7) (v := .int .i64 N) rfl (by kernel_rfl) (by kernel_rfl) (by kernel_rfl) (fun _ _ _ h => h) (Or.inl ⟨by kernel_rfl, fun w hSw => by go_simp⟩) hS ?_)
  (try simp only [Act.put])
  (refine wpAnyH_take (i := 8) (v := .pointer (some ⟨w.heap.size + 1 + 1, 3, none⟩)) rfl (by kernel_rfl) (by kernel_rfl) (by kernel_rfl) (fun _ _ _ h => h) (Or.inl ⟨by kernel_rfl, fun w hSw => by go_simp⟩) hS ?_)
  (try simp only [Act.put])
  (refine wpAnyH_take (i := 9) (v := .slice C P.length c) rfl (by kernel_rfl) (by kernel_rfl) (by kernel_rfl) (fun _ _ _ h => h) (Or.inl ⟨by kernel_rfl, fun w hSw => by have hc := (HCS.out w hSw.1).2.2; go_simp⟩) hS ?_)
  (try simp only [Act.put])
  refine wpAnyH_ready (rs := [3]) (by decide +kernel) (by simp) (AllReadyH.cons rfl (fun K hK => ?_) AllReadyH.nil)
  go_simp
  (go_at_call 68; (with_reducible refine (HDG.out _).mono ?_); rintro e w5 ⟨rfl, hb⟩)
  refine hK.out _ _ (⟨hS.1.trans (hb.mono hS.1.size), hS.2.below hb hS.2.lt⟩) (fun hS => ?_)
  clear hK K
  (try simp only [Act.put])
  clear hb
  refine wpAnyH_ready (rs := [4]) (by decide +kernel) (by simp) (AllReadyH.cons rfl (fun K hK => ?_) AllReadyH.nil)
  go_simp
  (go_at_call 127; (with_reducible refine (HLF.out _).mono ?_); rintro e w6 ⟨rfl, hb⟩)
  refine hK.out _ _ (⟨hS.1.trans (hb.mono hS.1.size), hS.2.below hb hS.2.lt⟩) (fun hS => ?_)
  clear hK K
  (try simp only [Act.put])
  clear hb
  refine wpAnyH_ready (rs := [10]) (by decide +kernel) (by simp) (AllReadyH.cons rfl (fun K hK => ?_) AllReadyH.nil)
  go_simp
  (go_at_call 126; (with_reducible refine (HCK2.out _ hS.1).mono ?_); rintro e w7 ⟨rfl, hb⟩)
  refine hK.out _ _ (⟨hS.1.trans (hb.mono hS.1.size), hS.2.below hb hS.2.lt⟩) (fun hS => ?_)
  clear hK K
  (try simp only [Act.put])
  clear hb
  refine wpAnyH_ready (rs := [11]) (by decide +kernel) (by simp) (AllReadyH.cons rfl (fun K hK => ?_) AllReadyH.nil)
  go_simp
  refine hK.out _ _ (hS) (fun hS => ?_)
  clear hK K
  (try simp only [Act.put])
  refine wpAnyH_done (by kernel_rfl) ?_ _
  have HFG := Lib.hid (HF.out.trans (hS.1.mono HF.out.size))
  clear hS
  go_wp2
  go_ret
  exact ⟨rfl, HFG.out⟩
end Go.Proofs.YtbclepdcngaonaaGreatDoor
