/-
  A tree's key and its signatures: (*keys.Tree).Key, (*keys.Tree).Sign.
  Whether a signature is right under a key: keys.Check.
-/
import Derived.Test.YtbclepdcngaonaaGreatDoorKA
import Derived.Test.YtbclepdcngaonaaGreatDoorOS
import Derived.Test.YtbclepdcngaonaaGreatDoorTV
import Derived.Deep.RegionHeld3
import Derived.Deep.Onto
import Derived.Test.YtbclepdcngaonaaGreatDoorOD
namespace Go.Proofs.YtbclepdcngaonaaGreatDoor
open Go.RowKit

attribute [local go_sem ↓] ldDigest_def stDigest_def

abbrev zsig : Array Value := #[.int .i64 0, .slice none 0 0, .slice none 0 0, .slice none 0 0]
noncomputable def stSig (p v : Value) : Sem Unit := Instr.storeAt 72 p v
theorem stSig_def (p v : Value) : Instr.storeAt 72 p v = stSig p v := rfl
section
attribute [local go_sem ↓] bdSig_def stSig_def
end
end Go.Proofs.YtbclepdcngaonaaGreatDoor

namespace Go.Proofs.YtbclepdcngaonaaGreatDoor
open Go.RowKit

attribute [local go_sem ↓] ldDigest_def stDigest_def

/-- What Check answers: a key, a digest, a signature's number and lists. -/
def goodK (root d : List UInt8) (h n : Int) (X Y P : List (List UInt8)) : Bool :=
  (decide (0 ≤ h) && decide (h ≤ 6)) && (decide (X.length = 32 ∧ Y.length = 32) && ((decide (0 ≤ n) && decide (n < ((2 ^ h.toNat : Nat) : Int))) && checkT root (leafT (ofT d X Y)) n.toNat (2 ^ h.toNat) P))

theorem key_cell {w : World} {b : Nat} {r : List UInt8} {h : Int} (hr : r.length = 32) (hb : Box w b 64 (keyV r h)) : w.cell? ⟨b, 32, none⟩ = some (.int .i64 h) := by
  rw [hb.cell]
  unfold keyV keyL
  rw [List.getElem?_toArray, List.getElem?_append_right (by simp [hr])]
  simp [hr]
theorem key_range {w : World} {b : Nat} {r : List UInt8} {h : Int} (hb : Box w b 64 (keyV r h)) : w.rangeAt b 0 (r.map bv) := Box.range_mid (pre := []) (post := [.int .i64 h]) hb rfl
theorem once_of_sig {w : World} {b n' x a y c z e : Nat} {n : Int} {A B C : Option Addr} (hb : Box w b 72 (sigV n A x a B y c C z e)) (_h : n' = 0) : w.rangeAt b 1 [.slice A x a, .slice B y c] := Box.range_mid (pre := [.int .i64 n]) (post := [.slice C z e]) hb rfl
theorem once2_list (A B : Option Addr) (x y a b : Nat) : (Tryz.prog.info? 70).map (·.size) = some ([.slice A x a, .slice B y b] : List Value).length := by
  show _ = some 2
  kernel_rfl
/-- once.Of on any lists: a digest, and whether it is one. -/
theorem of_both (d : List UInt8) (hd : d.length = 32) (X Y : List (List UInt8)) (A B : Option Addr) (a b : Nat) (w : World) (hA : Digs w w.heap.size A X) (hB : Digs w w.heap.size B Y) (hR : Roots w) :
    ∃ r : List UInt8, r.length = 32 ∧ (decide (X.length = 32 ∧ Y.length = 32) = true → r = ofT d X Y) ∧ Calls Tryz.prog 141 #[.agg (d.map bv).toArray, .agg #[.slice A X.length a, .slice B Y.length b]] w fun e w' => e = .returned (.tuple #[.agg (r.map bv).toArray, .bool (decide (X.length = 32 ∧ Y.length = 32))]) ∧ Below w.heap.size w w' := by
  by_cases h : X.length = 32 ∧ Y.length = 32
  · refine ⟨ofT d X Y, rfl, fun _ => rfl, ?_⟩
    have h2 := of_any' d hd X Y A B a b h.1 h.2 w hA hB hR
    rw [decide_eq_true h, h.1, h.2]
    exact h2
  · refine ⟨List.replicate 32 0, by simp, fun e => absurd (of_decide_eq_true e) h, ?_⟩
    have h2 := of_not d X Y A B a b h w
    rw [decide_eq_false h]
    exact h2
/-- tree.Check at any place. -/
theorem tcheck_both (root lf : List UInt8) (hr : root.length = 32) (hl : lf.length = 32) (n : Int) (k : Nat) (hk : k ≤ 6) (P : List (List UInt8)) (C : Option Addr) (c : Nat) (hc : P.length ≤ c) (w : World) (hD : Digs w w.heap.size C P) (hR : Roots w) :
    Calls Tryz.prog 142 #[.agg (root.map bv).toArray, .agg (lf.map bv).toArray, .int .i64 n, .int .i64 ((2 ^ k : Nat) : Int), .slice C P.length c] w fun e w' => e = .returned (.bool ((decide (0 ≤ n) && decide (n < ((2 ^ k : Nat) : Int))) && checkT root lf n.toNat (2 ^ k) P)) ∧ Below w.heap.size w w' := by
  by_cases h : (decide (0 ≤ n) && decide (n < ((2 ^ k : Nat) : Int))) = true
  · rw [h, Bool.true_and]
    rw [Bool.and_eq_true, decide_eq_true_iff, decide_eq_true_iff] at h
    have hp : 2 ^ k ≤ 64 := Nat.le_trans (Nat.pow_le_pow_right (by decide) hk) (by decide)
    obtain ⟨m, rfl⟩ : ∃ m : Nat, n = (m : Int) := ⟨n.toNat, by omega⟩
    exact check_any root lf hr hl m (2 ^ k) (by omega) (by omega) P C c w hD hc hR
  · rw [Bool.not_eq_true] at h
    rw [h, Bool.false_and]
    exact check_not root lf n _ C P.length c h w

set_option maxRecDepth 100000 in
set_option maxHeartbeats 2000000 in
theorem kcheck_any (root d : List UInt8) (hr : root.length = 32) (hd : d.length = 32) (h n : Int) (X Y P : List (List UInt8)) (A B C : Option Addr) (a b c : Nat) (hc : P.length ≤ c) (w : World) (hA : Digs w w.heap.size A X) (hB : Digs w w.heap.size B Y) (hC : Digs w w.heap.size C P) (hR : Roots w) :
    Calls Tryz.prog 122 #[.agg (keyV root h), .agg (d.map bv).toArray, .agg (sigV n A X.length a B Y.length b C P.length c)] w fun e w' => e = .returned (.bool (goodK root d h n X Y P)) ∧ Below w.heap.size w w' := by
  obtain ⟨w1, hw1⟩ : ∃ w1, w1 = ((w.alloc (.cells (keyV root h) 64)).alloc (.cells (d.map bv).toArray 29)).alloc (.cells (sigV n A X.length a B Y.length b C P.length c) 72) := ⟨_, rfl⟩
  have HK : Hid (Box w1 w.heap.size 64 (keyV root h)) := by
    rw [hw1]
    exact ((Box.made w _ _).alloc _).alloc _
  have HD : Hid (Box w1 (w.heap.size + 1) 29 (d.map bv).toArray) := by
    rw [hw1]
    exact (Box.made_at (by simp) _ _).alloc _
  have HS : Hid (Box w1 (w.heap.size + 1 + 1) 72 (sigV n A X.length a B Y.length b C P.length c)) := by
    rw [hw1]
    exact Box.made_at (by simp) _ _
  have HF : Hid (Below w.heap.size w w1) := by
    rw [hw1]
    exact (((Below.refl _ _).alloc (Nat.le_refl _) _).alloc (by simp) _).alloc (by simp; omega) _
  have HR := Lib.hid (hR.of_below HF.out)
  have HDC := Lib.hid (hC.far HF.out)
  have HRL := Lib.hid hr
  have HLC := Lib.hid hc
  have c32 := key_cell hr HK.out
  have HLD := Lib.hid (dig_list d hd)
  have HLO := Lib.hid (once2_list A B X.length Y.length a b)
  have HRO := Lib.hid (once_of_sig (n' := 0) HS.out rfl)
  obtain ⟨r, hrl, hre, hof⟩ := of_both d hd X Y A B a b w1 (hA.far HF.out) (hB.far HF.out) HR.out
  have HRR := Lib.hid hrl
  have HRE := Lib.hid hre
  have HOF := Lib.hid hof
  have HSM := Lib.hid (dig_same r hrl)
  have HSZ := Lib.hid (dig_size r hrl)
  have HGR := Lib.hid (grows_any h w1)
  obtain ⟨ok, hok⟩ : ∃ ok, decide (X.length = 32 ∧ Y.length = 32) = ok := ⟨_, rfl⟩
  have HE : Hid (goodK root d h n X Y P = ((decide (0 ≤ h) && decide (h ≤ 6)) && (ok && ((decide (0 ≤ n) && decide (n < ((2 ^ h.toNat : Nat) : Int))) && checkT root (leafT (ofT d X Y)) n.toNat (2 ^ h.toNat) P)))) := by
    show _ = _
    rw [← hok]
    rfl
  rw [hok] at HRE HOF
  clear hA hB hC hR hr hd hc hrl hre hof hok
  go_enter Tryz.func122, Tryz.ntmps122
  go_upto_region 1 with fail
  change Code.wp _ _ _ _ (((w.alloc (.cells (keyV root h) 64)).alloc (.cells (d.map bv).toArray 29)).alloc (.cells (sigV n A X.length a B Y.length b C P.length c) 72))
  rw [← hw1]
  clear hw1
  obtain ⟨gr, hgr⟩ : ∃ gr, (decide (0 ≤ h) && decide (h ≤ 6)) = gr := ⟨_, rfl⟩
  rw [hgr] at HE HGR
  rcases gr with _ | _
  · rw [Bool.false_and] at HE
    clear hgr
    go_wp2_with (go_at_call 140; (with_reducible refine (HGR.out).mono ?_); rintro e w2 ⟨rfl, rfl⟩)
    go_ret
    exact ⟨ret_val (congrArg Value.bool HE.out.symm), HF.out⟩
  · rw [Bool.and_eq_true, decide_eq_true_iff, decide_eq_true_iff] at hgr
    obtain ⟨k, rfl⟩ : ∃ k : Nat, h = (k : Int) := ⟨h.toNat, by omega⟩
    have hk : k ≤ 6 := by omega
    clear hgr
    rw [Bool.true_and] at HE
    go_upto_region 4 with (first
      | (go_at_call 140; (with_reducible refine (HGR.out).mono ?_); rintro e w2 ⟨rfl, rfl⟩)
      | ((with_reducible show wpList _ _ _ ((⟨some 14, _, _, _, _, _⟩ : Oper) :: _) _ _); refine wpList_load_mid rfl 29 (.tmp 4) rfl (w.heap.size + 1) 0 rfl (d.map bv) _ HD.out.range Tryz.underlying29 rfl HLD.out ?_)
      | ((with_reducible show wpList _ _ _ ((⟨some 16, _, _, _, _, _⟩ : Oper) :: _) _ _); refine wpList_load_mid rfl 70 (.tmp 15) rfl (w.heap.size + 1 + 1) 1 rfl [.slice A X.length a, .slice B Y.length b] _ HRO.out Tryz.underlying70 rfl HLO.out ?_)
      | (go_at_call 141; (with_reducible refine (HOF.out).mono ?_); rintro e w3 ⟨rfl, hb⟩; have HB3 := Lib.hid hb; clear hb)
      | (((with_reducible show wpList _ _ _ ((⟨none, Op.store _ (.tmp 7) (.tmp 18), _, _, _, _⟩ : Oper) :: _) _ _)); refine wpList_store_box rfl 29 (.tmp 7) (.tmp 18) rfl w3.heap.size (r.map bv).toArray rfl rfl 29 zs32 (Box.made w3 _ _) HSM.out HSZ.out (bv_one _) ?_; intro w4 hb4 hg4; have HX4 := Lib.hid hb4; have HB4 := Lib.hid (HB3.out.trans ((((Below.refl w3.heap.size w3).alloc (Nat.le_refl _) (.cells zs32 29)).trans (below_only hg4 (Nat.le_refl _) (by simp))).mono HB3.out.size)); clear hb4 hg4))
    clear c32 HRO HOF HGR HB3
    rcases ok with _ | _
    · rw [Bool.false_and] at HE
      go_quiet (fail)
      all_goals
        go_wp2
        go_ret
        exact ⟨ret_val (congrArg Value.bool HE.out.symm), HF.out.trans (below_drewN (HB4.out.mono HF.out.size) _)⟩
    · rw [Bool.true_and] at HE
      have HRE2 : Hid (r = ofT d X Y) := HRE.out rfl
      rw [← HRE2.out, show ((k : Int)).toNat = k from Int.toNat_natCast k] at HE
      have HLF : Hid (∀ w', Below w2.heap.size w2 w' → Calls Tryz.prog 143 #[.agg (r.map bv).toArray] w' fun e w'' => e = .returned (.agg ((leafT r).map bv).toArray) ∧ Below w'.heap.size w' w'') := fun w' hb => kleaf_any r HRR.out w' (HR.out.of_below hb)
      have HCT : Hid (∀ w', Calls Tryz.prog 144 #[.int .i64 (k : Int)] w' fun e w'' => e = .returned (.int .i64 ((2 ^ k : Nat) : Int)) ∧ w'' = w') := fun w' => count_any k hk w'
      have HCK : Hid (∀ w', Below w2.heap.size w2 w' → Calls Tryz.prog 142 #[.agg (root.map bv).toArray, .agg ((leafT r).map bv).toArray, .int .i64 n, .int .i64 ((2 ^ k : Nat) : Int), .slice C P.length c] w' fun e w'' => e = .returned (.bool (goodK root d (k : Int) n X Y P)) ∧ Below w'.heap.size w' w'') := fun w' hb => by
        have h9 := tcheck_both root (leafT r) HRL.out rfl n k hk P C c HLC.out w' (HDC.out.far hb) (HR.out.of_below hb)
        rw [← HE.out] at h9
        exact h9
      have HCS : Hid (∀ w', Below w2.heap.size w2 w' → w'.cell? ⟨w.heap.size, 32, none⟩ = some (.int .i64 (k : Int)) ∧ w'.cell? ⟨w.heap.size + 1 + 1, 0, none⟩ = some (.int .i64 n) ∧ w'.cell? ⟨w.heap.size + 1 + 1, 3, none⟩ = some (.slice C P.length c)) := fun w' hb => ⟨key_cell HRL.out (HK.out.below hb HK.out.lt), (HS.out.below hb HS.out.lt).cell 0, (HS.out.below hb HS.out.lt).cell 3⟩
      have HKR : Hid (∀ w', Below w2.heap.size w2 w' → w'.rangeAt w.heap.size 0 (root.map bv)) := fun w' hb => key_range (HK.out.below hb HK.out.lt)
      have hn1 := dig_list root HRL.out
      have hn2 := dig_list r HRR.out
      have hund := Tryz.underlying29
      have hrl := HRR.out
      generalize hq : goodK root d (k : Int) n X Y P = q at *
      have HQ := Lib.hid hq
      clear hq
      generalize leafT r = lf at *
      generalize ((2 ^ k : Nat) : Int) = N at *
      have HB4d := Lib.hid HB4.out.drew
      have HX4d : Hid (Box w4.drew w3.heap.size 29 (r.map bv).toArray) := HX4.out.drew
      refine wp_region_held_drew (S := fun w' => Below w2.heap.size w2 w' ∧ Box w' w3.heap.size 29 (r.map bv).toArray) (by kernel_rfl) ⟨HB4d.out, HX4d.out⟩ (fun hS => ?_)
      (refine wpAnyH_take (i := 0) (v := .bool true) rfl (by kernel_rfl) (by kernel_rfl) (by kernel_rfl) (fun _ _ _ h => h) (Or.inl ⟨by kernel_rfl, fun w hSw => by go_simp⟩) hS ?_)
      (try simp only [Act.put])
      (refine wpAnyH_take (i := 1) (v := .bool true) rfl (by kernel_rfl) (by kernel_rfl) (by kernel_rfl) (fun _ _ _ h => h) (Or.inl ⟨by kernel_rfl, fun w hSw => by go_simp⟩) hS ?_)
      (try simp only [Act.put])
      (refine wpAnyH_take (i := 2) (v := .pointer (some ⟨w.heap.size, 0, none⟩)) rfl (by kernel_rfl) (by kernel_rfl) (by kernel_rfl) (fun _ _ _ h => h) (Or.inl ⟨by kernel_rfl, fun w hSw => by go_simp⟩) hS ?_)
      (try simp only [Act.put])
      (refine wpAnyH_take (i := 3) (v := .agg (root.map bv).toArray) rfl (by kernel_rfl) (by kernel_rfl) (by kernel_rfl) (fun _ _ _ h => h) (yieldsIf_load_mid (by kernel_rfl) 29 (.tmp 22) rfl w.heap.size (0) (by kernel_rfl) (root.map bv) _ (fun w h => HKR.out w h.1) hund rfl hn1) hS ?_)
      (try simp only [Act.put])
      (refine wpAnyH_take (i := 4) (v := .agg (r.map bv).toArray) rfl (by kernel_rfl) (by kernel_rfl) (by kernel_rfl) (fun _ _ _ h => h) (yieldsIf_load_mid (by kernel_rfl) 29 (.tmp 7) rfl w3.heap.size (0) (by kernel_rfl) (r.map bv) _ (fun w h => h.2.range) hund rfl hn2) hS ?_)
      (try simp only [Act.put])
      (refine wpAnyH_take (i := 6) (v := .pointer (some ⟨w.heap.size + 1 + 1, 0, none⟩)) rfl (by kernel_rfl) (by kernel_rfl) (by kernel_rfl) (fun _ _ _ h => h) (Or.inl ⟨by kernel_rfl, fun w hSw => by go_simp⟩) hS ?_)
      (try simp only [Act.put])
      (refine wpAnyH_take (i := 7) (v := .int .i64 n) rfl (by kernel_rfl) (by kernel_rfl) (by kernel_rfl) (fun _ _ _ h => h) (Or.inl ⟨by kernel_rfl, fun w hSw => by have hc := (HCS.out w hSw.1).2.1; go_simp⟩) hS ?_)
      (try simp only [Act.put])
      (refine wpAnyH_take (i := 8) (v := .pointer (some ⟨w.heap.size, 32, none⟩)) rfl (by kernel_rfl) (by kernel_rfl) (by kernel_rfl) (fun _ _ _ h => h) (Or.inl ⟨by kernel_rfl, fun w hSw => by go_simp⟩) hS ?_)
      (try simp only [Act.put])
      (refine wpAnyH_take (i := 9) (v := .int .i64 (k : Int)) rfl (by kernel_rfl) (by kernel_rfl) (by kernel_rfl) (fun _ _ _ h => h) (Or.inl ⟨by kernel_rfl, fun w hSw => by have hc := (HCS.out w hSw.1).1; go_simp⟩) hS ?_)
      (try simp only [Act.put])
      (refine wpAnyH_take (i := 11) (v := .pointer (some ⟨w.heap.size + 1 + 1, 3, none⟩)) rfl (by kernel_rfl) (by kernel_rfl) (by kernel_rfl) (fun _ _ _ h => h) (Or.inl ⟨by kernel_rfl, fun w hSw => by go_simp⟩) hS ?_)
      (try simp only [Act.put])
      (refine wpAnyH_take (i := 12) (v := .slice C P.length c) rfl (by kernel_rfl) (by kernel_rfl) (by kernel_rfl) (fun _ _ _ h => h) (Or.inl ⟨by kernel_rfl, fun w hSw => by have hc := (HCS.out w hSw.1).2.2; go_simp⟩) hS ?_)
      (try simp only [Act.put])
      refine wpAnyH_ready (rs := [5]) (by decide +kernel) (by simp) (AllReadyH.cons rfl (fun K hK => ?_) AllReadyH.nil)
      go_simp
      (go_at_call 143; (with_reducible refine (HLF.out _ hS.1).mono ?_); rintro e w5 ⟨rfl, hb⟩)
      refine hK.out _ _ (⟨hS.1.trans (hb.mono hS.1.size), hS.2.below hb hS.2.lt⟩) (fun hS => ?_)
      clear hK K
      (try simp only [Act.put])
      clear hb
      refine wpAnyH_ready (rs := [10]) (by decide +kernel) (by simp) (AllReadyH.cons rfl (fun K hK => ?_) AllReadyH.nil)
      go_simp
      (go_at_call 144; (with_reducible refine (HCT.out _).mono ?_); rintro e w6 ⟨rfl, rfl⟩)
      refine hK.out _ _ (hS) (fun hS => ?_)
      clear hK K
      (try simp only [Act.put])
      refine wpAnyH_ready (rs := [13]) (by decide +kernel) (by simp) (AllReadyH.cons rfl (fun K hK => ?_) AllReadyH.nil)
      go_simp
      (go_at_call 142; (with_reducible refine (HCK.out _ hS.1).mono ?_); rintro e w7 ⟨rfl, hb⟩)
      refine hK.out _ _ (⟨hS.1.trans (hb.mono hS.1.size), hS.2.below hb hS.2.lt⟩) (fun hS => ?_)
      clear hK K
      (try simp only [Act.put])
      clear hb
      refine wpAnyH_ready (rs := [14]) (by decide +kernel) (by simp) (AllReadyH.cons rfl (fun K hK => ?_) AllReadyH.nil)
      go_simp
      refine hK.out _ _ (hS) (fun hS => ?_)
      clear hK K
      (try simp only [Act.put])
      refine wpAnyH_ready (rs := [15]) (by decide +kernel) (by simp) (AllReadyH.cons rfl (fun K hK => ?_) AllReadyH.nil)
      go_simp
      refine hK.out _ _ (hS) (fun hS => ?_)
      clear hK K
      (try simp only [Act.put])
      refine wpAnyH_done (by kernel_rfl) ?_ _
      have HFF := Lib.hid (HF.out.trans (hS.1.mono HF.out.size))
      clear hS
      go_wp2
      go_ret
      exact ⟨ret_val (congrArg Value.bool HQ.out.symm), HFF.out⟩
end Go.Proofs.YtbclepdcngaonaaGreatDoor
