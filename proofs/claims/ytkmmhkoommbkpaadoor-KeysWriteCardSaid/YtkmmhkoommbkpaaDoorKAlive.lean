/-
  What the laws of layer 5 ask first: that a tree is made, and signs, and what it signed is right (wapentakelaw05.alive).
-/
import Derived.Test.YtkmmhkoommbkpaaDoorKCheck
import Derived.Deep.RegionHeld3
namespace Go.Proofs.YtkmmhkoommbkpaaDoor
open Go.RowKit

attribute [local go_sem ↓] ldDigest_def

/-- What a tree signed is right under its key. -/
theorem goodK_own (seed d : List UInt8) (h n : Nat) (hh : h ≤ 6) (hn : n < 2 ^ h) : goodK (keyT seed h) d (h : Int) (n : Int) (openT seed (n : Int) d) (shutT seed (n : Int) d) (pathT (leavesT seed h) n) = true := by
  obtain ⟨h1, h2⟩ := sign_lens seed (n : Int) d
  have hr := right_own seed d h hn
  unfold rightT at hr
  unfold goodK
  rw [Int.toNat_natCast, Int.toNat_natCast, hr, decide_eq_true (show (0 : Int) ≤ (h : Int) by omega), decide_eq_true (show (h : Int) ≤ 6 by omega), decide_eq_true (And.intro h1 h2), decide_eq_true (show (0 : Int) ≤ (n : Int) by omega), decide_eq_true (show (n : Int) < ((2 ^ h : Nat) : Int) by omega)]
  rfl
/-- What a tree signed, in memory, checked. -/
theorem check_own_sig (seed d : List UInt8) (hd : d.length = 32) (h n : Nat) (hh : h ≤ 6) (hn : n < 2 ^ h) (g1 g2 : Nat) (C : Option Addr) (c : Nat) (w w0 : World) (b1 : Box w g1 23 ((openT seed (n : Int) d).flatten.map bv).toArray) (b2 : Box w g2 23 ((shutT seed (n : Int) d).flatten.map bv).toArray) (hP : PaW w0 (.slice C (pathT (leavesT seed h) n).length c) (pathT (leavesT seed h) n) w) (hR : Roots w) :
    Calls Tryd.prog 16 #[.agg (keyV (keyT seed h) (h : Int)), .agg (d.map bv).toArray, .agg (sigV (n : Int) (some ⟨g1, 0, none⟩) 32 32 (some ⟨g2, 0, none⟩) 32 32 C (pathT (leavesT seed h) n).length c)] w fun e w' => e = .returned (.bool true) ∧ Below w.heap.size w w' := by
  obtain ⟨h1, h2⟩ := sign_lens seed (n : Int) d
  have hA : Digs w w.heap.size (some ⟨g1, 0, none⟩) (openT seed (n : Int) d) := ⟨open_all seed n d, Sees.of_box b1 b1.lt⟩
  have hB : Digs w w.heap.size (some ⟨g2, 0, none⟩) (shutT seed (n : Int) d) := ⟨shut_all seed n d, Sees.of_box b2 b2.lt⟩
  have hC : Digs w w.heap.size C (pathT (leavesT seed h) n) := OwnD.digs hP.own hP.all
  have hc := (OwnD.form hP.own).1
  have hk := kcheck_any (keyT seed h) d (keyT_len seed h) hd (h : Int) (n : Int) (openT seed (n : Int) d) (shutT seed (n : Int) d) (pathT (leavesT seed h) n) (some ⟨g1, 0, none⟩) (some ⟨g2, 0, none⟩) C 32 32 c hc w hA hB hC hR
  rw [goodK_own seed d h n hh hn, h1, h2] at hk
  exact hk

def fiveD : List UInt8 := 5 :: List.replicate 31 0
theorem one_cells : (oneSeed.map bv).toArray = #[.int .u8 1, .int .u8 0, .int .u8 0, .int .u8 0, .int .u8 0, .int .u8 0, .int .u8 0, .int .u8 0, .int .u8 0, .int .u8 0, .int .u8 0, .int .u8 0, .int .u8 0, .int .u8 0, .int .u8 0, .int .u8 0, .int .u8 0, .int .u8 0, .int .u8 0, .int .u8 0, .int .u8 0, .int .u8 0, .int .u8 0, .int .u8 0, .int .u8 0, .int .u8 0, .int .u8 0, .int .u8 0, .int .u8 0, .int .u8 0, .int .u8 0, .int .u8 0] := rfl
theorem five_cells : (fiveD.map bv).toArray = #[.int .u8 5, .int .u8 0, .int .u8 0, .int .u8 0, .int .u8 0, .int .u8 0, .int .u8 0, .int .u8 0, .int .u8 0, .int .u8 0, .int .u8 0, .int .u8 0, .int .u8 0, .int .u8 0, .int .u8 0, .int .u8 0, .int .u8 0, .int .u8 0, .int .u8 0, .int .u8 0, .int .u8 0, .int .u8 0, .int .u8 0, .int .u8 0, .int .u8 0, .int .u8 0, .int .u8 0, .int .u8 0, .int .u8 0, .int .u8 0, .int .u8 0, .int .u8 0] := rfl
theorem none_cells : (noneD.map bv).toArray = #[.int .u8 0, .int .u8 0, .int .u8 0, .int .u8 0, .int .u8 0, .int .u8 0, .int .u8 0, .int .u8 0, .int .u8 0, .int .u8 0, .int .u8 0, .int .u8 0, .int .u8 0, .int .u8 0, .int .u8 0, .int .u8 0, .int .u8 0, .int .u8 0, .int .u8 0, .int .u8 0, .int .u8 0, .int .u8 0, .int .u8 0, .int .u8 0, .int .u8 0, .int .u8 0, .int .u8 0, .int .u8 0, .int .u8 0, .int .u8 0, .int .u8 0, .int .u8 0] := rfl

set_option maxRecDepth 100000 in
set_option maxHeartbeats 2000000 in
theorem kalive_any (w : World) (hR : Roots w) : Calls Tryd.prog 7 #[] w fun e w' => e = .returned (.bool true) ∧ Below w.heap.size w w' := by
  have HR := Lib.hid hR
  have HNW : Hid (Calls Tryd.prog 10 #[.agg #[.int .u8 1, .int .u8 0, .int .u8 0, .int .u8 0, .int .u8 0, .int .u8 0, .int .u8 0, .int .u8 0, .int .u8 0, .int .u8 0, .int .u8 0, .int .u8 0, .int .u8 0, .int .u8 0, .int .u8 0, .int .u8 0, .int .u8 0, .int .u8 0, .int .u8 0, .int .u8 0, .int .u8 0, .int .u8 0, .int .u8 0, .int .u8 0, .int .u8 0, .int .u8 0, .int .u8 0, .int .u8 0, .int .u8 0, .int .u8 0, .int .u8 0, .int .u8 0], .int .i64 1] w (NewIs w oneSeed 1)) := new_any oneSeed rfl 1 (by decide) w hR
  have HSG : Hid (∀ w' a g, Below w.heap.size w w' → TreeW w' a g oneSeed 1 → Calls Tryd.prog 8 #[.pointer (some ⟨a, 0, none⟩), .int .i64 1, .agg #[.int .u8 5, .int .u8 0, .int .u8 0, .int .u8 0, .int .u8 0, .int .u8 0, .int .u8 0, .int .u8 0, .int .u8 0, .int .u8 0, .int .u8 0, .int .u8 0, .int .u8 0, .int .u8 0, .int .u8 0, .int .u8 0, .int .u8 0, .int .u8 0, .int .u8 0, .int .u8 0, .int .u8 0, .int .u8 0, .int .u8 0, .int .u8 0, .int .u8 0, .int .u8 0, .int .u8 0, .int .u8 0, .int .u8 0, .int .u8 0, .int .u8 0, .int .u8 0]] w' (TSignIs w' 1 (openT oneSeed 1 fiveD) (shutT oneSeed 1 fiveD) (pathT (leavesT oneSeed 1) 1))) := fun w' a g hb ht => tsign_any a g oneSeed rfl 1 1 (by decide) (by decide) fiveD rfl w' ht (HR.out.of_below hb)
  have HSN : Hid (∀ w' a g, TreeW w' a g oneSeed 1 → Calls Tryd.prog 8 #[.pointer (some ⟨a, 0, none⟩), .int .i64 2, .agg #[.int .u8 0, .int .u8 0, .int .u8 0, .int .u8 0, .int .u8 0, .int .u8 0, .int .u8 0, .int .u8 0, .int .u8 0, .int .u8 0, .int .u8 0, .int .u8 0, .int .u8 0, .int .u8 0, .int .u8 0, .int .u8 0, .int .u8 0, .int .u8 0, .int .u8 0, .int .u8 0, .int .u8 0, .int .u8 0, .int .u8 0, .int .u8 0, .int .u8 0, .int .u8 0, .int .u8 0, .int .u8 0, .int .u8 0, .int .u8 0, .int .u8 0, .int .u8 0]] w' fun e w'' => e = .returned (.tuple #[.agg zsig, .int .i64 1]) ∧ Below w'.heap.size w' w'') := fun w' a g ht => tsign_not a oneSeed (keyT oneSeed 1) rfl (keyT_len oneSeed 1) ((1 : Nat) : Int) (some ⟨g, 0, none⟩) (2 ^ 1) (2 ^ 1) 2 (by decide) noneD w' ht.tree
  have HKY : Hid (∀ w' a g, TreeW w' a g oneSeed 1 → Calls Tryd.prog 9 #[.pointer (some ⟨a, 0, none⟩)] w' fun e w'' => e = .returned (.agg (keyV (keyT oneSeed 1) 1)) ∧ Below w'.heap.size w' w'') := fun w' a g ht => tkey_any a oneSeed (keyT oneSeed 1) rfl (keyT_len oneSeed 1) 1 (.slice (some ⟨g, 0, none⟩) (2 ^ 1) (2 ^ 1)) w' ht.tree
  have HCK : Hid (∀ w' w0 g1 g2 C c, Below w.heap.size w w' → Box w' g1 23 ((openT oneSeed 1 fiveD).flatten.map bv).toArray → Box w' g2 23 ((shutT oneSeed 1 fiveD).flatten.map bv).toArray → PaW w0 (.slice C (pathT (leavesT oneSeed 1) 1).length c) (pathT (leavesT oneSeed 1) 1) w' →
      Calls Tryd.prog 16 #[.agg (keyV (keyT oneSeed 1) 1), .agg #[.int .u8 5, .int .u8 0, .int .u8 0, .int .u8 0, .int .u8 0, .int .u8 0, .int .u8 0, .int .u8 0, .int .u8 0, .int .u8 0, .int .u8 0, .int .u8 0, .int .u8 0, .int .u8 0, .int .u8 0, .int .u8 0, .int .u8 0, .int .u8 0, .int .u8 0, .int .u8 0, .int .u8 0, .int .u8 0, .int .u8 0, .int .u8 0, .int .u8 0, .int .u8 0, .int .u8 0, .int .u8 0, .int .u8 0, .int .u8 0, .int .u8 0, .int .u8 0], .agg (sigV 1 (some ⟨g1, 0, none⟩) 32 32 (some ⟨g2, 0, none⟩) 32 32 C (pathT (leavesT oneSeed 1) 1).length c)] w' fun e w'' => e = .returned (.bool true) ∧ Below w'.heap.size w' w'') := fun w' w0 g1 g2 C c hb b1 b2 hp => check_own_sig oneSeed fiveD rfl 1 1 (by decide) (by decide) g1 g2 C c w' w0 b1 b2 hp (HR.out.of_below hb)
  clear HR hR
  generalize openT oneSeed 1 fiveD = X at *
  generalize shutT oneSeed 1 fiveD = Y at *
  generalize pathT (leavesT oneSeed 1) 1 = P at *
  generalize keyT oneSeed 1 = r at *
  go_enter Tryd.func7, Tryd.ntmps7
  go_upto_region 4 with (go_at_call 10; (with_reducible refine (HNW.out).mono ?_); rintro e w1 ⟨a, g, rfl, ht, hb, _, _⟩; have HT1 := Lib.hid ht; have HB1 := Lib.hid hb; clear ht hb)
  go_upto_region 5 with (first
    | (go_at_call 8; (with_reducible refine (HSG.out _ _ _ HB1.out HT1.out).mono ?_); rintro e w2 ⟨g1, g2, C, c, rfl, b1, b2, hp, _, _⟩; have HX2 := Lib.hid (And.intro b1 b2); have HP2 := Lib.hid hp; have HSZ := Lib.hid (sig_size 1 (some ⟨g1, 0, none⟩) 32 32 (some ⟨g2, 0, none⟩) 32 32 C P.length c); have HON := Lib.hid (sig_one 1 (some ⟨g1, 0, none⟩) 32 32 (some ⟨g2, 0, none⟩) 32 32 C P.length c); clear b1 b2 hp)
    | (((with_reducible show wpList _ _ _ ((⟨none, Op.store _ (.tmp 3) (.tmp 22), _, _, _, _⟩ : Oper) :: _) _ _)); refine wpList_store_box rfl 30 (.tmp 3) (.tmp 22) rfl w2.heap.size (sigV 1 (some ⟨g1, 0, none⟩) 32 32 (some ⟨g2, 0, none⟩) 32 32 C P.length c) rfl rfl 30 zsig (Box.made w2 _ _) rfl HSZ.out HON.out ?_; intro w3 hb3 hg3; have HG3 := Lib.hid hb3; have HB3 := Lib.hid (((Below.refl w2.heap.size w2).alloc (Nat.le_refl _) (.cells zsig 30)).trans (below_only hg3 (Nat.le_refl _) (by simp))); clear hb3 hg3))
  have HT3 := Lib.hid ((HT1.out.call HP2.out.far).call HB3.out)
  have HF3 := Lib.hid ((HB1.out.trans (HP2.out.far.mono HB1.out.size)).trans (HB3.out.mono (HB1.out.trans (HP2.out.far.mono HB1.out.size)).size))
  go_upto_region 6 with (first
    | (go_at_call 8; (with_reducible refine (HSN.out _ _ _ HT3.out).mono ?_); rintro e w4 ⟨rfl, hb⟩; have HB4 := Lib.hid hb; clear hb)
    | (((with_reducible show wpList _ _ _ ((⟨none, Op.store _ (.tmp 5) (.tmp 28), _, _, _, _⟩ : Oper) :: _) _ _)); refine wpList_store_box rfl 30 (.tmp 5) (.tmp 28) rfl w4.heap.size zsig rfl rfl 30 zsig (Box.made w4 _ _) rfl (sig_size 0 none 0 0 none 0 0 none 0 0) (sig_one 0 none 0 0 none 0 0 none 0 0) ?_; intro w5 hb5 hg5; have HB5 := Lib.hid (HB4.out.trans ((((Below.refl w4.heap.size w4).alloc (Nat.le_refl _) (.cells zsig 30)).trans (below_only hg5 (Nat.le_refl _) (by simp))).mono HB4.out.size)); clear hb5 hg5))
  clear HSZ HON HNW HSG HSN HB4
  have HX3 : Hid (Box w3 g1 23 (X.flatten.map bv).toArray ∧ Box w3 g2 23 (Y.flatten.map bv).toArray) := ⟨HX2.out.1.below HB3.out HX2.out.1.lt, HX2.out.2.below HB3.out HX2.out.2.lt⟩
  have HP3 := Lib.hid (HP2.out.call HB3.out)
  have HKY2 : Hid (∀ w', Below w3.heap.size w3 w' → Calls Tryd.prog 9 #[.pointer (some ⟨a, 0, none⟩)] w' fun e w'' => e = .returned (.agg (keyV r 1)) ∧ Below w'.heap.size w' w'') := fun w' hb => HKY.out w' a g (HT3.out.call hb)
  have HCK2 : Hid (∀ w', Below w3.heap.size w3 w' → Calls Tryd.prog 16 #[.agg (keyV r 1), .agg #[.int .u8 5, .int .u8 0, .int .u8 0, .int .u8 0, .int .u8 0, .int .u8 0, .int .u8 0, .int .u8 0, .int .u8 0, .int .u8 0, .int .u8 0, .int .u8 0, .int .u8 0, .int .u8 0, .int .u8 0, .int .u8 0, .int .u8 0, .int .u8 0, .int .u8 0, .int .u8 0, .int .u8 0, .int .u8 0, .int .u8 0, .int .u8 0, .int .u8 0, .int .u8 0, .int .u8 0, .int .u8 0, .int .u8 0, .int .u8 0, .int .u8 0, .int .u8 0], .agg (sigV 1 (some ⟨g1, 0, none⟩) 32 32 (some ⟨g2, 0, none⟩) 32 32 C P.length c)] w' fun e w'' => e = .returned (.bool true) ∧ Below w'.heap.size w' w'') := fun w' hb => HCK.out w' _ g1 g2 C c (HF3.out.trans (hb.mono HF3.out.size)) (HX3.out.1.below hb HX3.out.1.lt) (HX3.out.2.below hb HX3.out.2.lt) (HP3.out.call hb)
  have HGR : Hid (∀ w', Below w3.heap.size w3 w' → w'.rangeAt w2.heap.size 0 (sigV 1 (some ⟨g1, 0, none⟩) 32 32 (some ⟨g2, 0, none⟩) 32 32 C P.length c).toList) := fun w' hb => Box.range (HG3.out.below hb HG3.out.lt)
  have hund := Tryd.underlying30
  have hn1 := sig_list 1 (some ⟨g1, 0, none⟩) 32 32 (some ⟨g2, 0, none⟩) 32 32 C P.length c
  have HB5d := Lib.hid HB5.out.drew
  clear HKY HCK HX2 HP2 HX3 HP3 HT1 HT3 HB1 HB3 HG3
  refine wp_region_held_drew (S := fun w' => Below w3.heap.size w3 w') (by kernel_rfl) HB5d.out (fun hS => ?_)
  (refine wpAnyH_take (i := 0) (v := .int .i64 0) rfl (by kernel_rfl) (by kernel_rfl) (by kernel_rfl) (fun _ _ _ h => h) (Or.inl ⟨by kernel_rfl, fun w hSw => by go_simp⟩) hS ?_)
  (try simp only [Act.put])
  (refine wpAnyH_take (i := 1) (v := .bool true) rfl (by kernel_rfl) (by kernel_rfl) (by kernel_rfl) (fun _ _ _ h => h) (Or.inl ⟨by kernel_rfl, fun w hSw => by go_simp⟩) hS ?_)
  (try simp only [Act.put])
  (refine wpAnyH_take (i := 2) (v := .bool true) rfl (by kernel_rfl) (by kernel_rfl) (by kernel_rfl) (fun _ _ _ h => h) (Or.inl ⟨by kernel_rfl, fun w hSw => by go_simp⟩) hS ?_)
  (try simp only [Act.put])
  (refine wpAnyH_take (i := 3) (v := .int .i64 1) rfl (by kernel_rfl) (by kernel_rfl) (by kernel_rfl) (fun _ _ _ h => h) (Or.inl ⟨by kernel_rfl, fun w hSw => by go_simp⟩) hS ?_)
  (try simp only [Act.put])
  (refine wpAnyH_take (i := 4) (v := .bool true) rfl (by kernel_rfl) (by kernel_rfl) (by kernel_rfl) (fun _ _ _ h => h) (Or.inl ⟨by kernel_rfl, fun w hSw => by go_simp⟩) hS ?_)
  (try simp only [Act.put])
  (refine wpAnyH_take (i := 5) (v := .bool true) rfl (by kernel_rfl) (by kernel_rfl) (by kernel_rfl) (fun _ _ _ h => h) (Or.inl ⟨by kernel_rfl, fun w hSw => by go_simp⟩) hS ?_)
  (try simp only [Act.put])
  (refine wpAnyH_take (i := 6) (v := .bool true) rfl (by kernel_rfl) (by kernel_rfl) (by kernel_rfl) (fun _ _ _ h => h) (Or.inl ⟨by kernel_rfl, fun w hSw => by go_simp⟩) hS ?_)
  (try simp only [Act.put])
  (refine wpAnyH_take (i := 7) (v := .pointer (some ⟨a, 0, none⟩)) rfl (by kernel_rfl) (by kernel_rfl) (by kernel_rfl) (fun _ _ _ h => h) (Or.inl ⟨by kernel_rfl, fun w hSw => by go_simp⟩) hS ?_)
  (try simp only [Act.put])
  (refine wpAnyH_take (i := 9) (v := .agg #[.int .u8 5, .int .u8 0, .int .u8 0, .int .u8 0, .int .u8 0, .int .u8 0, .int .u8 0, .int .u8 0, .int .u8 0, .int .u8 0, .int .u8 0, .int .u8 0, .int .u8 0, .int .u8 0, .int .u8 0, .int .u8 0, .int .u8 0, .int .u8 0, .int .u8 0, .int .u8 0, .int .u8 0, .int .u8 0, .int .u8 0, .int .u8 0, .int .u8 0, .int .u8 0, .int .u8 0, .int .u8 0, .int .u8 0, .int .u8 0, .int .u8 0, .int .u8 0]) rfl (by kernel_rfl) (by kernel_rfl) (by kernel_rfl) (fun _ _ _ h => h) (Or.inl ⟨by kernel_rfl, fun w hSw => by go_simp⟩) hS ?_)
  (try simp only [Act.put])
  (refine wpAnyH_take (i := 10) (v := .agg (sigV 1 (some ⟨g1, 0, none⟩) 32 32 (some ⟨g2, 0, none⟩) 32 32 C P.length c)) rfl (by kernel_rfl) (by kernel_rfl) (by kernel_rfl) (fun _ _ _ h => h) (yieldsIf_load_mid (by kernel_rfl) 30 (.tmp 3) rfl w2.heap.size (0) (by kernel_rfl) ((sigV 1 (some ⟨g1, 0, none⟩) 32 32 (some ⟨g2, 0, none⟩) 32 32 C P.length c).toList) _ (fun w h => HGR.out w h) hund rfl hn1) hS ?_)
  (try simp only [Act.put])
  refine wpAnyH_ready (rs := [8]) (by decide +kernel) (by simp) (AllReadyH.cons rfl (fun K hK => ?_) AllReadyH.nil)
  go_simp
  (go_at_call 9; (with_reducible refine (HKY2.out _ hS).mono ?_); rintro e w6 ⟨rfl, hb⟩)
  refine hK.out _ _ (hS.trans (hb.mono hS.size)) (fun hS => ?_)
  clear hK K
  (try simp only [Act.put])
  clear hb
  refine wpAnyH_ready (rs := [11]) (by decide +kernel) (by simp) (AllReadyH.cons rfl (fun K hK => ?_) AllReadyH.nil)
  go_simp
  (go_at_call 16; (with_reducible refine (HCK2.out _ hS).mono ?_); rintro e w7 ⟨rfl, hb⟩)
  refine hK.out _ _ (hS.trans (hb.mono hS.size)) (fun hS => ?_)
  clear hK K
  (try simp only [Act.put])
  clear hb
  refine wpAnyH_ready (rs := [12]) (by decide +kernel) (by simp) (AllReadyH.cons rfl (fun K hK => ?_) AllReadyH.nil)
  go_simp
  refine hK.out _ _ (hS) (fun hS => ?_)
  clear hK K
  (try simp only [Act.put])
  refine wpAnyH_ready (rs := [13]) (by decide +kernel) (by simp) (AllReadyH.cons rfl (fun K hK => ?_) AllReadyH.nil)
  go_simp
  refine hK.out _ _ (hS) (fun hS => ?_)
  clear hK K
  (try simp only [Act.put])
  refine wpAnyH_done (by kernel_rfl) ?_ _
  have HFG := Lib.hid (HF3.out.trans (hS.mono HF3.out.size))
  clear hS
  go_wp2
  go_ret
  exact ⟨rfl, HFG.out⟩
end Go.Proofs.YtkmmhkoommbkpaaDoor
