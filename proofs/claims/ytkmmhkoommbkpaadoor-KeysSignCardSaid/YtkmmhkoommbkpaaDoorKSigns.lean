/-
  KeysSign: the walk.
-/
import Derived.Test.YtkmmhkoommbkpaaDoorKAlive
import Derived.Test.YtkmmhkoommbkpaaDoorKSame
import Derived.Test.YtkmmhkoommbkpaaDoorKRKey
import Derived.Deep.RegionHeld3
namespace Go.Proofs.YtkmmhkoommbkpaaDoor
open Go.RowKit

section
attribute [local go_sem ↓] eqKey_def
/-- Two keys compared, at a step of a region that draws its order, wanted. -/
theorem step_ne_key_if {o : Oper} {a : Act} {w : World} {K : Act → World → Prop} {Q : Exit → Act → World → Prop} (x y : Operand) (ho : o.op = .binOp .neq 35 x y 35)
    (r s : List UInt8) (h k : Int) (hx : a.eval x = .agg (keyV r h)) (hy : a.eval y = .agg (keyV s k)) (hr : r.length = 32) (hs : s.length = 32) (hK : K (a.put o.dst (.bool (!(decide (r = s) && decide (h = k))))) w) :
    Oper.wp Tryd.prog o a w K Q := by
  have he := eq_key r s h k hr hs w
  generalize (decide (r = s) && decide (h = k)) = b at *
  unfold Oper.wp execOp
  simp only [ho, hx, hy]
  go_simp
  exact hK
end

/-- Two signatures of the same cells. -/
theorem ksame_own (n : Int) (X Y P : List (List UInt8)) (hx : X.length = 32) (hy : Y.length = 32) (hp : P.length ≤ 1099511627776) (A B C A' B' C' : Option Addr) (a b c a' b' c' : Nat) (w : World) (hA : Digs w w.heap.size A X) (hB : Digs w w.heap.size B Y) (hC : Digs w w.heap.size C P) (hA' : Digs w w.heap.size A' X) (hB' : Digs w w.heap.size B' Y) (hC' : Digs w w.heap.size C' P) :
    Calls Tryd.prog 13 #[.agg (sigV n A 32 a B 32 b C P.length c), .agg (sigV n A' 32 a' B' 32 b' C' P.length c')] w fun e w' => e = .returned (.bool true) ∧ Below w.heap.size w w' := by
  have h := ksame_any n n X Y P X Y P A B C A' B' C' a b c a' b' c' w hA hB hC hA' hB' hC' (by omega) (by omega) hp
  rw [hx, hy, decide_eq_true (rfl : n = n), decide_eq_true (rfl : X = X), decide_eq_true (rfl : Y = Y), decide_eq_true (rfl : P = P)] at h
  exact h
theorem ksame_none (w : World) : Calls Tryd.prog 13 #[.agg zsig, .agg zsig] w fun e w' => e = .returned (.bool true) ∧ Below w.heap.size w w' :=
  ksame_any 0 0 [] [] [] [] [] [] none none none none none none 0 0 0 0 0 0 w (Digs.empty _ _ _) (Digs.empty _ _ _) (Digs.empty _ _ _) (Digs.empty _ _ _) (Digs.empty _ _ _) (Digs.empty _ _ _) (by simp) (by simp) (by simp)

attribute [local go_sem ↓] ldDigest_def eqKey_def

set_option maxRecDepth 100000 in
set_option maxHeartbeats 4000000 in
theorem ksigns_walk (seed : List UInt8) (hs : seed.length = 32) (height : Int) (n : Int) (hn1 : -9223372036854775808 ≤ n) (hn2 : n ≤ 9223372036854775807) (d : List UInt8) (hd : d.length = 32) (w : World) (hR : Roots w) :
    Calls Tryd.prog 3 #[.agg (seed.map bv).toArray, .int .i64 height, .int .i64 n, .agg (d.map bv).toArray] w fun e w' => e = .returned (.bool true) ∧ Below w.heap.size w w' := by
  obtain ⟨w1, hw1⟩ : ∃ w1, w1 = (w.alloc (.cells (seed.map bv).toArray 23)).alloc (.cells (d.map bv).toArray 23) := ⟨_, rfl⟩
  have HS : Hid (Box w1 w.heap.size 23 (seed.map bv).toArray) := by
    rw [hw1]
    exact (Box.made w _ _).alloc _
  have HD : Hid (Box w1 (w.heap.size + 1) 23 (d.map bv).toArray) := by
    rw [hw1]
    exact Box.made_at (by simp) _ _
  have HF : Hid (Below w.heap.size w w1) := by
    rw [hw1]
    exact ((Below.refl _ _).alloc (Nat.le_refl _) _).alloc (by simp) _
  have HR := Lib.hid (hR.of_below HF.out)
  have HAL := Lib.hid (kalive_any w1 HR.out)
  have HSN : Hid (∀ w', Calls Tryd.prog 8 #[.pointer none, .int .i64 n, .agg (d.map bv).toArray] w' fun e w'' => e = .returned (.tuple #[.agg zsig, .int .i64 2]) ∧ Below w'.heap.size w' w'') := fun w' => tsign_nil n d w'
  have HKN : Hid (∀ w', Calls Tryd.prog 9 #[.pointer none] w' fun e w'' => e = .returned (.agg (keyV noneD 0)) ∧ Below w'.heap.size w' w'') := fun w' => tkey_nil w'
  have hk0 : ∀ w, (eqKey (.agg (keyV noneD 0)) (.agg #[.int .u8 0, .int .u8 0, .int .u8 0, .int .u8 0, .int .u8 0, .int .u8 0, .int .u8 0, .int .u8 0, .int .u8 0, .int .u8 0, .int .u8 0, .int .u8 0, .int .u8 0, .int .u8 0, .int .u8 0, .int .u8 0, .int .u8 0, .int .u8 0, .int .u8 0, .int .u8 0, .int .u8 0, .int .u8 0, .int .u8 0, .int .u8 0, .int .u8 0, .int .u8 0, .int .u8 0, .int .u8 0, .int .u8 0, .int .u8 0, .int .u8 0, .int .u8 0, .int .i64 0])).run Tryd.prog w = .ok true w := fun w => eq_key noneD noneD 0 0 rfl rfl w
  have HLS := Lib.hid (dig_list seed hs)
  have HLD := Lib.hid (dig_list d hd)
  have HSL := Lib.hid hs
  have HDL := Lib.hid hd
  have HN : Hid (-9223372036854775808 ≤ n ∧ n ≤ 9223372036854775807) := ⟨hn1, hn2⟩
  have hund := Tryd.underlying23
  clear hR hs hd hn1 hn2
  go_enter Tryd.func3, Tryd.ntmps3
  go_upto_region 1 with fail
  change Code.wp _ _ _ _ ((w.alloc (.cells (seed.map bv).toArray 23)).alloc (.cells (d.map bv).toArray 23))
  rw [← hw1]
  clear hw1
  by_cases hbig : 3 < height ∧ height ≤ 6
  · have e3 : decide (3 < height) = true := decide_eq_true hbig.1
    have e6 : decide (height ≤ 6) = true := decide_eq_true hbig.2
    clear hk0
    go_wp2_with (go_at_call 7; (with_reducible refine (HAL.out).mono ?_); rintro e w2 ⟨rfl, hb⟩; have HB2 := Lib.hid hb; clear hb)
    go_ret
    exact ⟨rfl, HF.out.trans (HB2.out.mono HF.out.size)⟩
  by_cases hneg : height < 0
  · have e0 : decide (height < 0) = true := decide_eq_true hneg
    have e3 : decide (3 < height) = false := decide_eq_false (by omega)
    have HNW : Hid (∀ w', Calls Tryd.prog 10 #[.agg (seed.map bv).toArray, .int .i64 height] w' fun e w'' => e = .returned (.tuple #[.pointer none, .int .i64 1]) ∧ Below w'.heap.size w' w'') := fun w' => new_not seed height (by simp; omega) w'
    go_upto_region 9 with (first
      | (go_at_call 7; (with_reducible refine (HAL.out).mono ?_); rintro e w2 ⟨rfl, hb⟩; have HB2 := Lib.hid hb; clear hb)
      | ((with_reducible show wpList _ _ _ ((⟨some 28, _, _, _, _, _⟩ : Oper) :: _) _ _); refine wpList_load_mid rfl 23 (.tmp 7) rfl (w.heap.size + 1) 0 rfl (d.map bv) _ (HD.out.below HB2.out HD.out.lt).range hund rfl HLD.out ?_)
      | (go_at_call 8; (with_reducible refine (HSN.out _).mono ?_); rintro e w3 ⟨rfl, hb⟩; have HB3 := Lib.hid (HB2.out.trans (hb.mono HB2.out.size)); clear hb)
      | (((with_reducible show wpList _ _ _ ((⟨none, Op.store _ (.tmp 10) (.tmp 30), _, _, _, _⟩ : Oper) :: _) _ _)); refine wpList_store_box rfl 30 (.tmp 10) (.tmp 30) rfl w3.heap.size zsig rfl rfl 30 zsig (Box.made w3 _ _) rfl (sig_size 0 none 0 0 none 0 0 none 0 0) (sig_one 0 none 0 0 none 0 0 none 0 0) ?_; intro w4 hb4 hg4; have HB4 := Lib.hid (HB3.out.trans ((((Below.refl w3.heap.size w3).alloc (Nat.le_refl _) (.cells zsig 30)).trans (below_only hg4 (Nat.le_refl _) (by simp))).mono HB3.out.size)); clear hb4 hg4)
      | (go_at_call 9; (with_reducible refine (HKN.out _).mono ?_); rintro e w5 ⟨rfl, hb⟩; have HB5 := Lib.hid (HB4.out.trans (hb.mono HB4.out.size)); clear hb))
    clear hk0
    go_wp2_with (first
      | ((with_reducible show wpList _ _ _ ((⟨some 41, _, _, _, _, _⟩ : Oper) :: _) _ _); refine wpList_load_mid rfl 23 (.tmp 4) rfl w.heap.size 0 rfl (seed.map bv) _ (HS.out.below HB5.out HS.out.lt).range hund rfl HLS.out ?_)
      | (go_at_call 10; (with_reducible refine (HNW.out _).mono ?_); rintro e w6 ⟨rfl, hb⟩; have HB6 := Lib.hid (HB5.out.trans (hb.mono HB5.out.size)); clear hb))
    go_ret
    exact ⟨rfl, HF.out.trans (HB6.out.mono HF.out.size)⟩
  by_cases hsix : 6 < height
  · have e0 : decide (height < 0) = false := decide_eq_false hneg
    have e3 : decide (3 < height) = true := decide_eq_true (by omega)
    have e6 : decide (height ≤ 6) = false := decide_eq_false (by omega)
    have e7 : decide (6 < height) = true := decide_eq_true hsix
    have HNW : Hid (∀ w', Calls Tryd.prog 10 #[.agg (seed.map bv).toArray, .int .i64 height] w' fun e w'' => e = .returned (.tuple #[.pointer none, .int .i64 1]) ∧ Below w'.heap.size w' w'') := fun w' => new_not seed height (by simp; omega) w'
    go_upto_region 9 with (first
      | (go_at_call 7; (with_reducible refine (HAL.out).mono ?_); rintro e w2 ⟨rfl, hb⟩; have HB2 := Lib.hid hb; clear hb)
      | ((with_reducible show wpList _ _ _ ((⟨some 28, _, _, _, _, _⟩ : Oper) :: _) _ _); refine wpList_load_mid rfl 23 (.tmp 7) rfl (w.heap.size + 1) 0 rfl (d.map bv) _ (HD.out.below HB2.out HD.out.lt).range hund rfl HLD.out ?_)
      | (go_at_call 8; (with_reducible refine (HSN.out _).mono ?_); rintro e w3 ⟨rfl, hb⟩; have HB3 := Lib.hid (HB2.out.trans (hb.mono HB2.out.size)); clear hb)
      | (((with_reducible show wpList _ _ _ ((⟨none, Op.store _ (.tmp 10) (.tmp 30), _, _, _, _⟩ : Oper) :: _) _ _)); refine wpList_store_box rfl 30 (.tmp 10) (.tmp 30) rfl w3.heap.size zsig rfl rfl 30 zsig (Box.made w3 _ _) rfl (sig_size 0 none 0 0 none 0 0 none 0 0) (sig_one 0 none 0 0 none 0 0 none 0 0) ?_; intro w4 hb4 hg4; have HB4 := Lib.hid (HB3.out.trans ((((Below.refl w3.heap.size w3).alloc (Nat.le_refl _) (.cells zsig 30)).trans (below_only hg4 (Nat.le_refl _) (by simp))).mono HB3.out.size)); clear hb4 hg4)
      | (go_at_call 9; (with_reducible refine (HKN.out _).mono ?_); rintro e w5 ⟨rfl, hb⟩; have HB5 := Lib.hid (HB4.out.trans (hb.mono HB4.out.size)); clear hb))
    clear hk0
    go_wp2_with (first
      | ((with_reducible show wpList _ _ _ ((⟨some 41, _, _, _, _, _⟩ : Oper) :: _) _ _); refine wpList_load_mid rfl 23 (.tmp 4) rfl w.heap.size 0 rfl (seed.map bv) _ (HS.out.below HB5.out HS.out.lt).range hund rfl HLS.out ?_)
      | (go_at_call 10; (with_reducible refine (HNW.out _).mono ?_); rintro e w6 ⟨rfl, hb⟩; have HB6 := Lib.hid (HB5.out.trans (hb.mono HB5.out.size)); clear hb))
    go_ret
    exact ⟨rfl, HF.out.trans (HB6.out.mono HF.out.size)⟩
  have e0 : decide (height < 0) = false := decide_eq_false hneg
  have e3 : decide (3 < height) = false := decide_eq_false (by omega)
  have e7 : decide (6 < height) = false := decide_eq_false hsix
  obtain ⟨h, rfl⟩ : ∃ h : Nat, height = (h : Int) := ⟨height.toNat, by omega⟩
  have hh : h ≤ 6 := by omega
  have HNW : Hid (∀ w', Below w1.heap.size w1 w' → Calls Tryd.prog 10 #[.agg (seed.map bv).toArray, .int .i64 (h : Int)] w' (NewIs w' seed h)) := fun w' hb => new_any seed HSL.out h hh w' (HR.out.of_below hb)
  have HLV : Hid (∀ w', Calls Tryd.prog 11 #[.agg (seed.map bv).toArray, .int .i64 (h : Int)] w' fun e w'' => ∃ A c, e = .returned (.slice A (leavesT seed h).length c) ∧ Digs w'' w''.heap.size A (leavesT seed h) ∧ Below w'.heap.size w' w'') := fun w' => rleaves_any seed HSL.out h hh w'
  have HRK : Hid (∀ w', Calls Tryd.prog 12 #[.agg (seed.map bv).toArray, .int .i64 (h : Int)] w' fun e w'' => e = .returned (.agg (keyV (keyT seed h) h)) ∧ Below w'.heap.size w' w'') := fun w' => rkey_any seed HSL.out h hh w'
  have HKL := Lib.hid (keyT_len seed h)
  go_upto_region 9 with (first
    | (go_at_call 7; (with_reducible refine (HAL.out).mono ?_); rintro e w2 ⟨rfl, hb⟩; have HB2 := Lib.hid hb; clear hb)
    | ((with_reducible show wpList _ _ _ ((⟨some 28, _, _, _, _, _⟩ : Oper) :: _) _ _); refine wpList_load_mid rfl 23 (.tmp 7) rfl (w.heap.size + 1) 0 rfl (d.map bv) _ (HD.out.below HB2.out HD.out.lt).range hund rfl HLD.out ?_)
    | (go_at_call 8; (with_reducible refine (HSN.out _).mono ?_); rintro e w3 ⟨rfl, hb⟩; have HB3 := Lib.hid (HB2.out.trans (hb.mono HB2.out.size)); clear hb)
    | (((with_reducible show wpList _ _ _ ((⟨none, Op.store _ (.tmp 10) (.tmp 30), _, _, _, _⟩ : Oper) :: _) _ _)); refine wpList_store_box rfl 30 (.tmp 10) (.tmp 30) rfl w3.heap.size zsig rfl rfl 30 zsig (Box.made w3 _ _) rfl (sig_size 0 none 0 0 none 0 0 none 0 0) (sig_one 0 none 0 0 none 0 0 none 0 0) ?_; intro w4 hb4 hg4; have HB4 := Lib.hid (HB3.out.trans ((((Below.refl w3.heap.size w3).alloc (Nat.le_refl _) (.cells zsig 30)).trans (below_only hg4 (Nat.le_refl _) (by simp))).mono HB3.out.size)); clear hb4 hg4)
    | (go_at_call 9; (with_reducible refine (HKN.out _).mono ?_); rintro e w5 ⟨rfl, hb⟩; have HB5 := Lib.hid (HB4.out.trans (hb.mono HB4.out.size)); clear hb))
  clear hk0
  go_upto_region 13 with (first
    | ((with_reducible show wpList _ _ _ ((⟨some 41, _, _, _, _, _⟩ : Oper) :: _) _ _); refine wpList_load_mid rfl 23 (.tmp 4) rfl w.heap.size 0 rfl (seed.map bv) _ (HS.out.below HB5.out HS.out.lt).range hund rfl HLS.out ?_)
    | (go_at_call 10; (with_reducible refine (HNW.out _ HB5.out).mono ?_); rintro e w6 ⟨a, g, rfl, ht, hb, _, _⟩; have HT6 := Lib.hid ht; have HB6 := Lib.hid (HB5.out.trans (hb.mono HB5.out.size)); clear ht hb)
    | ((with_reducible show wpList _ _ _ ((⟨some 58, _, _, _, _, _⟩ : Oper) :: _) _ _); refine wpList_load_mid rfl 23 (.tmp 4) rfl w.heap.size 0 rfl (seed.map bv) _ (HS.out.below HB6.out HS.out.lt).range hund rfl HLS.out ?_)
    | (go_at_call 11; (with_reducible refine (HLV.out _).mono ?_); rintro e w7 ⟨A, c, rfl, hdg, hb⟩; have HDG := Lib.hid hdg; have HT7 := Lib.hid (HT6.out.call hb); have HB7 := Lib.hid (HB6.out.trans (hb.mono HB6.out.size)); clear hdg hb))
  have HKY : Hid (∀ w', Below w7.heap.size w7 w' → Calls Tryd.prog 9 #[.pointer (some ⟨a, 0, none⟩)] w' fun e w'' => e = .returned (.agg (keyV (keyT seed h) h)) ∧ Below w'.heap.size w' w'') := fun w' hb => tkey_any a seed (keyT seed h) HSL.out HKL.out h (.slice (some ⟨g, 0, none⟩) (2 ^ h) (2 ^ h)) w' (HT7.out.call hb).tree
  have HSR : Hid (∀ w', Below w7.heap.size w7 w' → w'.rangeAt w.heap.size 0 (seed.map bv)) := fun w' hb => ((HS.out.below HB7.out HS.out.lt).below hb (HS.out.below HB7.out HS.out.lt).lt).range
  have HDR : Hid (∀ w', Below w7.heap.size w7 w' → w'.rangeAt (w.heap.size + 1) 0 (d.map bv)) := fun w' hb => ((HD.out.below HB7.out HD.out.lt).below hb (HD.out.below HB7.out HD.out.lt).lt).range
  have hq1 := dig_list seed HSL.out
  have hq2 := dig_list d HDL.out
  have HB7d : Hid (Below w7.heap.size w7 w7.drew) := (Below.refl _ _).drew
  refine wp_region_held_drew (S := fun w' => Below w7.heap.size w7 w') (by kernel_rfl) HB7d.out (fun hS => ?_)
  clear HSN HKN HNW HLV HAL HB7d
  (refine wpAnyH_take (i := 0) (v := .int .i64 0) rfl (by kernel_rfl) (by kernel_rfl) (by kernel_rfl) (fun _ _ _ h => h) (Or.inl ⟨by kernel_rfl, fun w hSw => by go_simp⟩) hS ?_)
  (try simp only [Act.put])
  (refine wpAnyH_take (i := 1) (v := .bool false) rfl (by kernel_rfl) (by kernel_rfl) (by kernel_rfl) (fun _ _ _ h => h) (Or.inl ⟨by kernel_rfl, fun w hSw => by go_simp⟩) hS ?_)
  (try simp only [Act.put])
  (refine wpAnyH_take (i := 2) (v := .bool false) rfl (by kernel_rfl) (by kernel_rfl) (by kernel_rfl) (fun _ _ _ h => h) (Or.inl ⟨by kernel_rfl, fun w hSw => by go_simp⟩) hS ?_)
  (try simp only [Act.put])
  (refine wpAnyH_take (i := 3) (v := .pointer (some ⟨a, 0, none⟩)) rfl (by kernel_rfl) (by kernel_rfl) (by kernel_rfl) (fun _ _ _ h => h) (Or.inl ⟨by kernel_rfl, fun w hSw => by go_simp⟩) hS ?_)
  (try simp only [Act.put])
  (refine wpAnyH_take (i := 5) (v := .agg (seed.map bv).toArray) rfl (by kernel_rfl) (by kernel_rfl) (by kernel_rfl) (fun _ _ _ h => h) (yieldsIf_load_mid (by kernel_rfl) 23 (.tmp 4) rfl w.heap.size (0) (by kernel_rfl) (seed.map bv) _ (fun w h => HSR.out w h) hund rfl hq1) hS ?_)
  (try simp only [Act.put])
  (refine wpAnyH_take (i := 6) (v := .int .i64 (h : Int)) rfl (by kernel_rfl) (by kernel_rfl) (by kernel_rfl) (fun _ _ _ h => h) (Or.inl ⟨by kernel_rfl, fun w hSw => by go_simp⟩) hS ?_)
  (try simp only [Act.put])
  refine wpAnyH_ready (rs := [4]) (by decide +kernel) (by simp) (AllReadyH.cons rfl (fun K hK => ?_) AllReadyH.nil)
  go_simp
  (go_at_call 9; (with_reducible refine (HKY.out _ hS).mono ?_); rintro e w8 ⟨rfl, hb⟩)
  refine hK.out _ _ (hS.trans (hb.mono hS.size)) (fun hS => ?_)
  clear hK K
  (try simp only [Act.put])
  clear hb
  refine wpAnyH_ready (rs := [7]) (by decide +kernel) (by simp) (AllReadyH.cons rfl (fun K hK => ?_) AllReadyH.nil)
  go_simp
  (go_at_call 12; (with_reducible refine (HRK.out _).mono ?_); rintro e w9 ⟨rfl, hb⟩)
  refine hK.out _ _ (hS.trans (hb.mono hS.size)) (fun hS => ?_)
  clear hK K
  (try simp only [Act.put])
  clear hb
  refine wpAnyH_ready (rs := [8]) (by decide +kernel) (by simp) (AllReadyH.cons rfl (fun K hK => ?_) AllReadyH.nil)
  rw [if_pos (by kernel_rfl)]
  refine step_ne_key_if (.tmp 65) (.tmp 68) rfl (keyT seed h) (keyT seed h) (h : Int) (h : Int) rfl rfl HKL.out HKL.out ?_
  rw [decide_eq_true (rfl : keyT seed h = keyT seed h), decide_eq_true (rfl : (h : Int) = (h : Int))]
  simp only [Act.put, Bool.and_self, Bool.not_true]
  refine hK.out _ _ (hS) (fun hS => ?_)
  clear hK K
  (try simp only [Act.put])
  (refine wpAnyH_take (i := 9) (v := .bool false) rfl (by kernel_rfl) (by kernel_rfl) (by kernel_rfl) (fun _ _ _ h => h) (Or.inl ⟨by kernel_rfl, fun w hSw => by go_simp⟩) hS ?_)
  (try simp only [Act.put])
  refine wpAnyH_done (by kernel_rfl) ?_ _
  have HB9 := Lib.hid hS
  clear hS HKY HRK
  have HXL := Lib.hid (leaves_len seed h)
  have HT9 := Lib.hid (HT7.out.call HB9.out)
  have HDG9 := Lib.hid (HDG.out.far HB9.out)
  have HR9 := Lib.hid (HR.out.of_below (HB7.out.trans (HB9.out.mono HB7.out.size)))
  have HF9 := Lib.hid (HF.out.trans ((HB7.out.trans (HB9.out.mono HB7.out.size)).mono HF.out.size))
  have hpow : (leavesT seed h).length ≤ 64 := by
    rw [leaves_len]
    exact Nat.le_trans (Nat.pow_le_pow_right (by decide) hh) (by decide)
  by_cases hin : 0 ≤ n ∧ n < ((leavesT seed h).length : Int)
  · obtain ⟨m, rfl⟩ : ∃ m : Nat, n = (m : Int) := ⟨n.toNat, by omega⟩
    have hm : m < (leavesT seed h).length := by omega
    have f0 : decide ((m : Int) < 0) = false := decide_eq_false (by omega)
    have f1 : decide (((leavesT seed h).length : Int) ≤ (m : Int)) = false := decide_eq_false (by omega)
    have f2 : decide ((leavesT seed h).length ≤ m) = false := decide_eq_false (by omega)
    have f3 : ¬ (leavesT seed h).length ≤ m := by omega
    have HSG : Hid (Calls Tryd.prog 8 #[.pointer (some ⟨a, 0, none⟩), .int .i64 (m : Int), .agg (d.map bv).toArray] w9 (TSignIs w9 m (openT seed m d) (shutT seed m d) (pathT (leavesT seed h) m))) := tsign_any a g seed HSL.out h m hh (by rw [← HXL.out]; exact hm) d HDL.out w9 HT9.out HR9.out
    have HRS : Hid (∀ w', Below w9.heap.size w9 w' → Calls Tryd.prog 14 #[.agg (seed.map bv).toArray, .slice A (leavesT seed h).length c, .int .i64 (m : Int), .agg (d.map bv).toArray] w' (RKSignIs w' m (openT seed m d) (shutT seed m d) (pathT (leavesT seed h) m))) := fun w' hb => rksign_any seed HSL.out (leavesT seed h) A c m hm (by omega) d HDL.out w' (HDG9.out.far hb)
    have HPB : Hid ((pathT (leavesT seed h) m).length ≤ 1099511627776) := Nat.le_of_lt (Nat.lt_of_lt_of_le (pathT_short (leavesT seed h) m hm) (by omega))
    have HLO : Hid ((openT seed (m : Int) d).length = 32 ∧ (shutT seed (m : Int) d).length = 32) := sign_lens seed m d
    have HAO : Hid (AllD (openT seed (m : Int) d) ∧ AllD (shutT seed (m : Int) d)) := ⟨open_all seed m d, shut_all seed m d⟩
    clear HXL HT9 hm hin
    generalize openT seed (m : Int) d = XO at *
    generalize shutT seed (m : Int) d = YO at *
    generalize pathT (leavesT seed h) m = P at *
    generalize leavesT seed h = X at *
    go_upto_region 18 with (first
      | ((with_reducible show wpList _ _ _ ((⟨some 74, _, _, _, _, _⟩ : Oper) :: _) _ _); refine wpList_load_mid rfl 23 (.tmp 7) rfl (w.heap.size + 1) 0 rfl (d.map bv) _ (HDR.out _ HB9.out) hund rfl HLD.out ?_)
      | (go_at_call 8; (with_reducible refine (HSG.out).mono ?_); rintro e w10 ⟨g1, g2, C, cc, rfl, b1, b2, hp, _, _⟩; have HX10 := Lib.hid (And.intro b1 b2); have HP10 := Lib.hid hp; have HSZ := Lib.hid (sig_size (m : Int) (some ⟨g1, 0, none⟩) 32 32 (some ⟨g2, 0, none⟩) 32 32 C P.length cc); have HON := Lib.hid (sig_one (m : Int) (some ⟨g1, 0, none⟩) 32 32 (some ⟨g2, 0, none⟩) 32 32 C P.length cc); clear b1 b2 hp)
      | (((with_reducible show wpList _ _ _ ((⟨none, Op.store _ (.tmp 15) (.tmp 76), _, _, _, _⟩ : Oper) :: _) _ _)); refine wpList_store_box rfl 30 (.tmp 15) (.tmp 76) rfl w10.heap.size (sigV (m : Int) (some ⟨g1, 0, none⟩) 32 32 (some ⟨g2, 0, none⟩) 32 32 C P.length cc) rfl rfl 30 zsig (Box.made w10 _ _) rfl HSZ.out HON.out ?_; intro w11 hb11 hg11; have HG11 := Lib.hid hb11; have HB11 := Lib.hid (((Below.refl w10.heap.size w10).alloc (Nat.le_refl _) (.cells zsig 30)).trans (below_only hg11 (Nat.le_refl _) (by simp))); clear hb11 hg11))
    have HB12 : Hid (Below w9.heap.size w9 w11.drew) := (HP10.out.far.trans (HB11.out.mono HP10.out.far.size)).drew
    have HX12 : Hid (Digs w11.drew w11.drew.heap.size (some ⟨g1, 0, none⟩) XO ∧ Digs w11.drew w11.drew.heap.size (some ⟨g2, 0, none⟩) YO ∧ Digs w11.drew w11.drew.heap.size C P) :=
      ⟨⟨HAO.out.1, (Sees.of_box (HX10.out.1.below HB11.out HX10.out.1.lt).drew (HX10.out.1.below HB11.out HX10.out.1.lt).lt)⟩, ⟨HAO.out.2, (Sees.of_box (HX10.out.2.below HB11.out HX10.out.2.lt).drew (HX10.out.2.below HB11.out HX10.out.2.lt).lt)⟩, (OwnD.digs HP10.out.own HP10.out.all).far (HB11.out.drew)⟩
    have HG12 : Hid (Box w11.drew w10.heap.size 30 (sigV (m : Int) (some ⟨g1, 0, none⟩) 32 32 (some ⟨g2, 0, none⟩) 32 32 C P.length cc)) := HG11.out.drew
    have HBR : Hid (Below w11.drew.heap.size w11.drew w11.drew) := Below.refl _ _
    have hu3 := Tryd.underlying30
    have hq3 := sig_list (m : Int) (some ⟨g1, 0, none⟩) 32 32 (some ⟨g2, 0, none⟩) 32 32 C P.length cc
    refine wp_region_held_drew (S := fun w' => Below w11.drew.heap.size w11.drew w') (by kernel_rfl) HBR.out (fun hS => ?_)
    clear HX10 HP10 HB11 HG11 HBR HSG
    generalize w11.drew = w12 at *
    have HGR : Hid (∀ w', Below w12.heap.size w12 w' → w'.rangeAt w10.heap.size 0 (sigV (m : Int) (some ⟨g1, 0, none⟩) 32 32 (some ⟨g2, 0, none⟩) 32 32 C P.length cc).toList) := fun w' hb => Box.range (HG12.out.below hb HG12.out.lt)
    have HSR2 : Hid (∀ w', Below w12.heap.size w12 w' → w'.rangeAt w.heap.size 0 (seed.map bv)) := fun w' hb => HSR.out w' (HB9.out.trans ((HB12.out.trans (hb.mono HB12.out.size)).mono HB9.out.size))
    have HDR2 : Hid (∀ w', Below w12.heap.size w12 w' → w'.rangeAt (w.heap.size + 1) 0 (d.map bv)) := fun w' hb => HDR.out w' (HB9.out.trans ((HB12.out.trans (hb.mono HB12.out.size)).mono HB9.out.size))
    have HRS2 : Hid (∀ w', Below w12.heap.size w12 w' → Calls Tryd.prog 14 #[.agg (seed.map bv).toArray, .slice A X.length c, .int .i64 (m : Int), .agg (d.map bv).toArray] w' (RKSignIs w' m XO YO P)) := fun w' hb => HRS.out w' (HB12.out.trans (hb.mono HB12.out.size))
    have HSM : Hid (∀ w' A' B' C' a' b' c', Below w12.heap.size w12 w' → Digs w' w'.heap.size A' XO → Digs w' w'.heap.size B' YO → Digs w' w'.heap.size C' P → Calls Tryd.prog 13 #[.agg (sigV (m : Int) (some ⟨g1, 0, none⟩) 32 32 (some ⟨g2, 0, none⟩) 32 32 C P.length cc), .agg (sigV (m : Int) A' 32 a' B' 32 b' C' P.length c')] w' fun e w'' => e = .returned (.bool true) ∧ Below w'.heap.size w' w'') := fun w' A' B' C' a' b' c' hb d1 d2 d3 => ksame_own (m : Int) XO YO P HLO.out.1 HLO.out.2 HPB.out _ _ _ A' B' C' _ _ _ a' b' c' w' (HX12.out.1.far hb) (HX12.out.2.1.far hb) (HX12.out.2.2.far hb) d1 d2 d3
    clear HRS HX12 HG12
    (refine wpAnyH_take (i := 0) (v := .int .i64 0) rfl (by kernel_rfl) (by kernel_rfl) (by kernel_rfl) (fun _ _ _ h => h) (Or.inl ⟨by kernel_rfl, fun w hSw => by go_simp⟩) hS ?_)
    (try simp only [Act.put])
    (refine wpAnyH_take (i := 1) (v := .bool true) rfl (by kernel_rfl) (by kernel_rfl) (by kernel_rfl) (fun _ _ _ h => h) (Or.inl ⟨by kernel_rfl, fun w hSw => by go_simp⟩) hS ?_)
    (try simp only [Act.put])
    (refine wpAnyH_take (i := 2) (v := .bool true) rfl (by kernel_rfl) (by kernel_rfl) (by kernel_rfl) (fun _ _ _ h => h) (Or.inl ⟨by kernel_rfl, fun w hSw => by go_simp⟩) hS ?_)
    (try simp only [Act.put])
    (refine wpAnyH_take (i := 3) (v := .agg (sigV (m : Int) (some ⟨g1, 0, none⟩) 32 32 (some ⟨g2, 0, none⟩) 32 32 C P.length cc)) rfl (by kernel_rfl) (by kernel_rfl) (by kernel_rfl) (fun _ _ _ h => h) (yieldsIf_load_mid (by kernel_rfl) 30 (.tmp 15) rfl w10.heap.size (0) (by kernel_rfl) ((sigV (m : Int) (some ⟨g1, 0, none⟩) 32 32 (some ⟨g2, 0, none⟩) 32 32 C P.length cc).toList) _ (fun w h => HGR.out w h) hu3 rfl hq3) hS ?_)
    (try simp only [Act.put])
    (refine wpAnyH_take (i := 4) (v := .agg (seed.map bv).toArray) rfl (by kernel_rfl) (by kernel_rfl) (by kernel_rfl) (fun _ _ _ h => h) (yieldsIf_load_mid (by kernel_rfl) 23 (.tmp 4) rfl w.heap.size (0) (by kernel_rfl) (seed.map bv) _ (fun w h => HSR2.out w h) hund rfl hq1) hS ?_)
    (try simp only [Act.put])
    (refine wpAnyH_take (i := 5) (v := .slice A X.length c) rfl (by kernel_rfl) (by kernel_rfl) (by kernel_rfl) (fun _ _ _ h => h) (Or.inl ⟨by kernel_rfl, fun w hSw => by go_simp⟩) hS ?_)
    (try simp only [Act.put])
    (refine wpAnyH_take (i := 6) (v := .int .i64 (m : Int)) rfl (by kernel_rfl) (by kernel_rfl) (by kernel_rfl) (fun _ _ _ h => h) (Or.inl ⟨by kernel_rfl, fun w hSw => by go_simp⟩) hS ?_)
    (try simp only [Act.put])
    (refine wpAnyH_take (i := 7) (v := .agg (d.map bv).toArray) rfl (by kernel_rfl) (by kernel_rfl) (by kernel_rfl) (fun _ _ _ h => h) (yieldsIf_load_mid (by kernel_rfl) 23 (.tmp 7) rfl (w.heap.size + 1) (0) (by kernel_rfl) (d.map bv) _ (fun w h => HDR2.out w h) hund rfl hq2) hS ?_)
    (try simp only [Act.put])
    refine wpAnyH_ready (rs := [8]) (by decide +kernel) (by simp) (AllReadyH.cons rfl (fun K hK => ?_) AllReadyH.nil)
    go_simp
    (go_at_call 14; (with_reducible refine (HRS2.out _ hS).mono ?_); rintro e w13 ⟨A', B', C', a', b', c', rfl, d1, d2, d3, hb⟩)
    refine hK.out _ _ (hS.trans (hb.mono hS.size)) (fun hS => ?_)
    clear hK K
    (try simp only [Act.put])
    clear hb
    have HS14 := Lib.hid (HSM.out _ A' B' C' a' b' c' hS d1 d2 d3)
    clear d1 d2 d3
    refine wpAnyH_ready (rs := [9]) (by decide +kernel) (by simp) (AllReadyH.cons rfl (fun K hK => ?_) AllReadyH.nil)
    go_simp
    (go_at_call 13; (with_reducible refine (HS14.out).mono ?_); rintro e w14 ⟨rfl, hb⟩)
    refine hK.out _ _ (hS.trans (hb.mono hS.size)) (fun hS => ?_)
    clear hK K
    (try simp only [Act.put])
    clear hb
    refine wpAnyH_ready (rs := [10]) (by decide +kernel) (by simp) (AllReadyH.cons rfl (fun K hK => ?_) AllReadyH.nil)
    go_simp
    refine hK.out _ _ (hS) (fun hS => ?_)
    clear hK K
    (try simp only [Act.put])
    refine wpAnyH_ready (rs := [11]) (by decide +kernel) (by simp) (AllReadyH.cons rfl (fun K hK => ?_) AllReadyH.nil)
    go_simp
    refine hK.out _ _ (hS) (fun hS => ?_)
    clear hK K
    (try simp only [Act.put])
    refine wpAnyH_done (by kernel_rfl) ?_ _
    have HFG := Lib.hid (HF9.out.trans ((HB12.out.trans (hS.mono HB12.out.size)).mono HF9.out.size))
    clear hS
    go_wp2
    go_ret
    exact ⟨rfl, HFG.out⟩
  · have HSG : Hid (Calls Tryd.prog 8 #[.pointer (some ⟨a, 0, none⟩), .int .i64 n, .agg (d.map bv).toArray] w9 fun e w' => e = .returned (.tuple #[.agg zsig, .int .i64 1]) ∧ Below w9.heap.size w9 w') := tsign_not a seed (keyT seed h) HSL.out HKL.out h (some ⟨g, 0, none⟩) (2 ^ h) (2 ^ h) n (by rw [← HXL.out]; simp; omega) d w9 HT9.out.tree
    have HSM : Hid (∀ w', Calls Tryd.prog 13 #[.agg zsig, .agg zsig] w' fun e w'' => e = .returned (.bool true) ∧ Below w'.heap.size w' w'') := fun w' => ksame_none w'
    clear HXL HT9
    generalize leavesT seed h = X at *
    by_cases hn0 : n < 0
    · have f0 : decide (n < 0) = true := decide_eq_true hn0
      clear hin
      go_wp2_with (first
        | ((with_reducible show wpList _ _ _ ((⟨some 74, _, _, _, _, _⟩ : Oper) :: _) _ _); refine wpList_load_mid rfl 23 (.tmp 7) rfl (w.heap.size + 1) 0 rfl (d.map bv) _ (HDR.out _ HB9.out) hund rfl HLD.out ?_)
        | (go_at_call 8; (with_reducible refine (HSG.out).mono ?_); rintro e w10 ⟨rfl, hb⟩; have HB10 := Lib.hid hb; clear hb)
        | (((with_reducible show wpList _ _ _ ((⟨none, Op.store _ (.tmp 15) (.tmp 76), _, _, _, _⟩ : Oper) :: _) _ _)); refine wpList_store_box rfl 30 (.tmp 15) (.tmp 76) rfl w10.heap.size zsig rfl rfl 30 zsig (Box.made w10 _ _) rfl (sig_size 0 none 0 0 none 0 0 none 0 0) (sig_one 0 none 0 0 none 0 0 none 0 0) ?_; intro w11 hb11 hg11; have c0 := hb11.cell 0; have c1 := hb11.cell 1; have c2 := hb11.cell 2; have c3 := hb11.cell 3; simp only [List.getElem?_toArray, List.getElem?_cons_zero, List.getElem?_cons_succ] at c0 c1 c2 c3; have HB11 := Lib.hid (HB10.out.trans ((((Below.refl w10.heap.size w10).alloc (Nat.le_refl _) (.cells zsig 30)).trans (below_only hg11 (Nat.le_refl _) (by simp))).mono HB10.out.size)); clear hb11 hg11)
        | (go_at_call 13; (with_reducible refine (HSM.out _).mono ?_); rintro e w12 ⟨rfl, hb⟩; have HB12 := Lib.hid (HB11.out.trans (hb.mono HB11.out.size)); clear hb))
      go_ret
      exact ⟨rfl, HF9.out.trans (HB12.out.mono HF9.out.size)⟩
    · have f0 : decide (n < 0) = false := decide_eq_false hn0
      have f1 : decide ((X.length : Int) ≤ n) = true := decide_eq_true (by omega)
      clear hin
      go_wp2_with (first
        | ((with_reducible show wpList _ _ _ ((⟨some 74, _, _, _, _, _⟩ : Oper) :: _) _ _); refine wpList_load_mid rfl 23 (.tmp 7) rfl (w.heap.size + 1) 0 rfl (d.map bv) _ (HDR.out _ HB9.out) hund rfl HLD.out ?_)
        | (go_at_call 8; (with_reducible refine (HSG.out).mono ?_); rintro e w10 ⟨rfl, hb⟩; have HB10 := Lib.hid hb; clear hb)
        | (((with_reducible show wpList _ _ _ ((⟨none, Op.store _ (.tmp 15) (.tmp 76), _, _, _, _⟩ : Oper) :: _) _ _)); refine wpList_store_box rfl 30 (.tmp 15) (.tmp 76) rfl w10.heap.size zsig rfl rfl 30 zsig (Box.made w10 _ _) rfl (sig_size 0 none 0 0 none 0 0 none 0 0) (sig_one 0 none 0 0 none 0 0 none 0 0) ?_; intro w11 hb11 hg11; have c0 := hb11.cell 0; have c1 := hb11.cell 1; have c2 := hb11.cell 2; have c3 := hb11.cell 3; simp only [List.getElem?_toArray, List.getElem?_cons_zero, List.getElem?_cons_succ] at c0 c1 c2 c3; have HB11 := Lib.hid (HB10.out.trans ((((Below.refl w10.heap.size w10).alloc (Nat.le_refl _) (.cells zsig 30)).trans (below_only hg11 (Nat.le_refl _) (by simp))).mono HB10.out.size)); clear hb11 hg11)
        | (go_at_call 13; (with_reducible refine (HSM.out _).mono ?_); rintro e w12 ⟨rfl, hb⟩; have HB12 := Lib.hid (HB11.out.trans (hb.mono HB11.out.size)); clear hb))
      go_ret
      exact ⟨rfl, HF9.out.trans (HB12.out.mono HF9.out.size)⟩
end Go.Proofs.YtkmmhkoommbkpaaDoor
