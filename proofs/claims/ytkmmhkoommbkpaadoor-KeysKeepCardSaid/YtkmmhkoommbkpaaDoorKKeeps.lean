/-
  KeysKeep: the walk.
-/
import Derived.Test.YtkmmhkoommbkpaaDoorKAlive
import Derived.Test.YtkmmhkoommbkpaaDoorKSame
import Derived.Test.YtkmmhkoommbkpaaDoorKRKey
import Derived.Deep.RegionHeld3
namespace Go.Proofs.YtkmmhkoommbkpaaDoor
open Go.RowKit

attribute [local go_sem ↓] ldDigest_def stDigest_def bsAll_def apAll_def

def sevenD : List UInt8 := 7 :: List.replicate 31 0
theorem path_two (seed : List UInt8) : (pathT (leavesT seed 2) 1).length = 2 := by
  rw [pathT_steps _ _ (by rw [leaves_len]; decide), leaves_len]
  rw [steps_up (by decide), steps_up (by decide), steps_one (by decide)]
  rfl
/-- What the loop of KeysKeep carries of memory: only the path's cells have turned. -/
structure KpW (w11 : World) (gp : Nat) (w : World) : Prop where
  cells : ∃ cs, Box w gp 23 cs ∧ 64 ≤ cs.size
  far : w11.grownBy w (some gp)
theorem KpW.put {w11 w : World} {gp o : Nat} (h : KpW w11 gp w) (ho : o + 32 ≤ 64) (vs : List Value) (hv : vs.length = 32) : KpW w11 gp (w.setCells gp o vs) := by
  obtain ⟨cs, hb, hs⟩ := h.cells
  obtain ⟨cs', hb', hs', _⟩ := Box.cells_at vs o w cs hb (by omega)
  exact ⟨⟨cs', hb', by omega⟩, only_trans h.far (only_cells vs o w)⟩

set_option maxRecDepth 100000 in
set_option maxHeartbeats 4000000 in
theorem kkeeps_walk (seed : List UInt8) (hs : seed.length = 32) (d : List UInt8) (hd : d.length = 32) (n : Int) (X Y P : List (List UInt8)) (A B C : Option Addr) (a b c : Nat) (w : World) (hA : Digs w w.heap.size A X) (hB : Digs w w.heap.size B Y) (hC : Digs w w.heap.size C P) (hR : Roots w) :
    Calls Tryd.prog 6 #[.agg (seed.map bv).toArray, .agg (d.map bv).toArray, .agg (sigV n A X.length a B Y.length b C P.length c)] w fun e w' => e = .returned (.bool true) ∧ Below w.heap.size w w' := by
  obtain ⟨w1, hw1⟩ : ∃ w1, w1 = ((w.alloc (.cells (seed.map bv).toArray 23)).alloc (.cells (d.map bv).toArray 23)).alloc (.cells (sigV n A X.length a B Y.length b C P.length c) 30) := ⟨_, rfl⟩
  have HS : Hid (Box w1 w.heap.size 23 (seed.map bv).toArray) := by
    rw [hw1]
    exact ((Box.made w _ _).alloc _).alloc _
  have HD : Hid (Box w1 (w.heap.size + 1) 23 (d.map bv).toArray) := by
    rw [hw1]
    exact (Box.made_at (by simp) _ _).alloc _
  have HG : Hid (Box w1 (w.heap.size + 1 + 1) 30 (sigV n A X.length a B Y.length b C P.length c)) := by
    rw [hw1]
    exact Box.made_at (by simp) _ _
  have HF : Hid (Below w.heap.size w w1) := by
    rw [hw1]
    exact (((Below.refl _ _).alloc (Nat.le_refl _) _).alloc (by simp) _).alloc (by simp; omega) _
  have HR := Lib.hid (hR.of_below HF.out)
  have HAL := Lib.hid (kalive_any w1 HR.out)
  have HGT : Hid (∀ w', Calls Tryd.prog 15 #[.agg (sigV n A X.length a B Y.length b C P.length c)] w' fun e w'' => e = .returned (.bool (decide (200 < X.length) || decide (200 < Y.length) || decide (200 < P.length))) ∧ Below w'.heap.size w' w'') := fun w' => kgreat_any n X.length Y.length P.length A B C a b c w'
  have HDA := Lib.hid (hA.far HF.out)
  have HDB := Lib.hid (hB.far HF.out)
  have HDC := Lib.hid (hC.far HF.out)
  have HLS := Lib.hid (dig_list seed hs)
  have HLD := Lib.hid (dig_list d hd)
  have HSL := Lib.hid hs
  have HDL := Lib.hid hd
  have HLG := Lib.hid (sig_list n A X.length a B Y.length b C P.length c)
  have HZG := Lib.hid (sig_size n A X.length a B Y.length b C P.length c)
  have HOG := Lib.hid (sig_one n A X.length a B Y.length b C P.length c)
  have hund := Tryd.underlying23
  have hu3 := Tryd.underlying30
  clear hA hB hC hR hs hd
  go_enter Tryd.func6, Tryd.ntmps6
  go_upto_region 1 with fail
  change Code.wp _ _ _ _ (((w.alloc (.cells (seed.map bv).toArray 23)).alloc (.cells (d.map bv).toArray 23)).alloc (.cells (sigV n A X.length a B Y.length b C P.length c) 30))
  rw [← hw1]
  clear hw1
  obtain ⟨gr, hgr⟩ : ∃ gr, (decide (200 < X.length) || decide (200 < Y.length) || decide (200 < P.length)) = gr := ⟨_, rfl⟩
  rw [hgr] at HGT
  rcases gr with _ | _
  case true =>
    clear hgr
    go_wp2_with (first
      | (go_at_call 7; (with_reducible refine (HAL.out).mono ?_); rintro e w2 ⟨rfl, hb⟩; have HB2 := Lib.hid hb; clear hb)
      | ((with_reducible show wpList _ _ _ ((⟨some 17, _, _, _, _, _⟩ : Oper) :: _) _ _); refine wpList_load_mid rfl 30 (.tmp 5) rfl (w.heap.size + 1 + 1) 0 rfl (sigV n A X.length a B Y.length b C P.length c).toList _ (HG.out.below HB2.out HG.out.lt).range hu3 rfl HLG.out ?_)
      | (go_at_call 15; (with_reducible refine (HGT.out _).mono ?_); rintro e w3 ⟨rfl, hb⟩; have HB3 := Lib.hid (HB2.out.trans (hb.mono HB2.out.size)); clear hb))
    go_ret
    exact ⟨rfl, HF.out.trans (HB3.out.mono HF.out.size)⟩
  have HBD : Hid (X.length ≤ 200 ∧ Y.length ≤ 200 ∧ P.length ≤ 200) := by
    show _ ∧ _
    simp at hgr
    omega
  clear hgr
  go_upto_region 6 with (first
    | (go_at_call 7; (with_reducible refine (HAL.out).mono ?_); rintro e w2 ⟨rfl, hb⟩; have HB2 := Lib.hid hb; clear hb)
    | ((with_reducible show wpList _ _ _ ((⟨some 17, _, _, _, _, _⟩ : Oper) :: _) _ _); refine wpList_load_mid rfl 30 (.tmp 5) rfl (w.heap.size + 1 + 1) 0 rfl (sigV n A X.length a B Y.length b C P.length c).toList _ (HG.out.below HB2.out HG.out.lt).range hu3 rfl HLG.out ?_)
    | (go_at_call 15; (with_reducible refine (HGT.out _).mono ?_); rintro e w3 ⟨rfl, hb⟩; have HB3 := Lib.hid (HB2.out.trans (hb.mono HB2.out.size)); clear hb)
    | ((with_reducible show wpList _ _ _ ((⟨some 19, _, _, _, _, _⟩ : Oper) :: _) _ _); refine wpList_load_mid rfl 30 (.tmp 5) rfl (w.heap.size + 1 + 1) 0 rfl (sigV n A X.length a B Y.length b C P.length c).toList _ (HG.out.below HB3.out HG.out.lt).range hu3 rfl HLG.out ?_)
    | (((with_reducible show wpList _ _ _ ((⟨none, Op.store _ (.tmp 7) (.tmp 19), _, _, _, _⟩ : Oper) :: _) _ _)); refine wpList_store_box rfl 30 (.tmp 7) (.tmp 19) rfl w3.heap.size (sigV n A X.length a B Y.length b C P.length c) rfl rfl 30 zsig (Box.made w3 _ _) rfl HZG.out HOG.out ?_; intro w4 hb4 hg4; have HM4 := Lib.hid hb4; have HB4 := Lib.hid (HB3.out.trans ((((Below.refl w3.heap.size w3).alloc (Nat.le_refl _) (.cells zsig 30)).trans (below_only hg4 (Nat.le_refl _) (by simp))).mono HB3.out.size)); clear hb4 hg4))
  clear HAL HGT
  obtain ⟨b7, hb7⟩ : ∃ b7, w3.heap.size = b7 := ⟨_, rfl⟩
  rw [hb7] at HM4 ⊢
  have HB7 : Hid (w1.heap.size ≤ b7 ∧ b7 < w4.heap.size) := by
    show _ ∧ _
    have h1 := HB3.out.size
    have h2 := HM4.out.lt
    omega
  clear hb7
  have HDC4 := Lib.hid (HDC.out.far HB4.out)
  have HBP := HBD.out.2.2
  obtain ⟨A6, c6, w6, hap, hpw⟩ := copy_digs (w := w4) (A := C) (m := P.length) (c := c) (es := P) rfl HDC4.out (by omega)
  have HPW := Lib.hid hpw
  clear hpw HBP
  have hbs := build_none w4
  have hcl : (w4.alloc (.cells #[] 23)).cell? ⟨w.heap.size + 1 + 1, 3, none⟩ = some (.slice C P.length c) := ((HG.out.below HB4.out HG.out.lt).alloc _).cell 3
  have HM6 := Lib.hid (HM4.out.below HPW.out.far HM4.out.lt)
  have m3 := HM6.out.cell 3
  have f3 := HM6.out.free 3
  simp only [List.getElem?_toArray, List.getElem?_cons_zero, List.getElem?_cons_succ] at m3
  go_upto_region 7 with fail
  have HM7 : Hid (Box (w6.setCell ⟨b7, 3, none⟩ (.slice A6 P.length c6)) b7 30 (sigV n A X.length a B Y.length b A6 P.length c6)) := HM6.out.put 3 (.slice A6 P.length c6)
  have HG7 : Hid (w6.grownBy (w6.setCell ⟨b7, 3, none⟩ (.slice A6 P.length c6)) (some b7)) := only_put (only_refl _ _) 3 _
  have HB6 := Lib.hid (HB4.out.trans (HPW.out.far.mono HB4.out.size))
  have HB7b : Hid (Below w1.heap.size w1 (w6.setCell ⟨b7, 3, none⟩ (.slice A6 P.length c6))) := HB6.out.trans (below_only HG7.out HB7.out.1 HB6.out.size)
  have HD7 : Hid (Digs (w6.setCell ⟨b7, 3, none⟩ (.slice A6 P.length c6)) (w6.setCell ⟨b7, 3, none⟩ (.slice A6 P.length c6)).heap.size A6 P) := (OwnD.digs HPW.out.own HPW.out.all).aside HM6.out (sig_nobyte n A X.length a B Y.length b C P.length c) HG7.out
  have HC6 := Lib.hid (OwnD.form HPW.out.own).1
  clear hap hbs hcl m3 f3 HM6 HG7 HB6 HPW HM4 HB4 HB3 HB2
  generalize w6.setCell ⟨b7, 3, none⟩ (.slice A6 P.length c6) = w7 at *
  have HLM := Lib.hid (sig_list n A X.length a B Y.length b A6 P.length c6)
  have HCK : Hid (∀ w', Below w7.heap.size w7 w' → Calls Tryd.prog 16 #[.agg #[.int .u8 0, .int .u8 0, .int .u8 0, .int .u8 0, .int .u8 0, .int .u8 0, .int .u8 0, .int .u8 0, .int .u8 0, .int .u8 0, .int .u8 0, .int .u8 0, .int .u8 0, .int .u8 0, .int .u8 0, .int .u8 0, .int .u8 0, .int .u8 0, .int .u8 0, .int .u8 0, .int .u8 0, .int .u8 0, .int .u8 0, .int .u8 0, .int .u8 0, .int .u8 0, .int .u8 0, .int .u8 0, .int .u8 0, .int .u8 0, .int .u8 0, .int .u8 0, .int .i64 2], .agg (d.map bv).toArray, .agg (sigV n A X.length a B Y.length b A6 P.length c6)] w' fun e w'' => e = .returned (.bool (goodK noneD d 2 n X Y P)) ∧ Below w'.heap.size w' w'') := fun w' hb => kcheck_any noneD d rfl HDL.out 2 n X Y P A B A6 a b c6 HC6.out w' (HDA.out.far (HB7b.out.trans (hb.mono HB7b.out.size))) (HDB.out.far (HB7b.out.trans (hb.mono HB7b.out.size))) (HD7.out.far hb) (HR.out.of_below (HB7b.out.trans (hb.mono HB7b.out.size)))
  have HNW : Hid (∀ w', Below w1.heap.size w1 w' → Calls Tryd.prog 10 #[.agg (seed.map bv).toArray, .int .i64 2] w' (NewIs w' seed 2)) := fun w' hb => new_any seed HSL.out 2 (by decide) w' (HR.out.of_below hb)
  have HSGN : Hid (∀ w' a' g', Below w1.heap.size w1 w' → TreeW w' a' g' seed 2 → Calls Tryd.prog 8 #[.pointer (some ⟨a', 0, none⟩), .int .i64 1, .agg (d.map bv).toArray] w' (TSignIs w' 1 (openT seed 1 d) (shutT seed 1 d) (pathT (leavesT seed 2) 1))) := fun w' a' g' hb ht => tsign_any a' g' seed HSL.out 2 1 (by decide) (by decide) d HDL.out w' ht (HR.out.of_below hb)
  have HKYN : Hid (∀ w' a' g', TreeW w' a' g' seed 2 → Calls Tryd.prog 9 #[.pointer (some ⟨a', 0, none⟩)] w' fun e w'' => e = .returned (.agg (keyV (keyT seed 2) 2)) ∧ Below w'.heap.size w' w'') := fun w' a' g' ht => tkey_any a' seed (keyT seed 2) HSL.out (keyT_len seed 2) 2 (.slice (some ⟨g', 0, none⟩) (2 ^ 2) (2 ^ 2)) w' ht.tree
  have HCKN : Hid (∀ w' w0 g1 g2 C' c', Below w1.heap.size w1 w' → Box w' g1 23 ((openT seed 1 d).flatten.map bv).toArray → Box w' g2 23 ((shutT seed 1 d).flatten.map bv).toArray → PaW w0 (.slice C' (pathT (leavesT seed 2) 1).length c') (pathT (leavesT seed 2) 1) w' →
      Calls Tryd.prog 16 #[.agg (keyV (keyT seed 2) 2), .agg (d.map bv).toArray, .agg (sigV 1 (some ⟨g1, 0, none⟩) 32 32 (some ⟨g2, 0, none⟩) 32 32 C' (pathT (leavesT seed 2) 1).length c')] w' fun e w'' => e = .returned (.bool true) ∧ Below w'.heap.size w' w'') := fun w' w0 g1 g2 C' c' hb b1 b2 hp => check_own_sig seed d HDL.out 2 1 (by decide) (by decide) g1 g2 C' c' w' w0 b1 b2 hp (HR.out.of_below hb)
  have HPL : Hid ((pathT (leavesT seed 2) 1).length = 2) := Lib.hid (path_two seed)
  generalize openT seed 1 d = XO at *
  generalize shutT seed 1 d = YO at *
  generalize pathT (leavesT seed 2) 1 = Q at *
  generalize keyT seed 2 = r at *
  generalize goodK noneD d 2 n X Y P = q at *
  go_upto_region 11 with (first
    | ((with_reducible show wpList _ _ _ ((⟨some 26, _, _, _, _, _⟩ : Oper) :: _) _ _); refine wpList_load_mid rfl 23 (.tmp 4) rfl (w.heap.size + 1) 0 rfl (d.map bv) _ (HD.out.below HB7b.out HD.out.lt).range hund rfl HLD.out ?_)
    | ((with_reducible show wpList _ _ _ ((⟨some 27, _, _, _, _, _⟩ : Oper) :: _) _ _); refine wpList_load_mid rfl 30 (.tmp 7) rfl b7 0 rfl (sigV n A X.length a B Y.length b A6 P.length c6).toList _ HM7.out.range hu3 rfl HLM.out ?_)
    | (go_at_call 16; (with_reducible refine (HCK.out _ (Below.refl _ _)).mono ?_); rintro e w8 ⟨rfl, hb⟩; have HB8 := Lib.hid (HB7b.out.trans (hb.mono HB7b.out.size)); have HB78 := Lib.hid hb; clear hb)
    | ((with_reducible show wpList _ _ _ ((⟨some 30, _, _, _, _, _⟩ : Oper) :: _) _ _); refine wpList_load_mid rfl 23 (.tmp 3) rfl w.heap.size 0 rfl (seed.map bv) _ (HS.out.below HB8.out HS.out.lt).range hund rfl HLS.out ?_)
    | (go_at_call 10; (with_reducible refine (HNW.out _ HB8.out).mono ?_); rintro e w9 ⟨ta, tg, rfl, ht, hb, _, _⟩; have HT9 := Lib.hid ht; have HB9 := Lib.hid (HB8.out.trans (hb.mono HB8.out.size)); have HB79 := Lib.hid (HB78.out.trans (hb.mono HB78.out.size)); clear ht hb))
  clear HCK HNW HB8 HB78
  go_upto_region 13 with (first
    | ((with_reducible show wpList _ _ _ ((⟨some 38, _, _, _, _, _⟩ : Oper) :: _) _ _); refine wpList_load_mid rfl 23 (.tmp 4) rfl (w.heap.size + 1) 0 rfl (d.map bv) _ (HD.out.below HB9.out HD.out.lt).range hund rfl HLD.out ?_)
    | (go_at_call 8; (with_reducible refine (HSGN.out _ _ _ HB9.out HT9.out).mono ?_); rintro e w10 ⟨g1, g2, C1, c1, rfl, b1, b2, hp, _, _⟩; have HP10 := Lib.hid hp; have HSZ := Lib.hid (sig_size 1 (some ⟨g1, 0, none⟩) 32 32 (some ⟨g2, 0, none⟩) 32 32 C1 Q.length c1); have HON := Lib.hid (sig_one 1 (some ⟨g1, 0, none⟩) 32 32 (some ⟨g2, 0, none⟩) 32 32 C1 Q.length c1); clear b1 b2 hp)
    | (((with_reducible show wpList _ _ _ ((⟨none, Op.store _ (.tmp 10) (.tmp 40), _, _, _, _⟩ : Oper) :: _) _ _)); refine wpList_store_box rfl 30 (.tmp 10) (.tmp 40) rfl w10.heap.size (sigV 1 (some ⟨g1, 0, none⟩) 32 32 (some ⟨g2, 0, none⟩) 32 32 C1 Q.length c1) rfl rfl 30 zsig (Box.made w10 _ _) rfl HSZ.out HON.out ?_; intro w11 hb11 hg11; have HG11 := Lib.hid hb11; have a3 := hb11.cell 3; simp only [List.getElem?_toArray, List.getElem?_cons_zero, List.getElem?_cons_succ] at a3; have HB11 := Lib.hid (((Below.refl w10.heap.size w10).alloc (Nat.le_refl _) (.cells zsig 30)).trans (below_only hg11 (Nat.le_refl _) (by simp))); clear hb11 hg11))
  rcases HP10.out.own.2 with ⟨_, hq0⟩ | ⟨gp, cap, cur, hv, hgp, hcur, hcap, _, hcs, _⟩
  · have := HPL.out
    omega
  injection hv with hv1 hv2 hv3
  subst hv1
  subst hv3
  have HCUR : Hid (Box w10 gp 23 cur) := hcur
  have HGP : Hid (w9.heap.size ≤ gp ∧ gp < w10.heap.size) := ⟨hgp, HCUR.out.lt⟩
  have HW0 : Hid (KpW w11 gp w11) := ⟨⟨cur, HCUR.out.below HB11.out HCUR.out.lt, by have := HPL.out; omega⟩, only_refl _ _⟩
  have HAT : Hid (∀ w', KpW w11 gp w' → w'.cell? ⟨w10.heap.size, 3, none⟩ = some (.slice (some ⟨gp, 0, none⟩) Q.length c1)) := fun w' hw => (HG11.out.grown hw.far (fun e => by injection e with e; have := HGP.out.2; omega)).cell 3
  have HB9K : Hid (∀ w', KpW w11 gp w' → Below w9.heap.size w9 w') := fun w' hw => (HP10.out.far.trans (HB11.out.mono HP10.out.far.size)).trans (below_only hw.far HGP.out.1 (HP10.out.far.trans (HB11.out.mono HP10.out.far.size)).size)
  clear hgp hcur hcs hcap a3 HCUR HSZ HON HP10 HG11 HB11
  have hqb : Q.length ≤ 2 := Nat.le_of_eq HPL.out
  go_loopw [12, 45] (fun _ i wr => ∃ k : Nat, k ≤ Q.length ∧ i = .int .i64 (k : Int) ∧ Hid (KpW w11 gp wr)) (fun _ i _ => Q.length - (intOf i).toNat)
  case atStart => exact ⟨0, Nat.zero_le _, rfl, HW0⟩
  case round =>
    clear HW0
    obtain ⟨k, hk, rfl, HW⟩ := hrel
    by_cases hlt : k < Q.length
    · have hk2 : k * 32 + 32 ≤ 64 := by
        have := HPL.out
        omega
      have at3 := HAT.out _ HW.out
      have hst : (stDigest (.pointer (some ⟨gp, k * 32, none⟩)) (.agg #[.int .u8 7, .int .u8 0, .int .u8 0, .int .u8 0, .int .u8 0, .int .u8 0, .int .u8 0, .int .u8 0, .int .u8 0, .int .u8 0, .int .u8 0, .int .u8 0, .int .u8 0, .int .u8 0, .int .u8 0, .int .u8 0, .int .u8 0, .int .u8 0, .int .u8 0, .int .u8 0, .int .u8 0, .int .u8 0, .int .u8 0, .int .u8 0, .int .u8 0, .int .u8 0, .int .u8 0, .int .u8 0, .int .u8 0, .int .u8 0, .int .u8 0, .int .u8 0])).run Tryd.prog wr = .ok () (wr.setCells gp (k * 32) (sevenD.map bv)) := by
        obtain ⟨cs, hbx, hsz⟩ := HW.out.cells
        exact hbx.store_mid (o := k * 32) (by omega) sevenD rfl
      have HW2 := Lib.hid (HW.out.put hk2 (sevenD.map bv) rfl)
      have i3 : (k : Int) < (Q.length : Int) := by omega
      clear hk2
      go_wp2
      clear hst at3
      generalize wr.setCells gp (k * 32) (sevenD.map bv) = w99 at *
      go_roundw
      case rel => exact ⟨k + 1, hlt, by go_num, HW2⟩
      case measure => simp [intOf]; omega
    · obtain rfl : k = Q.length := by omega
      have HB9R := Lib.hid (HB9K.out _ HW.out)
      clear HW hlt hk HAT HB9K
      have HT := Lib.hid (HT9.out.call HB9R.out)
      have HB1R := Lib.hid (HB9.out.trans (HB9R.out.mono HB9.out.size))
      go_upto_region 18 with (first
        | ((with_reducible show wpList _ _ _ ((⟨some 56, _, _, _, _, _⟩ : Oper) :: _) _ _); refine wpList_load_mid rfl 23 (.tmp 4) rfl (w.heap.size + 1) 0 rfl (d.map bv) _ (HD.out.below HB1R.out HD.out.lt).range hund rfl HLD.out ?_)
        | (go_at_call 8; (with_reducible refine (HSGN.out _ _ _ HB1R.out HT.out).mono ?_); rintro e w12 ⟨e1, e2, C2, c2, rfl, b1, b2, hp, _, _⟩; have HX12 := Lib.hid (And.intro b1 b2); have HP12 := Lib.hid hp; have HSZ2 := Lib.hid (sig_size 1 (some ⟨e1, 0, none⟩) 32 32 (some ⟨e2, 0, none⟩) 32 32 C2 Q.length c2); have HON2 := Lib.hid (sig_one 1 (some ⟨e1, 0, none⟩) 32 32 (some ⟨e2, 0, none⟩) 32 32 C2 Q.length c2); clear b1 b2 hp)
        | (((with_reducible show wpList _ _ _ ((⟨none, Op.store _ (.tmp 13) (.tmp 58), _, _, _, _⟩ : Oper) :: _) _ _)); refine wpList_store_box rfl 30 (.tmp 13) (.tmp 58) rfl w12.heap.size (sigV 1 (some ⟨e1, 0, none⟩) 32 32 (some ⟨e2, 0, none⟩) 32 32 C2 Q.length c2) rfl rfl 30 zsig (Box.made w12 _ _) rfl HSZ2.out HON2.out ?_; intro w13 hb13 hg13; have HG13 := Lib.hid hb13; have HB13 := Lib.hid (((Below.refl w12.heap.size w12).alloc (Nat.le_refl _) (.cells zsig 30)).trans (below_only hg13 (Nat.le_refl _) (by simp))); clear hb13 hg13))
      have HBR2 : Hid (Below wr.heap.size wr w13.drew) := (HP12.out.far.trans (HB13.out.mono HP12.out.far.size)).drew
      have HX13 : Hid (Box w13.drew e1 23 (XO.flatten.map bv).toArray ∧ Box w13.drew e2 23 (YO.flatten.map bv).toArray) := ⟨(HX12.out.1.below HB13.out HX12.out.1.lt).drew, (HX12.out.2.below HB13.out HX12.out.2.lt).drew⟩
      have HP13 := Lib.hid (HP12.out.call HB13.out).drew
      have HG13d : Hid (Box w13.drew w12.heap.size 30 (sigV 1 (some ⟨e1, 0, none⟩) 32 32 (some ⟨e2, 0, none⟩) 32 32 C2 Q.length c2)) := HG13.out.drew
      have HB0 : Hid (Below w13.drew.heap.size w13.drew w13.drew) := Below.refl _ _
      refine wp_region_held_drew (S := fun w' => Below w13.drew.heap.size w13.drew w') (by kernel_rfl) HB0.out (fun hS => ?_)
      clear HX12 HP12 HB13 HG13 HB0 HSGN
      generalize w13.drew = w14 at *
      have HB9F := Lib.hid (HB9R.out.trans (HBR2.out.mono HB9R.out.size))
      have HB1F := Lib.hid (HB1R.out.trans (HBR2.out.mono HB1R.out.size))
      have HSMR : Hid (∀ w', Below w14.heap.size w14 w' → w'.rangeAt b7 0 (sigV n A X.length a B Y.length b A6 P.length c6).toList) := fun w' hb => by
        have h9 := HM7.out.below HB79.out HM7.out.lt
        have h14 := h9.below HB9F.out h9.lt
        exact Box.range (h14.below hb h14.lt)
      have HSSR : Hid (∀ w', Below w14.heap.size w14 w' → w'.rangeAt (w.heap.size + 1 + 1) 0 (sigV n A X.length a B Y.length b C P.length c).toList) := fun w' hb => Box.range ((HG.out.below HB1F.out HG.out.lt).below hb (HG.out.below HB1F.out HG.out.lt).lt)
      have HSDR : Hid (∀ w', Below w14.heap.size w14 w' → w'.rangeAt (w.heap.size + 1) 0 (d.map bv)) := fun w' hb => Box.range ((HD.out.below HB1F.out HD.out.lt).below hb (HD.out.below HB1F.out HD.out.lt).lt)
      have HS2R : Hid (∀ w', Below w14.heap.size w14 w' → w'.rangeAt w12.heap.size 0 (sigV 1 (some ⟨e1, 0, none⟩) 32 32 (some ⟨e2, 0, none⟩) 32 32 C2 Q.length c2).toList) := fun w' hb => Box.range (HG13d.out.below hb HG13d.out.lt)
      have HSM : Hid (∀ w', Below w14.heap.size w14 w' → Calls Tryd.prog 13 #[.agg (sigV n A X.length a B Y.length b A6 P.length c6), .agg (sigV n A X.length a B Y.length b C P.length c)] w' fun e w'' => e = .returned (.bool true) ∧ Below w'.heap.size w' w'') := fun w' hb => by
        have hz := HBD.out
        have h1 := HB1F.out.trans (hb.mono HB1F.out.size)
        have h6 := ((HD7.out.far HB79.out).below HB9F.out).more HB9F.out.size
        have h9 := ksame_any n n X Y P X Y P A B A6 A B C a b c6 a b c w' (HDA.out.far h1) (HDB.out.far h1) (h6.far hb) (HDA.out.far h1) (HDB.out.far h1) (HDC.out.far h1) (by omega) (by omega) (by omega)
        rw [decide_eq_true (rfl : n = n), decide_eq_true (rfl : X = X), decide_eq_true (rfl : Y = Y), decide_eq_true (rfl : P = P)] at h9
        exact h9
      have HKY : Hid (∀ w', Below w14.heap.size w14 w' → Calls Tryd.prog 9 #[.pointer (some ⟨ta, 0, none⟩)] w' fun e w'' => e = .returned (.agg (keyV r 2)) ∧ Below w'.heap.size w' w'') := fun w' hb => HKYN.out w' ta tg ((HT.out.call HBR2.out).call hb)
      have HCK2 : Hid (∀ w', Below w14.heap.size w14 w' → Calls Tryd.prog 16 #[.agg (keyV r 2), .agg (d.map bv).toArray, .agg (sigV 1 (some ⟨e1, 0, none⟩) 32 32 (some ⟨e2, 0, none⟩) 32 32 C2 Q.length c2)] w' fun e w'' => e = .returned (.bool true) ∧ Below w'.heap.size w' w'') := fun w' hb => HCKN.out w' _ e1 e2 C2 c2 (HB1F.out.trans (hb.mono HB1F.out.size)) (HX13.out.1.below hb HX13.out.1.lt) (HX13.out.2.below hb HX13.out.2.lt) (HP13.out.call hb)
      have hq1 := HLM.out
      have hq2 := HLG.out
      have hq3 := HLD.out
      have hq4 := sig_list 1 (some ⟨e1, 0, none⟩) 32 32 (some ⟨e2, 0, none⟩) 32 32 C2 Q.length c2
      clear HX13 HP13 HG13d HKYN HCKN HD7 HM7
      (refine wpAnyH_take (i := 0) (v := .agg (sigV n A X.length a B Y.length b A6 P.length c6)) rfl (by kernel_rfl) (by kernel_rfl) (by kernel_rfl) (fun _ _ _ h => h) (yieldsIf_load_mid (by kernel_rfl) 30 (.tmp 7) rfl b7 (0) (by kernel_rfl) ((sigV n A X.length a B Y.length b A6 P.length c6).toList) _ (fun w h => HSMR.out w h) hu3 rfl hq1) hS ?_)
      (try simp only [Act.put])
      (refine wpAnyH_take (i := 1) (v := .agg (sigV n A X.length a B Y.length b C P.length c)) rfl (by kernel_rfl) (by kernel_rfl) (by kernel_rfl) (fun _ _ _ h => h) (yieldsIf_load_mid (by kernel_rfl) 30 (.tmp 5) rfl (w.heap.size + 1 + 1) (0) (by kernel_rfl) ((sigV n A X.length a B Y.length b C P.length c).toList) _ (fun w h => HSSR.out w h) hu3 rfl hq2) hS ?_)
      (try simp only [Act.put])
      refine wpAnyH_ready (rs := [2]) (by decide +kernel) (by simp) (AllReadyH.cons rfl (fun K hK => ?_) AllReadyH.nil)
      go_simp
      (go_at_call 13; (with_reducible refine (HSM.out _ hS).mono ?_); rintro e w15 ⟨rfl, hb⟩)
      refine hK.out _ _ (hS.trans (hb.mono hS.size)) (fun hS => ?_)
      clear hK K
      (try simp only [Act.put])
      clear hb
      (refine wpAnyH_take (i := 3) (v := .bool true) rfl (by kernel_rfl) (by kernel_rfl) (by kernel_rfl) (fun _ _ _ h => h) (Or.inl ⟨by kernel_rfl, fun w hSw => by go_simp⟩) hS ?_)
      (try simp only [Act.put])
      (refine wpAnyH_take (i := 4) (v := .pointer (some ⟨ta, 0, none⟩)) rfl (by kernel_rfl) (by kernel_rfl) (by kernel_rfl) (fun _ _ _ h => h) (Or.inl ⟨by kernel_rfl, fun w hSw => by go_simp⟩) hS ?_)
      (try simp only [Act.put])
      (refine wpAnyH_take (i := 6) (v := .agg (d.map bv).toArray) rfl (by kernel_rfl) (by kernel_rfl) (by kernel_rfl) (fun _ _ _ h => h) (yieldsIf_load_mid (by kernel_rfl) 23 (.tmp 4) rfl (w.heap.size + 1) (0) (by kernel_rfl) (d.map bv) _ (fun w h => HSDR.out w h) hund rfl hq3) hS ?_)
      (try simp only [Act.put])
      (refine wpAnyH_take (i := 7) (v := .agg (sigV 1 (some ⟨e1, 0, none⟩) 32 32 (some ⟨e2, 0, none⟩) 32 32 C2 Q.length c2)) rfl (by kernel_rfl) (by kernel_rfl) (by kernel_rfl) (fun _ _ _ h => h) (yieldsIf_load_mid (by kernel_rfl) 30 (.tmp 13) rfl w12.heap.size (0) (by kernel_rfl) ((sigV 1 (some ⟨e1, 0, none⟩) 32 32 (some ⟨e2, 0, none⟩) 32 32 C2 Q.length c2).toList) _ (fun w h => HS2R.out w h) hu3 rfl hq4) hS ?_)
      (try simp only [Act.put])
      refine wpAnyH_ready (rs := [5]) (by decide +kernel) (by simp) (AllReadyH.cons rfl (fun K hK => ?_) AllReadyH.nil)
      go_simp
      (go_at_call 9; (with_reducible refine (HKY.out _ hS).mono ?_); rintro e w16 ⟨rfl, hb⟩)
      refine hK.out _ _ (hS.trans (hb.mono hS.size)) (fun hS => ?_)
      clear hK K
      (try simp only [Act.put])
      clear hb
      refine wpAnyH_ready (rs := [8]) (by decide +kernel) (by simp) (AllReadyH.cons rfl (fun K hK => ?_) AllReadyH.nil)
      go_simp
      (go_at_call 16; (with_reducible refine (HCK2.out _ hS).mono ?_); rintro e w17 ⟨rfl, hb⟩)
      refine hK.out _ _ (hS.trans (hb.mono hS.size)) (fun hS => ?_)
      clear hK K
      (try simp only [Act.put])
      clear hb
      refine wpAnyH_ready (rs := [9]) (by decide +kernel) (by simp) (AllReadyH.cons rfl (fun K hK => ?_) AllReadyH.nil)
      go_simp
      refine hK.out _ _ (hS) (fun hS => ?_)
      clear hK K
      (try simp only [Act.put])
      refine wpAnyH_ready (rs := [10]) (by decide +kernel) (by simp) (AllReadyH.cons rfl (fun K hK => ?_) AllReadyH.nil)
      go_simp
      refine hK.out _ _ (hS) (fun hS => ?_)
      clear hK K
      (try simp only [Act.put])
      refine wpAnyH_done (by kernel_rfl) ?_ _

      have HFG := Lib.hid (HF.out.trans ((HB1F.out.trans (hS.mono HB1F.out.size)).mono HF.out.size))
      clear hS
      go_wp2
      go_ret
      exact ⟨rfl, HFG.out⟩
end Go.Proofs.YtkmmhkoommbkpaaDoor
