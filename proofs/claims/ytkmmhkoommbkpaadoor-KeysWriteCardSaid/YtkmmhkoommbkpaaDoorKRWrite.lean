/-
  Signatures written, by the document: wapentakeref05.Write.
-/
import Derived.Test.YtkmmhkoommbkpaaDoorKTree
import Derived.Test.YtkmmhkoommbkpaaDoorKRdPlain
import Derived.Test.YtkmmhkoommbkpaaDoorOB
import Derived.Test.YtkmmhkoommbkpaaDoorTG
import Derived.Deep.RegionHeld3
namespace Go.Proofs.YtkmmhkoommbkpaaDoor
open Go.RowKit

attribute [local go_sem ↓] ldDigest_def stDigest_def

/-- What is written behind k lists. -/
def tT (nb mb : List UInt8) (X Y P : List (List UInt8)) : Nat → List UInt8
  | 0 => nb ++ mb
  | 1 => (nb ++ mb) ++ X.flatten
  | 2 => ((nb ++ mb) ++ X.flatten) ++ Y.flatten
  | _ => (((nb ++ mb) ++ X.flatten) ++ Y.flatten) ++ P.flatten
theorem tT_size {nb mb : List UInt8} {X Y P : List (List UInt8)} (h : (tT nb mb X Y P 3).length ≤ 2256) : (tT nb mb X Y P 0).length ≤ 2256 ∧ (tT nb mb X Y P 1).length ≤ 2256 ∧ (tT nb mb X Y P 2).length ≤ 2256 := by
  simp only [tT, List.length_append] at *
  omega
theorem take_flat_le (D : List (List UInt8)) (j : Nat) : (D.take j).flatten.length ≤ D.flatten.length := by
  conv => rhs; rw [← List.take_append_drop j D, List.flatten_append, List.length_append]
  omega
set_option maxRecDepth 100000 in
set_option maxHeartbeats 2000000 in
theorem rkwrite_not (n : Int) (X Y P : List (List UInt8)) (A B C : Option Addr) (x y z : Nat) (hf : fitsT X Y P = false) (w : World) :
    Calls Tryd.prog 19 #[.agg (sigV n A X.length x B Y.length y C P.length z)] w fun e w' => e = .returned (.tuple #[str [], .bool false]) ∧ Below w.heap.size w w' := by
  have hB : Box (w.alloc (.cells (sigV n A X.length x B Y.length y C P.length z) 30)) w.heap.size 30 (sigV n A X.length x B Y.length y C P.length z) := Box.made _ _ _
  have HF : Hid (Below w.heap.size w (w.alloc (.cells (sigV n A X.length x B Y.length y C P.length z) 30))) := (Below.refl _ _).alloc (Nat.le_refl _) _
  have c1 := hB.cell 1
  have c2 := hB.cell 2
  have c3 := hB.cell 3
  simp only [List.getElem?_toArray, List.getElem?_cons_zero, List.getElem?_cons_succ] at c1 c2 c3
  unfold fitsT at hf
  rw [decide_eq_false_iff_not] at hf
  have HN := Lib.hid hf
  clear hB hf
  go_enter Tryd.func19, Tryd.ntmps19
  go_upto_region 1 with fail
  change Code.wp _ _ _ _ (w.alloc (.cells (sigV n A X.length x B Y.length y C P.length z) 30))
  generalize w.alloc (.cells (sigV n A X.length x B Y.length y C P.length z) 30) = w1 at *
  generalize X.length = lx at *
  generalize Y.length = ly at *
  generalize P.length = lp at *
  by_cases hx : lx = 32
  · have e2 : ((lx : Int) == 32) = true := by rw [beq_iff_eq]; omega
    have e4 : ((lx : Int) != 32) = false := by rw [bne_eq_false_iff_eq]; omega
    by_cases hy : ly = 32
    · have e6 : ((ly : Int) == 32) = true := by rw [beq_iff_eq]; omega
      have e8 : ((ly : Int) != 32) = false := by rw [bne_eq_false_iff_eq]; omega
      have e9 : decide ((6 : Int) < (lp : Int)) = true := decide_eq_true (by have := HN.out; omega)
      go_wp2
      go_ret2
      exact ⟨rfl, HF.out⟩
    · have e6 : ((ly : Int) == 32) = false := by rw [beq_eq_false_iff_ne]; omega
      have e8 : ((ly : Int) != 32) = true := by rw [bne_iff_ne]; omega
      go_wp2
      go_ret2
      exact ⟨rfl, HF.out⟩
  · have e2 : ((lx : Int) == 32) = false := by rw [beq_eq_false_iff_ne]; omega
    have e4 : ((lx : Int) != 32) = true := by rw [bne_iff_ne]; omega
    go_wp2
    go_ret2
    exact ⟨rfl, HF.out⟩

set_option maxRecDepth 100000 in
set_option maxHeartbeats 4000000 in
theorem rkwrite_any (n : Int) (hn : -9223372036854775808 ≤ n ∧ n ≤ 9223372036854775807) (X Y P : List (List UInt8)) (A B C : Option Addr) (x y z : Nat) (hf : fitsT X Y P = true) (w : World) (hA : Digs w w.heap.size A X) (hB : Digs w w.heap.size B Y) (hC : Digs w w.heap.size C P) :
    Calls Tryd.prog 19 #[.agg (sigV n A X.length x B Y.length y C P.length z)] w fun e w' => e = .returned (.tuple #[str (sigBytes n X Y P), .bool true]) ∧ Below w.heap.size w w' := by
  have HG : Hid (Box (w.alloc (.cells (sigV n A X.length x B Y.length y C P.length z) 30)) w.heap.size 30 (sigV n A X.length x B Y.length y C P.length z)) := Box.made _ _ _
  have HF : Hid (Below w.heap.size w (w.alloc (.cells (sigV n A X.length x B Y.length y C P.length z) 30))) := (Below.refl _ _).alloc (Nat.le_refl _) _
  have HDA := Lib.hid (hA.far HF.out)
  have HDB := Lib.hid (hB.far HF.out)
  have HDC := Lib.hid (hC.far HF.out)
  have hfd := hf
  unfold fitsT at hfd
  rw [decide_eq_true_iff] at hfd
  have HFT : Hid (X.length = 32 ∧ Y.length = 32 ∧ P.length ≤ 6) := hfd
  obtain ⟨f1, f2, f3⟩ := hfd
  have e1 : ((X.length : Int) == 32) = true := by rw [beq_iff_eq]; omega
  have e2 : ((X.length : Int) != 32) = false := by rw [bne_eq_false_iff_eq]; omega
  have e3 : ((Y.length : Int) == 32) = true := by rw [beq_iff_eq]; omega
  have e4 : ((Y.length : Int) != 32) = false := by rw [bne_eq_false_iff_eq]; omega
  have e5 : decide ((6 : Int) < (P.length : Int)) = false := decide_eq_false (by omega)
  have HSL := Lib.hid (sig_len (n := n) hA.all hB.all hC.all hf)
  have HN1 : Hid (∀ w', Calls Tryd.prog 50 #[.int .i64 n] w' fun e w'' => e = .returned (str (numBytes n)) ∧ Below w'.heap.size w' w'') := fun w' => refnum_any n hn.1 hn.2 w'
  have HN2 : Hid (∀ w', Calls Tryd.prog 50 #[.int .i64 (P.length : Int)] w' fun e w'' => e = .returned (str (numBytes (P.length : Int))) ∧ Below w'.heap.size w' w'') := fun w' => refnum_any (P.length : Int) (by omega) (by omega) w'
  have HLA : Hid (X.flatten.length = 32 * X.length) := hA.all.flat
  have HLB : Hid (Y.flatten.length = 32 * Y.length) := hB.all.flat
  have HLC : Hid (P.flatten.length = 32 * P.length) := hC.all.flat
  clear hA hB hC f1 f2 f3 hf
  go_enter Tryd.func19, Tryd.ntmps19
  go_upto_region 1 with fail
  change Code.wp _ _ _ _ (w.alloc (.cells (sigV n A X.length x B Y.length y C P.length z) 30))
  generalize w.alloc (.cells (sigV n A X.length x B Y.length y C P.length z) 30) = w1 at *
  have c1 := HG.out.cell 1
  have c2 := HG.out.cell 2
  have c3 := HG.out.cell 3
  simp only [List.getElem?_toArray, List.getElem?_cons_zero, List.getElem?_cons_succ] at c1 c2 c3
  go_upto_region 3 with fail
  clear c1 c2 c3 e1 e2 e3 e4 e5
  have HCS : Hid (∀ w', Below w1.heap.size w1 w' → w'.cell? ⟨w.heap.size, 0, none⟩ = some (.int .i64 n) ∧ w'.cell? ⟨w.heap.size, 1, none⟩ = some (.slice A X.length x) ∧ w'.cell? ⟨w.heap.size, 2, none⟩ = some (.slice B Y.length y) ∧ w'.cell? ⟨w.heap.size, 3, none⟩ = some (.slice C P.length z)) := fun w' hb => ⟨(HG.out.below hb HG.out.lt).cell 0, (HG.out.below hb HG.out.lt).cell 1, (HG.out.below hb HG.out.lt).cell 2, (HG.out.below hb HG.out.lt).cell 3⟩
  have HB1d : Hid (Below w1.heap.size w1 w1.drew) := (Below.refl _ _).drew
  refine wp_region_held_drew (S := fun w' => Below w1.heap.size w1 w') (by kernel_rfl) HB1d.out (fun hS => ?_)
  clear HB1d
  (refine wpAnyH_take (i := 0) (v := .pointer (some ⟨w.heap.size, 0, none⟩)) rfl (by kernel_rfl) (by kernel_rfl) (by kernel_rfl) (fun _ _ _ h => h) (Or.inl ⟨by kernel_rfl, fun w hSw => by go_simp⟩) hS ?_)
  (try simp only [Act.put])
  (refine wpAnyH_take (i := 1) (v := .int .i64 n) rfl (by kernel_rfl) (by kernel_rfl) (by kernel_rfl) (fun _ _ _ h => h) (Or.inl ⟨by kernel_rfl, fun w hSw => by have hc := (HCS.out w hSw).1; go_simp⟩) hS ?_)
  (try simp only [Act.put])
  (refine wpAnyH_take (i := 3) (v := .pointer (some ⟨w.heap.size, 3, none⟩)) rfl (by kernel_rfl) (by kernel_rfl) (by kernel_rfl) (fun _ _ _ h => h) (Or.inl ⟨by kernel_rfl, fun w hSw => by go_simp⟩) hS ?_)
  (try simp only [Act.put])
  (refine wpAnyH_take (i := 4) (v := .slice C P.length z) rfl (by kernel_rfl) (by kernel_rfl) (by kernel_rfl) (fun _ _ _ h => h) (Or.inl ⟨by kernel_rfl, fun w hSw => by have hc := (HCS.out w hSw).2.2.2; go_simp⟩) hS ?_)
  (try simp only [Act.put])
  (refine wpAnyH_take (i := 5) (v := .int .i64 (P.length : Int)) rfl (by kernel_rfl) (by kernel_rfl) (by kernel_rfl) (fun _ _ _ h => h) (Or.inl ⟨by kernel_rfl, fun w hSw => by go_simp⟩) hS ?_)
  (try simp only [Act.put])
  refine wpAnyH_ready (rs := [2]) (by decide +kernel) (by simp) (AllReadyH.cons rfl (fun K hK => ?_) AllReadyH.nil)
  go_simp
  (go_at_call_of 50 (Value.int .i64 n); (with_reducible refine (HN1.out _).mono ?_); rintro e w2 ⟨rfl, hb⟩)
  refine hK.out _ _ (hS.trans (hb.mono hS.size)) (fun hS => ?_)
  clear hK K
  (try simp only [Act.put])
  clear hb
  refine wpAnyH_ready (rs := [6]) (by decide +kernel) (by simp) (AllReadyH.cons rfl (fun K hK => ?_) AllReadyH.nil)
  go_simp
  (go_at_call_of 50 (Value.int .i64 (P.length : Int)); (with_reducible refine (HN2.out _).mono ?_); rintro e w3 ⟨rfl, hb⟩)
  refine hK.out _ _ (hS.trans (hb.mono hS.size)) (fun hS => ?_)
  clear hK K
  (try simp only [Act.put])
  clear hb
  have HSE : Hid (sigBytes n X Y P = tT (numBytes n) (numBytes (P.length : Int)) X Y P 3) := by
    show _ = _
    unfold sigBytes tT
    simp
  have hl1 := numBytes_len n
  have hl2 := numBytes_len (P.length : Int)
  obtain ⟨S0, hS0⟩ : ∃ S0 : ByteArray, S0 = ⟨(numBytes n ++ numBytes (P.length : Int)).toArray⟩ := ⟨_, rfl⟩
  have hcat := bytes_cat (numBytes n) (numBytes (P.length : Int))
  rw [← hS0] at hcat
  have HSZ0 : Hid (S0.size = 16) := by
    show _ = _
    rw [hS0]
    show (numBytes n ++ numBytes (P.length : Int)).toArray.size = 16
    rw [List.size_toArray, List.length_append, hl1, hl2]
  have HS0 := Lib.hid hS0
  clear hS0
  generalize numBytes n = nb at *
  generalize numBytes (P.length : Int) = mb at *
  refine wpAnyH_ready (rs := [7]) (by decide +kernel) (by simp) (AllReadyH.cons rfl (fun K hK => ?_) AllReadyH.nil)
  go_simp
  refine hK.out _ _ (hS) (fun hS => ?_)
  clear hK K
  (try simp only [Act.put])
  refine wpAnyH_ready (rs := [8]) (by decide +kernel) (by simp) (AllReadyH.cons rfl (fun K hK => ?_) AllReadyH.nil)
  go_simp
  refine hK.out _ _ (hS) (fun hS => ?_)
  clear hK K
  (try simp only [Act.put])
  refine wpAnyH_done (by kernel_rfl) ?_ _
  have HB3 := Lib.hid hS
  clear hS hcat hl1 hl2
  have k1 := (HCS.out _ HB3.out).2.1
  have k2 := (HCS.out _ HB3.out).2.2.1
  have k3 := (HCS.out _ HB3.out).2.2.2
  have HBL : Hid (Box (w3.alloc (.cells #[.slice A X.length x, .slice B Y.length y, .slice C P.length z] 26)) w3.heap.size 26 #[.slice A X.length x, .slice B Y.length y, .slice C P.length z]) := Box.made _ _ _
  have HB4 : Hid (Below w1.heap.size w1 (w3.alloc (.cells #[.slice A X.length x, .slice B Y.length y, .slice C P.length z] 26))) := HB3.out.alloc HB3.out.size _
  go_upto_region 5 with fail
  clear k1 k2 k3 HCS HG HN1 HN2
  generalize w3.alloc (.cells #[.slice A X.length x, .slice B Y.length y, .slice C P.length z] 26) = w4 at *
  have HTL : Hid ((tT nb mb X Y P 3).length ≤ 2256) := by
    show _ ≤ _
    rw [← HSE.out]
    exact HSL.out
  have HDA4 := Lib.hid (HDA.out.far HB4.out)
  have HDB4 := Lib.hid (HDB.out.far HB4.out)
  have HDC4 := Lib.hid (HDC.out.far HB4.out)
  have HCL : Hid (∀ w', Below w4.heap.size w4 w' → w'.cell? ⟨w3.heap.size, 0, none⟩ = some (.slice A X.length x) ∧ w'.cell? ⟨w3.heap.size, 1, none⟩ = some (.slice B Y.length y) ∧ w'.cell? ⟨w3.heap.size, 2, none⟩ = some (.slice C P.length z)) := fun w' hb => ⟨(HBL.out.below hb HBL.out.lt).cell 0, (HBL.out.below hb HBL.out.lt).cell 1, (HBL.out.below hb HBL.out.lt).cell 2⟩
  have hxb : X.length ≤ 32 ∧ Y.length ≤ 32 ∧ P.length ≤ 32 := by
    have := HFT.out
    omega
  obtain ⟨hxb1, hxb2, hxb3⟩ := hxb
  clear HDA HDB HDC HBL HB3
  go_loopw [4, 6, 8, 45] (fun s _ _ i wr => ∃ (k : Nat) (S : ByteArray), k ≤ 3 ∧ s = .string S ∧ S.size ≤ 2256 ∧ i = .int .i64 (k : Int) ∧ Hid (S = ⟨(tT nb mb X Y P k).toArray⟩) ∧ Hid (Below w4.heap.size w4 wr)) (fun _ _ _ i _ => 3 - (intOf i).toNat)
  case atStart => exact ⟨0, S0, by omega, rfl, by rw [HSZ0.out]; decide, rfl, HS0, Below.refl _ _⟩
  case round =>
    clear HS0 HSZ0
    obtain ⟨k, S, hk, rfl, hS, rfl, HS, HW⟩ := hrel
    have hk4 : k = 0 ∨ k = 1 ∨ k = 2 ∨ k = 3 := by omega
    rcases hk4 with rfl | rfl | rfl | rfl
    · rw [show ((0 : Nat) : Int) = 0 from rfl]
      have cl := (HCL.out _ HW.out).1
      go_upto_region 8 with fail
      clear cl
      have HTA : Hid ((tT nb mb X Y P 0).length ≤ 2256 ∧ tT nb mb X Y P (0 + 1) = tT nb mb X Y P 0 ++ X.flatten ∧ (tT nb mb X Y P (0 + 1)).length ≤ 2256) := ⟨(tT_size HTL.out).1, rfl, (tT_size HTL.out).2.1⟩
      go_loopw [4, 8, 51] (fun s _ i wr2 => ∃ (j : Nat) (S2 : ByteArray), j ≤ X.length ∧ s = .string S2 ∧ S2.size ≤ 2256 ∧ i = .int .i64 (j : Int) ∧ Hid (S2 = ⟨(tT nb mb X Y P 0 ++ (X.take j).flatten).toArray⟩) ∧ Hid (Below w4.heap.size w4 wr2)) (fun _ _ i _ => X.length - (intOf i).toNat)
      case atStart => exact ⟨0, S, Nat.zero_le _, rfl, hS, rfl, by rw [List.take_zero, List.flatten_nil, List.append_nil]; exact HS, HW⟩
      case round =>
        clear HS HW hS
        obtain ⟨j, S2, hj, rfl, hS2, rfl, HS2, HW2⟩ := hrel
        by_cases hlt : j < X.length
        · obtain ⟨g1, o1, rfl, _, _⟩ := HDA4.out.some_ (by omega)
          have HRX := Lib.hid ((HDA4.out.far HW2.out).at_ hlt)
          have HXL := Lib.hid (HDA4.out.all.get hlt [])
          have HE2 : Hid (S2 ++ ⟨(X.getD j []).toArray⟩ = ⟨(tT nb mb X Y P 0 ++ (X.take (j + 1)).flatten).toArray⟩) := by
            show _ = _
            rw [HS2.out, bytes_cat, flat_take_succ X j hlt, List.append_assoc]
          have HLEN : Hid ((⟨(tT nb mb X Y P 0 ++ (X.take (j + 1)).flatten).toArray⟩ : ByteArray).size ≤ 2256) := by
            show (tT nb mb X Y P 0 ++ (X.take (j + 1)).flatten).toArray.size ≤ 2256
            have h1 := take_flat_le X (j + 1)
            have h2 := HTA.out.2.2
            rw [HTA.out.2.1, List.length_append] at h2
            rw [List.size_toArray, List.length_append]
            omega
          obtain ⟨S3, hS3⟩ : ∃ S3 : ByteArray, S3 = ⟨(tT nb mb X Y P 0 ++ (X.take (j + 1)).flatten).toArray⟩ := ⟨_, rfl⟩
          rw [← hS3] at HE2 HLEN
          have HS3 := Lib.hid hS3
          clear hS3 HS2
          have HDG : Hid (∀ w', Calls Tryd.prog 36 #[.agg ((X.getD j []).map bv).toArray] w' fun e w'' => e = .returned (str (X.getD j [])) ∧ Below w'.heap.size w' w'') := fun w' => digstr_any _ HXL.out w'
          have hzl : (X.getD j []).length ≤ 32 := Nat.le_of_eq HXL.out
          obtain ⟨oa, hoa⟩ : ∃ oa, o1 + j * 32 = oa := ⟨_, rfl⟩
          rw [hoa] at HRX
          generalize X.getD j [] = d at *
          have HLX := Lib.hid (dig_list d HXL.out)
          have HSM := Lib.hid (dig_same d HXL.out)
          have HSZ := Lib.hid (dig_size d HXL.out)
          have i1 : (j : Int) < (X.length : Int) := by omega
          have hx2 := HE2.out
          go_wp2_with (first
            | ((with_reducible show wpList _ _ _ ((⟨some 54, _, _, _, _, _⟩ : Oper) :: _) _ _); refine wpList_load_mid rfl 23 (.tmp 53) rfl g1 oa rfl (d.map bv) _ HRX.out Tryd.underlying23 rfl HLX.out ?_)
            | (((with_reducible show wpList _ _ _ ((⟨none, Op.store _ (.tmp 8) (.tmp 54), _, _, _, _⟩ : Oper) :: _) _ _)); refine wpList_store_box rfl 23 (.tmp 8) (.tmp 54) rfl wr.heap.size (d.map bv).toArray rfl rfl 23 zs32 (Box.made wr _ _) HSM.out HSZ.out (bv_one _) ?_; intro w7 hb7 hg7; have HQ7 := Lib.hid hb7; have HW7 := Lib.hid (HW2.out.trans ((((Below.refl wr.heap.size wr).alloc (Nat.le_refl _) (.cells zs32 23)).trans (below_only hg7 (Nat.le_refl _) (by simp))).mono HW2.out.size)); clear hb7 hg7)
            | ((with_reducible show wpList _ _ _ ((⟨some 56, _, _, _, _, _⟩ : Oper) :: _) _ _); refine wpList_load_mid rfl 23 (.tmp 8) rfl wr.heap.size 0 rfl (d.map bv) _ HQ7.out.range Tryd.underlying23 rfl HLX.out ?_)
            | (go_at_call 36; (with_reducible refine (HDG.out _).mono ?_); rintro e w8 ⟨rfl, hb⟩; have HW8 := Lib.hid (HW7.out.trans (hb.mono HW7.out.size)); clear hb))
          go_roundw
          case rel => exact ⟨j + 1, S3, hlt, by first | rfl | exact congrArg Value.string HE2.out, HLEN.out, by go_num, HS3, HW8⟩
          case measure => simp [intOf]; omega
        · obtain rfl : j = X.length := by omega
          have HS3 : Hid (S2 = ⟨(tT nb mb X Y P (0 + 1)).toArray⟩) := by
            show _ = _
            rw [HS2.out, HTA.out.2.1, List.take_length]
          clear HS2
          go_wp2
          go_roundw
          case rel => exact ⟨0 + 1, S2, by omega, rfl, hS2, by first | rfl | go_num, HS3, HW2⟩
          case measure => simp [intOf]
    · rw [show ((1 : Nat) : Int) = 1 from rfl]
      have cl := (HCL.out _ HW.out).2.1
      go_upto_region 8 with fail
      clear cl
      have HTA : Hid ((tT nb mb X Y P 1).length ≤ 2256 ∧ tT nb mb X Y P (1 + 1) = tT nb mb X Y P 1 ++ Y.flatten ∧ (tT nb mb X Y P (1 + 1)).length ≤ 2256) := ⟨(tT_size HTL.out).2.1, rfl, (tT_size HTL.out).2.2⟩
      go_loopw [4, 8, 51] (fun s _ i wr2 => ∃ (j : Nat) (S2 : ByteArray), j ≤ Y.length ∧ s = .string S2 ∧ S2.size ≤ 2256 ∧ i = .int .i64 (j : Int) ∧ Hid (S2 = ⟨(tT nb mb X Y P 1 ++ (Y.take j).flatten).toArray⟩) ∧ Hid (Below w4.heap.size w4 wr2)) (fun _ _ i _ => Y.length - (intOf i).toNat)
      case atStart => exact ⟨0, S, Nat.zero_le _, rfl, hS, rfl, by rw [List.take_zero, List.flatten_nil, List.append_nil]; exact HS, HW⟩
      case round =>
        clear HS HW hS
        obtain ⟨j, S2, hj, rfl, hS2, rfl, HS2, HW2⟩ := hrel
        by_cases hlt : j < Y.length
        · obtain ⟨g1, o1, rfl, _, _⟩ := HDB4.out.some_ (by omega)
          have HRX := Lib.hid ((HDB4.out.far HW2.out).at_ hlt)
          have HXL := Lib.hid (HDB4.out.all.get hlt [])
          have HE2 : Hid (S2 ++ ⟨(Y.getD j []).toArray⟩ = ⟨(tT nb mb X Y P 1 ++ (Y.take (j + 1)).flatten).toArray⟩) := by
            show _ = _
            rw [HS2.out, bytes_cat, flat_take_succ Y j hlt, List.append_assoc]
          have HLEN : Hid ((⟨(tT nb mb X Y P 1 ++ (Y.take (j + 1)).flatten).toArray⟩ : ByteArray).size ≤ 2256) := by
            show (tT nb mb X Y P 1 ++ (Y.take (j + 1)).flatten).toArray.size ≤ 2256
            have h1 := take_flat_le Y (j + 1)
            have h2 := HTA.out.2.2
            rw [HTA.out.2.1, List.length_append] at h2
            rw [List.size_toArray, List.length_append]
            omega
          obtain ⟨S3, hS3⟩ : ∃ S3 : ByteArray, S3 = ⟨(tT nb mb X Y P 1 ++ (Y.take (j + 1)).flatten).toArray⟩ := ⟨_, rfl⟩
          rw [← hS3] at HE2 HLEN
          have HS3 := Lib.hid hS3
          clear hS3 HS2
          have HDG : Hid (∀ w', Calls Tryd.prog 36 #[.agg ((Y.getD j []).map bv).toArray] w' fun e w'' => e = .returned (str (Y.getD j [])) ∧ Below w'.heap.size w' w'') := fun w' => digstr_any _ HXL.out w'
          have hzl : (Y.getD j []).length ≤ 32 := Nat.le_of_eq HXL.out
          obtain ⟨oa, hoa⟩ : ∃ oa, o1 + j * 32 = oa := ⟨_, rfl⟩
          rw [hoa] at HRX
          generalize Y.getD j [] = d at *
          have HLX := Lib.hid (dig_list d HXL.out)
          have HSM := Lib.hid (dig_same d HXL.out)
          have HSZ := Lib.hid (dig_size d HXL.out)
          have i1 : (j : Int) < (Y.length : Int) := by omega
          have hx2 := HE2.out
          go_wp2_with (first
            | ((with_reducible show wpList _ _ _ ((⟨some 54, _, _, _, _, _⟩ : Oper) :: _) _ _); refine wpList_load_mid rfl 23 (.tmp 53) rfl g1 oa rfl (d.map bv) _ HRX.out Tryd.underlying23 rfl HLX.out ?_)
            | (((with_reducible show wpList _ _ _ ((⟨none, Op.store _ (.tmp 8) (.tmp 54), _, _, _, _⟩ : Oper) :: _) _ _)); refine wpList_store_box rfl 23 (.tmp 8) (.tmp 54) rfl wr.heap.size (d.map bv).toArray rfl rfl 23 zs32 (Box.made wr _ _) HSM.out HSZ.out (bv_one _) ?_; intro w7 hb7 hg7; have HQ7 := Lib.hid hb7; have HW7 := Lib.hid (HW2.out.trans ((((Below.refl wr.heap.size wr).alloc (Nat.le_refl _) (.cells zs32 23)).trans (below_only hg7 (Nat.le_refl _) (by simp))).mono HW2.out.size)); clear hb7 hg7)
            | ((with_reducible show wpList _ _ _ ((⟨some 56, _, _, _, _, _⟩ : Oper) :: _) _ _); refine wpList_load_mid rfl 23 (.tmp 8) rfl wr.heap.size 0 rfl (d.map bv) _ HQ7.out.range Tryd.underlying23 rfl HLX.out ?_)
            | (go_at_call 36; (with_reducible refine (HDG.out _).mono ?_); rintro e w8 ⟨rfl, hb⟩; have HW8 := Lib.hid (HW7.out.trans (hb.mono HW7.out.size)); clear hb))
          go_roundw
          case rel => exact ⟨j + 1, S3, hlt, by first | rfl | exact congrArg Value.string HE2.out, HLEN.out, by go_num, HS3, HW8⟩
          case measure => simp [intOf]; omega
        · obtain rfl : j = Y.length := by omega
          have HS3 : Hid (S2 = ⟨(tT nb mb X Y P (1 + 1)).toArray⟩) := by
            show _ = _
            rw [HS2.out, HTA.out.2.1, List.take_length]
          clear HS2
          go_wp2
          go_roundw
          case rel => exact ⟨1 + 1, S2, by omega, rfl, hS2, by first | rfl | go_num, HS3, HW2⟩
          case measure => simp [intOf]
    · rw [show ((2 : Nat) : Int) = 2 from rfl]
      have cl := (HCL.out _ HW.out).2.2
      go_upto_region 8 with fail
      clear cl
      have HTA : Hid ((tT nb mb X Y P 2).length ≤ 2256 ∧ tT nb mb X Y P (2 + 1) = tT nb mb X Y P 2 ++ P.flatten ∧ (tT nb mb X Y P (2 + 1)).length ≤ 2256) := ⟨(tT_size HTL.out).2.2, rfl, HTL.out⟩
      go_loopw [4, 8, 51] (fun s _ i wr2 => ∃ (j : Nat) (S2 : ByteArray), j ≤ P.length ∧ s = .string S2 ∧ S2.size ≤ 2256 ∧ i = .int .i64 (j : Int) ∧ Hid (S2 = ⟨(tT nb mb X Y P 2 ++ (P.take j).flatten).toArray⟩) ∧ Hid (Below w4.heap.size w4 wr2)) (fun _ _ i _ => P.length - (intOf i).toNat)
      case atStart => exact ⟨0, S, Nat.zero_le _, rfl, hS, rfl, by rw [List.take_zero, List.flatten_nil, List.append_nil]; exact HS, HW⟩
      case round =>
        clear HS HW hS
        obtain ⟨j, S2, hj, rfl, hS2, rfl, HS2, HW2⟩ := hrel
        by_cases hlt : j < P.length
        · obtain ⟨g1, o1, rfl, _, _⟩ := HDC4.out.some_ (by omega)
          have HRX := Lib.hid ((HDC4.out.far HW2.out).at_ hlt)
          have HXL := Lib.hid (HDC4.out.all.get hlt [])
          have HE2 : Hid (S2 ++ ⟨(P.getD j []).toArray⟩ = ⟨(tT nb mb X Y P 2 ++ (P.take (j + 1)).flatten).toArray⟩) := by
            show _ = _
            rw [HS2.out, bytes_cat, flat_take_succ P j hlt, List.append_assoc]
          have HLEN : Hid ((⟨(tT nb mb X Y P 2 ++ (P.take (j + 1)).flatten).toArray⟩ : ByteArray).size ≤ 2256) := by
            show (tT nb mb X Y P 2 ++ (P.take (j + 1)).flatten).toArray.size ≤ 2256
            have h1 := take_flat_le P (j + 1)
            have h2 := HTA.out.2.2
            rw [HTA.out.2.1, List.length_append] at h2
            rw [List.size_toArray, List.length_append]
            omega
          obtain ⟨S3, hS3⟩ : ∃ S3 : ByteArray, S3 = ⟨(tT nb mb X Y P 2 ++ (P.take (j + 1)).flatten).toArray⟩ := ⟨_, rfl⟩
          rw [← hS3] at HE2 HLEN
          have HS3 := Lib.hid hS3
          clear hS3 HS2
          have HDG : Hid (∀ w', Calls Tryd.prog 36 #[.agg ((P.getD j []).map bv).toArray] w' fun e w'' => e = .returned (str (P.getD j [])) ∧ Below w'.heap.size w' w'') := fun w' => digstr_any _ HXL.out w'
          have hzl : (P.getD j []).length ≤ 32 := Nat.le_of_eq HXL.out
          obtain ⟨oa, hoa⟩ : ∃ oa, o1 + j * 32 = oa := ⟨_, rfl⟩
          rw [hoa] at HRX
          generalize P.getD j [] = d at *
          have HLX := Lib.hid (dig_list d HXL.out)
          have HSM := Lib.hid (dig_same d HXL.out)
          have HSZ := Lib.hid (dig_size d HXL.out)
          have i1 : (j : Int) < (P.length : Int) := by omega
          have hx2 := HE2.out
          go_wp2_with (first
            | ((with_reducible show wpList _ _ _ ((⟨some 54, _, _, _, _, _⟩ : Oper) :: _) _ _); refine wpList_load_mid rfl 23 (.tmp 53) rfl g1 oa rfl (d.map bv) _ HRX.out Tryd.underlying23 rfl HLX.out ?_)
            | (((with_reducible show wpList _ _ _ ((⟨none, Op.store _ (.tmp 8) (.tmp 54), _, _, _, _⟩ : Oper) :: _) _ _)); refine wpList_store_box rfl 23 (.tmp 8) (.tmp 54) rfl wr.heap.size (d.map bv).toArray rfl rfl 23 zs32 (Box.made wr _ _) HSM.out HSZ.out (bv_one _) ?_; intro w7 hb7 hg7; have HQ7 := Lib.hid hb7; have HW7 := Lib.hid (HW2.out.trans ((((Below.refl wr.heap.size wr).alloc (Nat.le_refl _) (.cells zs32 23)).trans (below_only hg7 (Nat.le_refl _) (by simp))).mono HW2.out.size)); clear hb7 hg7)
            | ((with_reducible show wpList _ _ _ ((⟨some 56, _, _, _, _, _⟩ : Oper) :: _) _ _); refine wpList_load_mid rfl 23 (.tmp 8) rfl wr.heap.size 0 rfl (d.map bv) _ HQ7.out.range Tryd.underlying23 rfl HLX.out ?_)
            | (go_at_call 36; (with_reducible refine (HDG.out _).mono ?_); rintro e w8 ⟨rfl, hb⟩; have HW8 := Lib.hid (HW7.out.trans (hb.mono HW7.out.size)); clear hb))
          go_roundw
          case rel => exact ⟨j + 1, S3, hlt, by first | rfl | exact congrArg Value.string HE2.out, HLEN.out, by go_num, HS3, HW8⟩
          case measure => simp [intOf]; omega
        · obtain rfl : j = P.length := by omega
          have HS3 : Hid (S2 = ⟨(tT nb mb X Y P (2 + 1)).toArray⟩) := by
            show _ = _
            rw [HS2.out, HTA.out.2.1, List.take_length]
          clear HS2
          go_wp2
          go_roundw
          case rel => exact ⟨2 + 1, S2, by omega, rfl, hS2, by first | rfl | go_num, HS3, HW2⟩
          case measure => simp [intOf]
    · have HRV : Hid (Value.string S = str (sigBytes n X Y P)) := by
        show _ = _
        rw [HS.out, HSE.out]
      have HFF := Lib.hid (HF.out.trans ((HB4.out.trans (HW.out.mono HB4.out.size)).mono HF.out.size))
      clear HS
      go_wp2
      go_ret2
      exact ⟨congrArg (fun v => Ending.returned (.tuple #[v, .bool true])) HRV.out, HFF.out⟩
end Go.Proofs.YtkmmhkoommbkpaaDoor
