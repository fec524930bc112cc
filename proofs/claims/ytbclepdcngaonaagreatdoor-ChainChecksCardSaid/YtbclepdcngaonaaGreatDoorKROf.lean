/-
  Under what a signature is right, by the document: wapentakeref04.Of.
-/
import Derived.Test.YtbclepdcngaonaaGreatDoorOD
import Derived.Test.YtbclepdcngaonaaGreatDoorOC
namespace Go.Proofs.YtbclepdcngaonaaGreatDoor
open Go.RowKit

attribute [local go_sem ↓] ldDigest_def stDigest_def

set_option maxRecDepth 100000 in
set_option maxHeartbeats 2000000 in
theorem rof_not (d : List UInt8) (op sh : List (List UInt8)) (A B : Option Addr) (c c' : Nat) (h : ¬ (op.length = 32 ∧ sh.length = 32)) (w : World) :
    Calls Tryz.prog 125 #[.agg (d.map bv).toArray, .agg #[.slice A op.length c, .slice B sh.length c']] w fun e w' => e = .returned (.tuple #[.agg zs32, .bool false]) ∧ Below w.heap.size w w' := by
  obtain ⟨w1, hw1⟩ : ∃ w1, w1 = ((w.alloc (.cells (d.map bv).toArray 29)).alloc (.cells #[.slice A op.length c, .slice B sh.length c'] 70)).alloc (.cells zs32 29) := ⟨_, rfl⟩
  have HB : Hid (Box w1 (w.heap.size + 1) 70 #[.slice A op.length c, .slice B sh.length c']) := by
    rw [hw1]
    exact (Box.made_at (by simp) _ _).alloc _
  have HO : Hid (Box w1 (w.heap.size + 1 + 1) 29 zs32) := by
    rw [hw1]
    exact Box.made_at (by simp) _ _
  have HF : Hid (Below w.heap.size w w1) := by
    rw [hw1]
    exact (((Below.refl _ _).alloc (Nat.le_refl _) _).alloc (by simp) _).alloc (by simp; omega) _
  have HN := Lib.hid h
  clear h
  go_enter Tryz.func125, Tryz.ntmps125
  go_upto_region 1 with fail
  change Code.wp _ _ _ _ (((w.alloc (.cells (d.map bv).toArray 29)).alloc (.cells #[.slice A op.length c, .slice B sh.length c'] 70)).alloc (.cells zs32 29))
  rw [← hw1]
  clear hw1
  have c0 := HB.out.cell 0
  have c1 := HB.out.cell 1
  simp only [List.getElem?_toArray, List.getElem?_cons_zero, List.getElem?_cons_succ] at c0 c1
  generalize op.length = n at *
  generalize sh.length = m at *
  by_cases h1 : n = 32
  · have h2 : ¬ m = 32 := fun e => HN.out ⟨h1, e⟩
    subst h1
    have e2 : ((m : Int) == 32) = false := by rw [beq_eq_false_iff_ne]; omega
    have e4 : ((m : Int) != 32) = true := by rw [bne_iff_ne]; omega
    go_wp2_with (((with_reducible show wpList _ _ _ ((⟨none, Op.store _ (.tmp 4) (.tmp 20), _, _, _, _⟩ : Oper) :: _) _ _)); refine wpList_store_box rfl 29 (.tmp 4) (.tmp 20) rfl (w.heap.size + 1 + 1) zs32 rfl rfl 29 zs32 HO.out rfl zs32_size zs32_one ?_; intro w7 hb7 hg7)
    exact ret_dig_tmp rfl rfl rfl rfl hb7 zs32_size ⟨rfl, HF.out.trans (below_only hg7 (by omega) HF.out.size)⟩
  · have e2 : ((n : Int) == 32) = false := by rw [beq_eq_false_iff_ne]; omega
    have e4 : ((n : Int) != 32) = true := by rw [bne_iff_ne]; omega
    go_wp2_with (((with_reducible show wpList _ _ _ ((⟨none, Op.store _ (.tmp 4) (.tmp 20), _, _, _, _⟩ : Oper) :: _) _ _)); refine wpList_store_box rfl 29 (.tmp 4) (.tmp 20) rfl (w.heap.size + 1 + 1) zs32 rfl rfl 29 zs32 HO.out rfl zs32_size zs32_one ?_; intro w7 hb7 hg7)
    exact ret_dig_tmp rfl rfl rfl rfl hb7 zs32_size ⟨rfl, HF.out.trans (below_only hg7 (by omega) HF.out.size)⟩

set_option maxRecDepth 100000 in
set_option maxHeartbeats 2000000 in
theorem rof_any (d : List UInt8) (hd : d.length = 32) (op sh : List (List UInt8)) (A B : Option Addr) (c c' : Nat) (ho : op.length = 32) (hs : sh.length = 32) (w : World) (hA : Digs w w.heap.size A op) (hB : Digs w w.heap.size B sh) :
    Calls Tryz.prog 125 #[.agg (d.map bv).toArray, .agg #[.slice A 32 c, .slice B 32 c']] w fun e w' => e = .returned (.tuple #[.agg ((ofT d op sh).map bv).toArray, .bool true]) ∧ Below w.heap.size w w' := by
  obtain ⟨w1, hw1⟩ : ∃ w1, w1 = ((w.alloc (.cells (d.map bv).toArray 29)).alloc (.cells #[.slice A 32 c, .slice B 32 c'] 70)).alloc (.cells zs32 29) := ⟨_, rfl⟩
  have HD : Hid (Box w1 w.heap.size 29 (d.map bv).toArray) := by
    rw [hw1]
    exact ((Box.made w _ _).alloc _).alloc _
  have HBX : Hid (Box w1 (w.heap.size + 1) 70 #[.slice A 32 c, .slice B 32 c']) := by
    rw [hw1]
    exact (Box.made_at (by simp) _ _).alloc _
  have HO : Hid (Box w1 (w.heap.size + 1 + 1) 29 zs32) := by
    rw [hw1]
    exact Box.made_at (by simp) _ _
  have HF : Hid (Below w.heap.size w w1) := by
    rw [hw1]
    exact (((Below.refl _ _).alloc (Nat.le_refl _) _).alloc (by simp) _).alloc (by simp; omega) _
  have HDA := Lib.hid (hA.far HF.out)
  have HDB := Lib.hid (hB.far HF.out)
  obtain ⟨g1, o1, rfl, _, _⟩ := hA.some_ (by omega)
  obtain ⟨g2, o2, rfl, _, _⟩ := hB.some_ (by omega)
  have HXL := Lib.hid ho
  have HYL := Lib.hid hs
  have HDL := Lib.hid hd
  have HLD := Lib.hid (dig_size d hd)
  have HSA := Lib.hid hB.all
  have HQ : Hid (ofT d op sh = shaOf (bothsT d op sh 32)) := Lib.hid rfl
  clear hA hB ho hs hd
  go_enter Tryz.func125, Tryz.ntmps125
  go_upto_region 1 with fail
  change Code.wp _ _ _ _ (((w.alloc (.cells (d.map bv).toArray 29)).alloc (.cells #[.slice (some ⟨g1, o1, none⟩) 32 c, .slice (some ⟨g2, o2, none⟩) 32 c'] 70)).alloc (.cells zs32 29))
  rw [← hw1]
  clear hw1
  have c0 := HBX.out.cell 0
  have c1 := HBX.out.cell 1
  simp only [List.getElem?_toArray, List.getElem?_cons_zero, List.getElem?_cons_succ] at c0 c1
  go_upto_region 5 with fail
  clear c0 c1
  go_loopw [6, 7, 8, 9] (fun s i _ _ wr => ∃ (k : Nat) (X : ByteArray), k ≤ 32 ∧ s = .string X ∧ X.size ≤ 2048 ∧ i = .int .i64 (k : Int) ∧ Hid (X = ⟨(bothsT d op sh k).toArray⟩) ∧ Hid (Below w1.heap.size w1 wr)) (fun _ i _ _ _ => 32 - (intOf i).toNat)
  case atStart => exact ⟨0, _, Nat.zero_le _, rfl, (by decide), rfl, by exact Lib.hid rfl, Below.refl _ _⟩
  case round =>
    obtain ⟨k, X, hk, rfl, hX, rfl, HX, HB⟩ := hrel
    by_cases hlt : k < 32
    · have HXA := HDA.out.all
      have HX1 : Hid ((op.getD k []).length = 32) := HXA.get (by rw [HXL.out]; exact hlt) []
      have HY1 : Hid ((sh.getD k []).length = 32) := HSA.out.get (by rw [HYL.out]; exact hlt) []
      have HM : Hid ((shaOf (op.getD k [])).length = 32) := Lib.hid rfl
      have HBT : Hid (∀ w', Calls Tryz.prog 148 #[.agg (d.map bv).toArray, .int .i64 (k : Int)] w' fun e w'' => e = .returned (.int .i64 (bitT d k : Int)) ∧ Below w'.heap.size w' w'') := fun w' => rbit_any d HDL.out k hlt w'
      have HH : Hid (∀ w', Calls Tryz.prog 147 #[.agg ((op.getD k []).map bv).toArray] w' fun e w'' => e = .returned (.agg ((shaOf (op.getD k [])).map bv).toArray) ∧ Below w'.heap.size w' w'') := fun w' => rshut_any _ HX1.out w'
      have HDG1 : Hid (∀ w', Calls Tryz.prog 68 #[.agg ((shaOf (op.getD k [])).map bv).toArray] w' fun e w'' => e = .returned (str (shaOf (op.getD k []))) ∧ Below w'.heap.size w' w'') := fun w' => digstr_any _ rfl w'
      have HDG2 : Hid (∀ w', Calls Tryz.prog 68 #[.agg ((sh.getD k []).map bv).toArray] w' fun e w'' => e = .returned (str (sh.getD k [])) ∧ Below w'.heap.size w' w'') := fun w' => digstr_any _ HY1.out w'
      have HRX : Hid (wr.rangeAt g1 (o1 + k * 32) ((op.getD k []).map bv)) := (HDA.out.far HB.out).at_ (by rw [HXL.out]; exact hlt)
      have HRY : Hid (∀ w', Below w1.heap.size w1 w' → w'.rangeAt g2 (o2 + k * 32) ((sh.getD k []).map bv)) := fun w' hb => (HDB.out.far hb).at_ (by rw [HYL.out]; exact hlt)
      have HSX : Hid (∀ w', Below w1.heap.size w1 w' → w'.cell? ⟨w.heap.size + 1, 0, none⟩ = some (.slice (some ⟨g1, o1, none⟩) 32 c) ∧ w'.cell? ⟨w.heap.size + 1, 1, none⟩ = some (.slice (some ⟨g2, o2, none⟩) 32 c')) := fun w' hb => ⟨(HBX.out.below hb HBX.out.lt).cell 0, (HBX.out.below hb HBX.out.lt).cell 1⟩
      have HRD : Hid (∀ w', Below w1.heap.size w1 w' → w'.rangeAt w.heap.size 0 (d.map bv)) := fun w' hb => (HD.out.below hb HD.out.lt).range
      have hb2 := bitT_lt d k
      have HLEN : Hid ((⟨(bothsT d op sh (k + 1)).toArray⟩ : ByteArray).size ≤ 2048) := by
        show (bothsT d op sh (k + 1)).toArray.size ≤ 2048
        rw [List.size_toArray, bothsT_len HSA.out (k + 1) (by rw [HYL.out]; exact hlt)]
        omega
      have HX0 : Hid (X.size ≤ 1984) := by
        show X.size ≤ 1984
        rw [HX.out]
        show (bothsT d op sh k).toArray.size ≤ 1984
        rw [List.size_toArray, bothsT_len HSA.out k (by rw [HYL.out]; exact hk)]
        omega
      have HE0 : Hid (bitT d k = 0 → (X ++ ⟨(shaOf (op.getD k [])).toArray⟩) ++ ⟨(sh.getD k []).toArray⟩ = ⟨(bothsT d op sh (k + 1)).toArray⟩) := Lib.hid (fun e => by
        rw [HX.out, bytes_cat, bytes_cat, bothsT_succ]
        unfold bothT
        rw [if_pos e, List.append_assoc])
      have HE1 : Hid (¬ bitT d k = 0 → (X ++ ⟨(sh.getD k []).toArray⟩) ++ ⟨(shaOf (op.getD k [])).toArray⟩ = ⟨(bothsT d op sh (k + 1)).toArray⟩) := Lib.hid (fun e => by
        rw [HX.out, bytes_cat, bytes_cat, bothsT_succ]
        unfold bothT
        rw [if_neg e, List.append_assoc])
      have HLX := Lib.hid (dig_list (op.getD k []) HX1.out)
      have HLY := Lib.hid (dig_list (sh.getD k []) HY1.out)
      have HLD2 := Lib.hid (dig_list d HDL.out)
      obtain ⟨Y, hY⟩ : ∃ Y : ByteArray, Y = ⟨(bothsT d op sh (k + 1)).toArray⟩ := ⟨_, rfl⟩
      rw [← hY] at HE0 HE1 HLEN
      have HY := Lib.hid hY
      have hz1 : (shaOf (op.getD k [])).length ≤ 32 := Nat.le_refl _
      have hz2 : (sh.getD k []).length ≤ 32 := Nat.le_of_eq HY1.out
      generalize shaOf (op.getD k []) = h1 at *
      generalize op.getD k [] = x at *
      generalize sh.getD k [] = y at *
      generalize bitT d k = b at *
      have i1 : (k : Int) < 32 := by omega
      obtain ⟨oa, hoa⟩ : ∃ oa, o1 + k * 32 = oa := ⟨_, rfl⟩
      obtain ⟨ob, hob⟩ : ∃ ob, o2 + k * 32 = ob := ⟨_, rfl⟩
      rw [hoa] at HRX
      rw [hob] at HRY
      have c0 := (HSX.out wr HB.out).1
      have hx0 := HX0.out
      clear HXA hY hX HX HX0
      by_cases hbz : b = 0
      · have HE := Lib.hid (HE0.out hbz)
        have hb0 : ((b : Int) == 0) = true := by rw [hbz]; rfl
        clear HE0 HE1 hbz
        go_wp2_with (first
          | ((with_reducible show wpList _ _ _ ((⟨some 29, _, _, _, _, _⟩ : Oper) :: _) _ _); refine wpList_load_mid rfl 29 (.tmp 28) rfl g1 oa rfl (x.map bv) _ HRX.out Tryz.underlying29 rfl HLX.out ?_)
          | ((with_reducible show wpList _ _ _ ((⟨some 36, _, _, _, _, _⟩ : Oper) :: _) _ _); refine wpList_load_mid rfl 29 (.tmp 35) rfl g2 ob rfl (y.map bv) _ (HRY.out _ HB3.out) Tryz.underlying29 rfl HLY.out ?_)
          | ((with_reducible show wpList _ _ _ ((⟨some 38, _, _, _, _, _⟩ : Oper) :: _) _ _); refine wpList_load_mid rfl 29 (.tmp 2) rfl w.heap.size 0 rfl (d.map bv) _ (HRD.out _ HB4.out) Tryz.underlying29 rfl HLD2.out ?_)
          | (go_at_call 147; (with_reducible refine (HH.out _).mono ?_); rintro e w2 ⟨rfl, hb⟩; have HB2 := Lib.hid (HB.out.trans (hb.mono HB.out.size)); clear hb)
          | (go_at_call_of 68 (Value.agg (h1.map bv).toArray); (with_reducible refine (HDG1.out _).mono ?_); rintro e w3 ⟨rfl, hb⟩; have HB3 := Lib.hid (HB2.out.trans (hb.mono HB2.out.size)); have c1 := (HSX.out _ HB3.out).2; clear hb)
          | (go_at_call_of 68 (Value.agg (y.map bv).toArray); (with_reducible refine (HDG2.out _).mono ?_); rintro e w4 ⟨rfl, hb⟩; have HB4 := Lib.hid (HB3.out.trans (hb.mono HB3.out.size)); clear hb)
          | (go_at_call 148; (with_reducible refine (HBT.out _).mono ?_); rintro e w5 ⟨rfl, hb⟩; have HB5 := Lib.hid (HB4.out.trans (hb.mono HB4.out.size)); clear hb))
        go_roundw
        case rel => exact ⟨k + 1, Y, hlt, congrArg Value.string HE.out, HLEN.out, by go_num, HY, HB5⟩
        case measure => simp [intOf]; omega
      · have HE := Lib.hid (HE1.out hbz)
        have hb0 : ((b : Int) == 0) = false := by rw [beq_eq_false_iff_ne]; omega
        clear HE0 HE1 hbz
        go_wp2_with (first
          | ((with_reducible show wpList _ _ _ ((⟨some 29, _, _, _, _, _⟩ : Oper) :: _) _ _); refine wpList_load_mid rfl 29 (.tmp 28) rfl g1 oa rfl (x.map bv) _ HRX.out Tryz.underlying29 rfl HLX.out ?_)
          | ((with_reducible show wpList _ _ _ ((⟨some 36, _, _, _, _, _⟩ : Oper) :: _) _ _); refine wpList_load_mid rfl 29 (.tmp 35) rfl g2 ob rfl (y.map bv) _ (HRY.out _ HB3.out) Tryz.underlying29 rfl HLY.out ?_)
          | ((with_reducible show wpList _ _ _ ((⟨some 38, _, _, _, _, _⟩ : Oper) :: _) _ _); refine wpList_load_mid rfl 29 (.tmp 2) rfl w.heap.size 0 rfl (d.map bv) _ (HRD.out _ HB4.out) Tryz.underlying29 rfl HLD2.out ?_)
          | (go_at_call 147; (with_reducible refine (HH.out _).mono ?_); rintro e w2 ⟨rfl, hb⟩; have HB2 := Lib.hid (HB.out.trans (hb.mono HB.out.size)); clear hb)
          | (go_at_call_of 68 (Value.agg (h1.map bv).toArray); (with_reducible refine (HDG1.out _).mono ?_); rintro e w3 ⟨rfl, hb⟩; have HB3 := Lib.hid (HB2.out.trans (hb.mono HB2.out.size)); have c1 := (HSX.out _ HB3.out).2; clear hb)
          | (go_at_call_of 68 (Value.agg (y.map bv).toArray); (with_reducible refine (HDG2.out _).mono ?_); rintro e w4 ⟨rfl, hb⟩; have HB4 := Lib.hid (HB3.out.trans (hb.mono HB3.out.size)); clear hb)
          | (go_at_call 148; (with_reducible refine (HBT.out _).mono ?_); rintro e w5 ⟨rfl, hb⟩; have HB5 := Lib.hid (HB4.out.trans (hb.mono HB4.out.size)); clear hb))
        go_roundw
        case rel => exact ⟨k + 1, Y, hlt, congrArg Value.string HE.out, HLEN.out, by go_num, HY, HB5⟩
        case measure => simp [intOf]; omega
    · obtain rfl : k = 32 := by omega
      have HT : Hid (∀ w', Calls Tryz.prog 59 #[.string X] w' fun e w'' => e = .returned (.agg ((ofT d op sh).map bv).toArray) ∧ Below w'.heap.size w' w'') := fun w' => by
        rw [HX.out, HQ.out]
        exact text_any _ (by rw [bothsT_len HSA.out 32 (by rw [HYL.out]; omega)]; decide) w'
      have HRL : Hid ((ofT d op sh).length = 32) := Lib.hid rfl
      clear HX
      generalize hr : ofT d op sh = r at *
      have HRE := Lib.hid hr
      clear hr
      have HSM := Lib.hid (dig_same r HRL.out)
      have HSZ := Lib.hid (dig_size r HRL.out)
      go_wp2_with (first
        | (go_at_call 59; (with_reducible refine (HT.out _).mono ?_); rintro e w6 ⟨rfl, hb⟩; have HB6 := Lib.hid (HB.out.trans (hb.mono HB.out.size)); clear hb)
        | (((with_reducible show wpList _ _ _ ((⟨none, Op.store _ (.tmp 4) (.tmp 53), _, _, _, _⟩ : Oper) :: _) _ _)); refine wpList_store_box rfl 29 (.tmp 4) (.tmp 53) rfl (w.heap.size + 1 + 1) (r.map bv).toArray rfl rfl 29 zs32 (HO.out.below HB6.out HO.out.lt) HSM.out HSZ.out (bv_one _) ?_; intro w7 hb7 hg7))
      exact ret_dig_tmp (b := .bool true) rfl rfl rfl rfl hb7 HSZ.out ⟨congrArg (fun z => Ending.returned (.tuple #[.agg (List.map bv z).toArray, .bool true])) HRE.out.symm, (HF.out.trans (HB6.out.mono HF.out.size)).trans (below_only hg7 (by omega) (HF.out.trans (HB6.out.mono HF.out.size)).size)⟩
end Go.Proofs.YtbclepdcngaonaaGreatDoor
