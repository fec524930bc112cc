/-
  The document's secret and public half (wapentakeref04.Secret, Public).
-/
import Derived.Test.YtdgedhaiefingaaDoorOShut
import Derived.Test.YtdgedhaiefingaaDoorONum
import Derived.Test.YtdgedhaiefingaaDoorOPlain
import Derived.Test.YtdgedhaiefingaaDoorTText
namespace Go.Proofs.YtdgedhaiefingaaDoor
open Go.RowKit

set_option maxRecDepth 100000 in
set_option maxHeartbeats 1000000 in
theorem rsecret_any (seed : List UInt8) (hs : seed.length = 32) (leaf : Int) (hl1 : -9223372036854775808 ≤ leaf) (hl2 : leaf ≤ 9223372036854775807) (i is : Nat) (hi : i < 32) (his : is < 2) (w : World) :
    Calls Tryd.prog 22 #[.agg (seed.map bv).toArray, .int .i64 leaf, .int .i64 (i : Int), .int .i64 (is : Int)] w fun e w' => e = .returned (.agg ((secT seed leaf (2 * i + is)).map bv).toArray) ∧ Below w.heap.size w w' := by
  have HS : Hid (Box ((w.alloc (.cells (seed.map bv).toArray 23)).alloc (.cells zs32 23)) w.heap.size 23 (seed.map bv).toArray) := (Box.made w _ _).alloc _
  have HO : Hid (Box ((w.alloc (.cells (seed.map bv).toArray 23)).alloc (.cells zs32 23)) (w.heap.size + 1) 23 zs32) := Box.made_at (by simp) _ _
  have HF : Hid (Below w.heap.size w ((w.alloc (.cells (seed.map bv).toArray 23)).alloc (.cells zs32 23))) := ((Below.refl _ _).alloc (Nat.le_refl _) _).alloc (by simp) _
  have hk : 2 * i + is < 64 := by omega
  have HK : Hid (numBytes (2 * (i : Int) + (is : Int)) = num8 ((2 * i + is : Nat) : Int)) := by
    show _ = _
    rw [show (2 * (i : Int) + (is : Int)) = ((2 * i + is : Nat) : Int) by omega]
    rfl
  have HL1 : Hid ((num8 leaf).length = 8) := beBytes_length _ _
  have HL2 : Hid ((num8 ((2 * i + is : Nat) : Int)).length = 8) := beBytes_length _ _
  have HDL : Hid ((secT seed leaf (2 * i + is)).length = 32) := Lib.hid rfl
  have HD : Hid (secT seed leaf (2 * i + is) = shaOf (2 :: (seed ++ (num8 leaf ++ num8 ((2 * i + is : Nat) : Int))))) := Lib.hid rfl
  have HN1 : Hid (∀ w', Calls Tryd.prog 32 #[.int .i64 leaf] w' fun e w'' => e = .returned (str (num8 leaf)) ∧ Below w'.heap.size w' w'') := fun w' => refnum_any leaf hl1 hl2 w'
  have HN2 : Hid (∀ w', Calls Tryd.prog 32 #[.int .i64 (2 * (i : Int) + (is : Int))] w' fun e w'' => e = .returned (str (num8 ((2 * i + is : Nat) : Int))) ∧ Below w'.heap.size w' w'') := fun w' => by
    have h := refnum_any (2 * (i : Int) + (is : Int)) (by omega) (by omega) w'
    rw [HK.out] at h
    exact h
  generalize secT seed leaf (2 * i + is) = d at *
  generalize num8 leaf = n1 at *
  generalize num8 ((2 * i + is : Nat) : Int) = n2 at *
  have HT : Hid (∀ w', Calls Tryd.prog 23 #[.string ⟨(2 :: (seed ++ (n1 ++ n2))).toArray⟩] w' fun e w'' => e = .returned (.agg (d.map bv).toArray) ∧ Below w'.heap.size w' w'') := fun w' => by
    rw [HD.out]
    exact text_any _ (by rw [List.length_cons, List.length_append, List.length_append, HL1.out, HL2.out, hs]; decide) w'
  obtain ⟨X1, hX1⟩ : ∃ X : ByteArray, X = ⟨(2 :: seed).toArray⟩ := ⟨_, rfl⟩
  obtain ⟨X2, hX2⟩ : ∃ X : ByteArray, X = ⟨(2 :: (seed ++ n1)).toArray⟩ := ⟨_, rfl⟩
  obtain ⟨X3, hX3⟩ : ∃ X : ByteArray, X = ⟨(2 :: (seed ++ (n1 ++ n2))).toArray⟩ := ⟨_, rfl⟩
  have hc1 : ({ data := #[2] } : ByteArray) ++ { data := seed.toArray } = X1 := (bytes_cat [2] seed).trans hX1.symm
  have hc2 : X1 ++ { data := n1.toArray } = X2 := by rw [hX1, hX2]; exact bytes_cat (2 :: seed) n1
  have hc3 : X2 ++ { data := n2.toArray } = X3 := by rw [hX2, hX3, bytes_cat]; simp
  rw [← hX3] at HT
  have HDS : Hid (∀ w', Calls Tryd.prog 20 #[.agg (seed.map bv).toArray] w' fun e w'' => e = .returned (str seed) ∧ Below w'.heap.size w' w'') := fun w' => digstr_any seed hs w'
  have HSM := Lib.hid (dig_same d HDL.out)
  have HSZ := Lib.hid (dig_size d HDL.out)
  have HLD := Lib.hid (dig_size seed hs)
  have hz0 : seed.length ≤ 32 := by omega
  have hz1 : n1.length ≤ 8 := by have := HL1.out; omega
  have hz2 : n2.length ≤ 8 := by have := HL2.out; omega
  have hx1 : X1.size ≤ 33 := by rw [hX1]; show (2 :: seed).toArray.size ≤ 33; rw [List.size_toArray, List.length_cons]; omega
  have hx2 : X2.size ≤ 41 := by rw [hX2]; show (2 :: (seed ++ n1)).toArray.size ≤ 41; rw [List.size_toArray, List.length_cons, List.length_append]; omega
  clear hX1 hX2 hX3 hk hs
  go_enter Tryd.func22, Tryd.ntmps22
  go_upto_region 1 with fail
  change Code.wp _ _ _ _ ((w.alloc (.cells (seed.map bv).toArray 23)).alloc (.cells zs32 23))
  generalize (w.alloc (.cells (seed.map bv).toArray 23)).alloc (.cells zs32 23) = w1 at *
  go_wp2_with (first
    | ((with_reducible show wpList _ _ _ ((⟨some 9, _, _, _, _, _⟩ : Oper) :: _) _ _); refine wpList_load_mid rfl 23 (.tmp 4) rfl w.heap.size 0 rfl (seed.map bv) _ HS.out.range Tryd.underlying23 rfl HLD.out ?_)
    | (go_at_call 20; refine (HDS.out _).mono ?_; rintro e w2 ⟨rfl, hb⟩; have HF2 := Lib.hid hb; clear hb)
    | (go_at_call 32; (with_reducible refine (HN1.out w2).mono ?_); rintro e w3 ⟨rfl, hb⟩; have HF3 := Lib.hid (HF2.out.trans (hb.mono HF2.out.size)); clear hb)
    | (go_at_call 32; (with_reducible refine (HN2.out w3).mono ?_); rintro e w4 ⟨rfl, hb⟩; have HF4 := Lib.hid (HF3.out.trans (hb.mono HF3.out.size)); clear hb)
    | (go_at_call 23; (with_reducible refine (HT.out w4).mono ?_); rintro e w6 ⟨rfl, hb⟩; have HB6 := Lib.hid (HF4.out.trans (hb.mono HF4.out.size)); clear hb)
    | (((with_reducible show wpList _ _ _ ((⟨none, Op.store _ (.tmp 8) (.tmp 21), _, _, _, _⟩ : Oper) :: _) _ _)); refine wpList_store_box rfl 23 (.tmp 8) (.tmp 21) rfl (w.heap.size + 1) (d.map bv).toArray rfl rfl 23 zs32 (HO.out.below HB6.out HO.out.lt) HSM.out HSZ.out (bv_one _) ?_; intro w7 hb7 hg7))
  exact ret_dig rfl rfl rfl hb7 HDL.out ⟨rfl, (HF.out.trans (HB6.out.mono HF.out.size)).trans (below_only hg7 (by omega) (HF.out.trans (HB6.out.mono HF.out.size)).size)⟩

/-- The digests of the secrets ahead of k, one behind the other. -/
def rowT (seed : List UInt8) (leaf : Int) (k : Nat) : List UInt8 := (List.range k).flatMap fun j => shaOf (secT seed leaf j)
theorem rowT_succ (seed : List UInt8) (leaf : Int) (k : Nat) : rowT seed leaf (k + 1) = rowT seed leaf k ++ shaOf (secT seed leaf k) := by
  unfold rowT
  rw [List.range_succ, List.flatMap_append]
  simp
theorem rowT_len (seed : List UInt8) (leaf : Int) : ∀ k, (rowT seed leaf k).length = 32 * k
  | 0 => rfl
  | k + 1 => by
    rw [rowT_succ, List.length_append, rowT_len seed leaf k, sha_len]
    omega

set_option maxRecDepth 100000 in
set_option maxHeartbeats 1000000 in
theorem rpublic_any (seed : List UInt8) (hs : seed.length = 32) (leaf : Int) (hl1 : -9223372036854775808 ≤ leaf) (hl2 : leaf ≤ 9223372036854775807) (w : World) :
    Calls Tryd.prog 8 #[.agg (seed.map bv).toArray, .int .i64 leaf] w fun e w' => e = .returned (.agg ((pubT seed leaf).map bv).toArray) ∧ Below w.heap.size w w' := by
  have HS : Hid (Box ((w.alloc (.cells (seed.map bv).toArray 23)).alloc (.cells zs32 23)) w.heap.size 23 (seed.map bv).toArray) := (Box.made w _ _).alloc _
  have HO : Hid (Box ((w.alloc (.cells (seed.map bv).toArray 23)).alloc (.cells zs32 23)) (w.heap.size + 1) 23 zs32) := Box.made_at (by simp) _ _
  have HF : Hid (Below w.heap.size w ((w.alloc (.cells (seed.map bv).toArray 23)).alloc (.cells zs32 23))) := ((Below.refl _ _).alloc (Nat.le_refl _) _).alloc (by simp) _
  have HDL : Hid ((pubT seed leaf).length = 32) := Lib.hid rfl
  have HD : Hid (pubT seed leaf = shaOf (rowT seed leaf 64)) := Lib.hid rfl
  generalize pubT seed leaf = d at *
  have HSM := Lib.hid (dig_same d HDL.out)
  have HSZ := Lib.hid (dig_size d HDL.out)
  have HLD := Lib.hid (dig_size seed hs)
  have HSL := Lib.hid hs
  clear hs
  go_enter Tryd.func8, Tryd.ntmps8
  go_upto_region 1 with fail
  change Code.wp _ _ _ _ ((w.alloc (.cells (seed.map bv).toArray 23)).alloc (.cells zs32 23))
  generalize (w.alloc (.cells (seed.map bv).toArray 23)).alloc (.cells zs32 23) = w1 at *
  go_upto_region 3 with fail
  go_loopw [5, 6] (fun s i wr => ∃ (k : Nat) (X : ByteArray), k ≤ 64 ∧ s = .string X ∧ X.size ≤ 2048 ∧ i = .int .i64 (k : Int) ∧ Hid (X = ⟨(rowT seed leaf k).toArray⟩) ∧ Hid (Below w1.heap.size w1 wr)) (fun _ i _ => 64 - (intOf i).toNat)
  case atStart => exact ⟨0, _, Nat.zero_le _, rfl, (by decide), rfl, by exact Lib.hid rfl, Below.refl _ _⟩
  case round =>
    obtain ⟨k, X, hk, rfl, hX, rfl, HX, HW⟩ := hrel
    by_cases hlt : k < 64
    · have HSC : Hid (∀ w', Calls Tryd.prog 22 #[.agg (seed.map bv).toArray, .int .i64 leaf, .int .i64 ((k : Int) / 2), .int .i64 ((k : Int) % 2)] w' fun e w'' => e = .returned (.agg ((secT seed leaf k).map bv).toArray) ∧ Below w'.heap.size w' w'') := fun w' => by
        have h := rsecret_any seed HSL.out leaf hl1 hl2 (k / 2) (k % 2) (by omega) (by omega) w'
        rw [show 2 * (k / 2) + k % 2 = k by omega, show ((k / 2 : Nat) : Int) = (k : Int) / 2 by omega, show ((k % 2 : Nat) : Int) = (k : Int) % 2 by omega] at h
        exact h
      have HSH : Hid (∀ w', Calls Tryd.prog 21 #[.agg ((secT seed leaf k).map bv).toArray] w' fun e w'' => e = .returned (.agg ((shaOf (secT seed leaf k)).map bv).toArray) ∧ Below w'.heap.size w' w'') := fun w' => rshut_any _ rfl w'
      have HDG : Hid (∀ w', Calls Tryd.prog 20 #[.agg ((shaOf (secT seed leaf k)).map bv).toArray] w' fun e w'' => e = .returned (str (shaOf (secT seed leaf k))) ∧ Below w'.heap.size w' w'') := fun w' => digstr_any _ rfl w'
      have HX2 : Hid (X ++ ⟨(shaOf (secT seed leaf k)).toArray⟩ = ⟨(rowT seed leaf (k + 1)).toArray⟩) := by
        show _ = _
        rw [HX.out, bytes_cat, rowT_succ]
      have HXL : Hid ((⟨(rowT seed leaf (k + 1)).toArray⟩ : ByteArray).size ≤ 2048) := by
        show (rowT seed leaf (k + 1)).toArray.size ≤ 2048
        rw [List.size_toArray, rowT_len]
        omega
      have hzl : (shaOf (secT seed leaf k)).length ≤ 32 := Nat.le_refl _
      generalize shaOf (secT seed leaf k) = ss at *
      generalize secT seed leaf k = sc at *
      obtain ⟨Y, hY⟩ : ∃ Y : ByteArray, Y = ⟨(rowT seed leaf (k + 1)).toArray⟩ := ⟨_, rfl⟩
      rw [← hY] at HX2 HXL
      have hx2 := HX2.out
      have HY := Lib.hid hY
      have hw0 := HW.out.size
      have HS2 := Lib.hid (HS.out.below HW.out HS.out.lt)
      clear HX hY HX2 hw0
      go_wp2_with (first
        | ((with_reducible show wpList _ _ _ ((⟨some 12, _, _, _, _, _⟩ : Oper) :: _) _ _); refine wpList_load_mid rfl 23 (.tmp 2) rfl w.heap.size 0 rfl (seed.map bv) _ HS2.out.range Tryd.underlying23 rfl HLD.out ?_)
        | (go_at_call 22; (with_reducible refine (HSC.out _).mono ?_); rintro e w2 ⟨rfl, hb⟩; have HW2 := Lib.hid (HW.out.trans (hb.mono HW.out.size)); clear hb)
        | (go_at_call 21; (with_reducible refine (HSH.out _).mono ?_); rintro e w3 ⟨rfl, hb⟩; have HW3 := Lib.hid (HW2.out.trans (hb.mono HW2.out.size)); clear hb)
        | (go_at_call 20; (with_reducible refine (HDG.out _).mono ?_); rintro e w4 ⟨rfl, hb⟩; have HW4 := Lib.hid (HW3.out.trans (hb.mono HW3.out.size)); clear hb))
      go_roundw
      case rel => exact ⟨k + 1, Y, hlt, rfl, HXL.out, by go_num, HY, HW4⟩
      case measure => simp [intOf]; omega
    · obtain rfl : k = 64 := by omega
      have HT : Hid (∀ w', Calls Tryd.prog 23 #[.string X] w' fun e w'' => e = .returned (.agg (d.map bv).toArray) ∧ Below w'.heap.size w' w'') := fun w' => by
        rw [HX.out, HD.out]
        exact text_any _ (by rw [rowT_len]; decide) w'
      clear HX
      go_wp2_with (first
        | (go_at_call 23; (with_reducible refine (HT.out _).mono ?_); rintro e w6 ⟨rfl, hb⟩; have HB6 := Lib.hid (HW.out.trans (hb.mono HW.out.size)); clear hb)
        | (((with_reducible show wpList _ _ _ ((⟨none, Op.store _ (.tmp 4) (.tmp 23), _, _, _, _⟩ : Oper) :: _) _ _)); refine wpList_store_box rfl 23 (.tmp 4) (.tmp 23) rfl (w.heap.size + 1) (d.map bv).toArray rfl rfl 23 zs32 (HO.out.below HB6.out HO.out.lt) HSM.out HSZ.out (bv_one _) ?_; intro w7 hb7 hg7))
      exact ret_dig rfl rfl rfl hb7 HDL.out ⟨rfl, (HF.out.trans (HB6.out.mono HF.out.size)).trans (below_only hg7 (by omega) (HF.out.trans (HB6.out.mono HF.out.size)).size)⟩
end Go.Proofs.YtdgedhaiefingaaDoor
