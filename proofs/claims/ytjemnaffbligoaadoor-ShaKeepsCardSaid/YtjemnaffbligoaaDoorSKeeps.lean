/-
  ShaKeeps, the walk.
-/
import Derived.Test.YtjemnaffbligoaaDoorSZeros
import Derived.Test.YtjemnaffbligoaaDoorSIs
namespace Go.Proofs.YtjemnaffbligoaaDoor
open Go.RowKit

attribute [local go_sem ↓] ldDigest_def

set_option maxRecDepth 100000 in
set_option maxHeartbeats 1000000 in
theorem keeps_walk (la lb : List UInt8) (A B : Option Addr) (ca cb : Nat) (w : World) (hsa : Sees w w.heap.size A (la.map bv)) (hca : la.length ≤ ca) (hma : ca ≤ maxLen)
    (hsb : Sees w w.heap.size B (lb.map bv)) (hcb : lb.length ≤ cb) (hmb : cb ≤ maxLen) (hR : Roots w) :
    Calls Tryd.prog 6 #[.slice A la.length ca, .slice B lb.length cb] w fun e w' => e = .returned (.bool true) ∧ Below w.heap.size w w' := by
  have HAL := Lib.hid (alive_any w hR)
  have HR := Lib.hid hR
  have HSA := Lib.hid hsa
  have HSB := Lib.hid hsb
  have HMA := Lib.hid hma
  have HMB := Lib.hid hmb
  clear hR hsa hsb hma hmb
  by_cases h1 : (4096 : Int) < (la.length : Int)
  · go_enter Tryd.func6, Tryd.ntmps6
    go_wp2_with (go_at_call 8; refine (HAL.out).mono ?_; rintro e w1 ⟨rfl, hB1⟩; have HB1 := Lib.hid hB1; clear hB1)
    go_ret
    exact ⟨rfl, HB1.out⟩
  have h1' : decide ((4096 : Int) < (la.length : Int)) = false := by simpa using h1
  by_cases h2 : (4096 : Int) < (lb.length : Int)
  · go_enter Tryd.func6, Tryd.ntmps6
    go_wp2_with (go_at_call 8; refine (HAL.out).mono ?_; rintro e w1 ⟨rfl, hB1⟩; have HB1 := Lib.hid hB1; clear hB1)
    go_ret
    exact ⟨rfl, HB1.out⟩
  have h2' : decide ((4096 : Int) < (lb.length : Int)) = false := by simpa using h2
  have hla : la.length ≤ 4096 := by omega
  have hlb : lb.length ≤ 4096 := by omega
  clear h1 h2
  obtain ⟨i0, hi0, hz0, hz1, hz2⟩ := info_parts w_byte_info
  go_enter Tryd.func6, Tryd.ntmps6
  go_upto_region 5 with (go_at_call 8; refine (HAL.out).mono ?_; rintro e w1 ⟨rfl, hB1⟩; have HB1 := Lib.hid hB1; clear hB1)
  have HSA1 := Lib.hid ((HSA.out.below HB1.out).more HB1.out.size)
  have HSB1 := Lib.hid ((HSB.out.below HB1.out).more HB1.out.size)
  have HMY : Hid ((w1.alloc (.cells #[] 5)).ownsRow w1.heap.size 5 1 (.slice (some ⟨w1.heap.size, 0, none⟩) 0 0) 0 []) := World.ownsRow_made w1 #[] 0 (Nat.le_refl _) (by unfold maxLen; omega) rfl
  have HB0 : Hid (Below w1.heap.size w1 (w1.alloc (.cells #[] 5))) := (Below.refl _ _).alloc (Nat.le_refl _) _
  have HSE := Lib.hid (HSA1.out.below HB0.out)
  have hlen : Hid ((la.map bv).length = la.length) := List.length_map ..
  go_upto_region 6 with (first
    | (((with_reducible show wpList _ _ _ ((⟨some 21, _, _, _, _, _⟩ : Oper) :: _) _ _)); refine wpList_append_seen rfl (.tmp 19) (.tmp 20) 24 rfl w1.heap.size 5 i0 _ Tryd.underlying24 hi0 hz0 hz1 hz2 rfl (.slice (some ⟨w1.heap.size, 0, none⟩) 0 0) 0 [] rfl HMY.out nn_some w1.heap.size A la.length ca (la.map bv) rfl HSE.out hlen.out (bv_one _) (by omega) HB0.out.size ?_; intro g cap w2 hown hgrow; rw [Nat.zero_add] at hown ⊢; rw [List.nil_append] at hown; have HO2 := Lib.hid hown; have HB2 := Lib.hid (HB0.out.trans (below_only hgrow (Nat.le_refl _) HB0.out.size)); clear hown hgrow)
    | (((with_reducible show wpList _ _ _ ((⟨some 22, _, _, _, _, _⟩ : Oper) :: _) _ _)); refine wpList_append_zeros rfl (.tmp 21) (.const (.int .i64 80)) 24 3 rfl w1.heap.size 5 i0 _ Tryd.underlying24 Tryd.underlying3 hi0 hz0 hz1 hz2 rfl rfl g cap la.length (la.map bv) rfl HO2.out 80 rfl (by omega) (by omega) HB2.out.size ?_; intro g3 cap3 w3 hown hgrow; have HO3 := Lib.hid hown; have HB3 := Lib.hid (HB2.out.trans (below_only hgrow (HO2.out.lt g rfl).1 HB2.out.size)); clear hown hgrow))
  obtain ⟨_, _, e3, hg3, hg3', hc3, hm3⟩ := own_form HO3.out nn_some
  injection e3 with e3 _ e3c
  injection e3 with e3
  injection e3 with e3
  subst e3
  subst e3c
  have hc3' : la.length ≤ cap3 := by omega
  have sl1 := slice_upto (A := some ⟨g3, 0, none⟩) (n := la.length + 80) (c := cap3) (i := la.length) hc3'
  have hFW : Below w3.heap.size w3 (w3.alloc (.cells #[.slice (some ⟨g3, 0, none⟩) la.length cap3, .slice B lb.length cb] 24)) := (Below.refl _ _).alloc (Nat.le_refl _) _
  have hBV : Box (w3.alloc (.cells #[.slice (some ⟨g3, 0, none⟩) la.length cap3, .slice B lb.length cb] 24)) w3.heap.size 24 #[.slice (some ⟨g3, 0, none⟩) la.length cap3, .slice B lb.length cb] := Box.made _ _ _
  have hs3 := (Sees.of_own HO3.out).take la.length
  rw [List.take_append_of_le_length (by rw [List.length_map]; exact Nat.le_refl _), List.take_of_length_le (by rw [List.length_map]; exact Nat.le_refl _)] at hs3
  have hsb3 := (HSB1.out.below HB3.out).more HB3.out.size
  have hp : Pieces (w3.alloc (.cells #[.slice (some ⟨g3, 0, none⟩) la.length cap3, .slice B lb.length cb] 24)) _ (some ⟨w3.heap.size, 0, none⟩) [la, lb] :=
    Pieces.two hBV hBV.lt hc3' hm3 ((hs3.below hFW).more hFW.size) hcb HMB.out ((hsb3.below hFW).more hFW.size)
  have hfl : ([la, lb] : List (List UInt8)).flatten = la ++ lb := by simp
  have HOF := of_any [la, lb] (some ⟨w3.heap.size, 0, none⟩) 2 _ hp (by simp) (by rw [hfl, List.length_append]; omega) (HR.out.of_below (HB1.out.trans ((HB3.out.trans (hFW.mono HB3.out.size)).mono HB1.out.size)))
  rw [hfl] at HOF
  have HO := Lib.hid HOF
  have HFW := Lib.hid hFW
  clear HOF hp hBV hFW hs3 hsb3
  have hdl : Hid ((shaOf (la ++ lb)).length = 32) := Lib.hid rfl
  have HAGAIN : Hid (∀ w7, Below w1.heap.size w1 w7 → Calls Tryd.prog 9 #[.slice (some ⟨w7.heap.size, 0, none⟩) 2 2] (w7.alloc (.cells #[.slice A la.length ca, .slice B lb.length cb] 24)).drew fun e w' => e = .returned (.agg ((shaOf (la ++ lb)).map bv).toArray) ∧ Below w7.heap.size w7 w') := fun w7 hb7 => by
    have hFW : Below w7.heap.size w7 (w7.alloc (.cells #[.slice A la.length ca, .slice B lb.length cb] 24)).drew := ((Below.refl _ _).alloc (Nat.le_refl _) _).drew
    have hBV : Box (w7.alloc (.cells #[.slice A la.length ca, .slice B lb.length cb] 24)).drew w7.heap.size 24 #[.slice A la.length ca, .slice B lb.length cb] := (Box.made _ _ _).drew
    have hp : Pieces (w7.alloc (.cells #[.slice A la.length ca, .slice B lb.length cb] 24)).drew _ (some ⟨w7.heap.size, 0, none⟩) [la, lb] :=
      Pieces.two hBV hBV.lt hca HMA.out ((((HSA1.out.below hb7).more hb7.size).below hFW).more hFW.size) hcb HMB.out ((((HSB1.out.below hb7).more hb7.size).below hFW).more hFW.size)
    have h := of_any [la, lb] (some ⟨w7.heap.size, 0, none⟩) 2 _ hp (by simp) (by rw [hfl, List.length_append]; omega) (HR.out.of_below (HB1.out.trans ((hb7.trans (hFW.mono hb7.size)).mono HB1.out.size)))
    rw [hfl] at h
    refine h.mono ?_
    rintro e w' ⟨he, hb⟩
    exact ⟨he, hFW.trans (hb.mono hFW.size)⟩
  generalize shaOf (la ++ lb) = d at *
  have hsz : Hid ((Tryd.prog.info? 26).map (·.size) = some (d.map bv).toArray.size) := by
    show _ = _
    rw [List.size_toArray, List.length_map, hdl.out]
    kernel_rfl
  have hds : Hid ((d.map bv).toArray.size = (List.replicate 32 (Value.int .u8 0)).toArray.size) := by
    show _ = _
    rw [List.size_toArray, List.length_map, hdl.out]
    rfl
  have hone : Hid (∀ v ∈ (d.map bv).toArray.toList, v.oneCell' = true) := bv_one _
  clear HMY HB0 HSE hlen HO2 HB2 HAL HSA HSB HMA HMB hfl hm3
  go_wp2_with (first
    | (go_at_call 9; refine (HO.out).mono ?_; rintro e w5 ⟨rfl, hb5⟩; have HF5 := Lib.hid (HFW.out.trans (hb5.mono HFW.out.size)); clear hb5)
    | (((with_reducible show wpList _ _ _ ((⟨none, Op.store _ (.tmp 6) (.tmp 29), _, _, _, _⟩ : Oper) :: _) _ _)); refine wpList_store_box (op := ⟨none, _, _, _, _, _⟩) rfl 26 (.tmp 6) (.tmp 29) rfl w5.heap.size (d.map bv).toArray rfl rfl 26 (List.replicate 32 (Value.int .u8 0)).toArray (Box.made w5 _ _) hds.out hsz.out hone.out ?_; intro w6 hb6 hg6; have HD6 := Lib.hid hb6; have HF6 : Hid (Below w3.heap.size w3 w6) := HF5.out.trans (((Below.refl _ _).alloc (Nat.le_refl _) _).trans (below_only hg6 (Nat.le_refl _) (by simp)) |>.mono HF5.out.size); clear hb6 hg6))
  have HDL := Lib.hid hdl.out
  clear HO HFW HF5 hsz hds hone sl1 hdl HR
  go_loopw [32] (fun i wr => ∃ k : Nat, k ≤ la.length + 80 ∧ i = .int .i64 k ∧ Hid (Box wr w5.heap.size 26 (d.map bv).toArray) ∧ Hid (Below w3.heap.size w3 wr)) (fun i _ => la.length + 80 - (intOf i).toNat)
  case atStart => exact ⟨0, Nat.zero_le _, rfl, HD6, HF6⟩
  case round =>
    clear HD6 HF6
    obtain ⟨k, hk, rfl, HD, HF⟩ := hrel
    by_cases hkl : k < la.length
    · have c3 : wr.cell? ⟨g3, k, none⟩ = some (bv la[k]) := by
        have h := HO3.out.cells (g := g3) rfl k (bv la[k]) (by rw [List.getElem?_append_left (by simpa using hkl)]; simp [hkl])
        rw [plain_add, Nat.zero_add] at h
        rw [HF.out.cell hg3']
        exact h
      obtain ⟨ga, oa, rfl, hga, ca'⟩ := ((HSA1.out.below HB3.out).more HB3.out.size).at_ (k := k) (by rw [List.length_map]; exact hkl)
      have c0 : wr.cell? ⟨ga, oa + k, none⟩ = some (bv la[k]) := by
        rw [HF.out.cell hga, ca', List.getElem_map]
      generalize la[k] = x at *
      unfold bv at c3 c0
      have b1 : (k : Int) < (la.length : Int) := by omega
      have b2 : decide ((k : Int) < (la.length : Int)) = true := by simpa using hkl
      have b3 : decide ((la.length : Int) ≤ (k : Int)) = false := by simpa using hkl
      have b4 : (k : Int) < (la.length : Int) + 80 := by omega
      clear ca' HO3
      go_wp2
      go_roundw
      case rel => exact ⟨k + 1, by omega, by go_num, HD, HF⟩
      case measure => simp [intOf]; omega
    · by_cases hlt : k < la.length + 80
      · have c3 : wr.cell? ⟨g3, k, none⟩ = some (.int .u8 0) := by
          have h := HO3.out.cells (g := g3) rfl k (.int .u8 0) (by rw [List.getElem?_append_right (by simpa using hkl), List.getElem?_replicate, if_pos (by rw [List.length_map]; omega)])
          rw [plain_add, Nat.zero_add] at h
          rw [HF.out.cell hg3']
          exact h
        have b2 : decide ((k : Int) < (la.length : Int)) = false := by simpa using hkl
        have b3 : decide ((la.length : Int) ≤ (k : Int)) = true := by simpa using hkl
        have b4 : (k : Int) < (la.length : Int) + 80 := by omega
        clear HO3
        go_wp2
        go_roundw
        case rel => exact ⟨k + 1, by omega, by go_num, HD, HF⟩
        case measure => simp [intOf]; omega
      · obtain rfl : k = la.length + 80 := by omega
        clear hkl hlt HO3
        go_upto_region 13 with fail
        have hde : ∀ w, (Op.equalIn 10000 26 (.agg (d.map bv).toArray) (.agg (d.map bv).toArray)).run Tryd.prog w = .ok true w := fun w => by
          rw [dig_eq _ _ HDL.out HDL.out w]
          simp
        have l1 := HD.out.drew.load_digest HDL.out
        have l2 := (HD.out.alloc (.cells #[.slice A la.length ca, .slice B lb.length cb] 24)).drew.load_digest HDL.out
        have HF3 := Lib.hid (HB3.out.trans (HF.out.mono HB3.out.size))
        have HC := Lib.hid (HAGAIN.out wr HF3.out)
        clear HF HAGAIN hg3 hg3' hc3 hc3' hca hcb hla hlb h1' h2' hk hi0 hz0 hz1 hz2 HSA1 HSB1
        go_region_with ((go_at_call 9; refine (HC.out).mono ?_; rintro e w8 ⟨rfl, hb8⟩; have l3 := (HD.out.below hb8 HD.out.lt).load_digest HDL.out; have HF8 := Lib.hid (HF3.out.trans (hb8.mono HF3.out.size)); clear hb8))
        all_goals
          clear hde l1 l2
          go_wp2
          go_ret
          exact ⟨rfl, HB1.out.trans (HF8.out.mono HB1.out.size)⟩
end Go.Proofs.YtjemnaffbligoaaDoor
