/-
  wapentakeref17.Frame, Frames.
-/
import Derived.Test.YtapdnoellleimaaDoorQB
import Derived.Test.YtapdnoellleimaaDoorRB
namespace Go.Proofs.YtapdnoellleimaaDoor
open Go.RowKit Go.Maps

noncomputable def adS17 (a b : Value) : Sem Value := binOp .add 9 a b
set_option maxRecDepth 100000 in
theorem adS17_def (a b : Value) : binOp .add 9 a b = adS17 a b := rfl

section
attribute [local go_sem ↓] stDigest_def adS17_def
set_option maxRecDepth 100000 in
set_option maxHeartbeats 2000000 in
theorem rframe_any (l : List UInt8) (hl : l.length ≤ 1000000) (w : World) :
    Calls Tryd.prog 31 #[str l] w fun e w' => e = .returned (str (frameB l)) ∧ Below w.heap.size w w' := by
  have hss : (⟨l.toArray⟩ : ByteArray).size = l.length := by simp [ByteArray.size]
  have HT1 := reftext_any9 ⟨l.toArray⟩ (by rw [hss]; omega) w
  rw [txB_text] at HT1
  have HT1 := Lib.hid HT1
  have HTL := Lib.hid (txB_len l)
  have HLL := Lib.hid hl
  have HT2 : Hid (∀ w, Calls Tryd.prog 50 #[str (txB l)] w fun e w' => e = .returned (.agg ((shaOf (txB l)).map bv).toArray) ∧ Below w.heap.size w w') := Lib.hid (fun w => text_any (txB l) (by have := HTL.out; omega) w)
  have HFR : Hid (frameB l = (shaOf (txB l)).take 8 ++ txB l) := Lib.hid rfl
  have HFL : Hid ((frameB l).length ≤ 4194304) := Lib.hid (by rw [frameB_len]; omega)
  have HDL : Hid ((shaOf (txB l)).length = 32) := Lib.hid rfl
  generalize shaOf (txB l) = d at *
  generalize txB l = T at *
  generalize frameB l = F at *
  have hadd : ∀ w, (adS17 (str (d.take 8)) (str T)).run Tryd.prog w = .ok (str F) w := fun w => by
    have h := str_add16 (d.take 8) T (by rw [← HFR.out]; exact HFL.out) w
    rw [← HFR.out] at h
    exact h
  clear hss hl
  go_enter Tryd.func31, Tryd.ntmps31
  go_upto_region 2 with (go_at_call 49; (with_reducible refine (HT1.out).mono ?_); rintro e w1 ⟨rfl, hb1⟩)
  go_upto_region 3 with (go_at_call 50; (with_reducible refine (HT2.out _).mono ?_); rintro e w6 ⟨rfl, hb6⟩; have hO7 : Box (w6.alloc (.cells zcells' 89)) w6.heap.size 89 zcells' := Box.made _ _ _; have hst := hO7.store_digest rfl d HDL.out; have HB9 := Lib.hid (hO7.cells_dig rfl HDL.out))
  have hb7 : Below w.heap.size w w6 := hb1.trans (hb6.mono hb1.size)
  have HB8 : Hid (Below w.heap.size w ((w6.alloc (.cells zcells' 89)).setCells w6.heap.size 0 (d.map bv))) := Lib.hid (below_cells (hb7.alloc hb7.size _) hb7.size (Nat.le_trans hb7.size (by simp)) 0 _)
  have hs8 : Sees ((w6.alloc (.cells zcells' 89)).setCells w6.heap.size 0 (d.map bv)) ((w6.alloc (.cells zcells' 89)).setCells w6.heap.size 0 (d.map bv)).heap.size (some ⟨w6.heap.size, 0, none⟩) ((d.take 8).map bv) := by
    have h := Sees.of_box HB9.out HB9.out.lt
    have h2 := Sees.take h 8
    rw [← List.map_take] at h2
    simpa using h2
  have hcv := bytes_conv17 hs8 32
  have hl8 : (d.take 8).length = 8 := by rw [List.length_take]; have := HDL.out; omega
  rw [hl8] at hcv
  clear hs8 hb1 hb6 hb7 hst hO7 HB9 hl8
  generalize (w6.alloc (.cells zcells' 89)).setCells w6.heap.size 0 (d.map bv) = w8 at *
  go_wp2
  go_ret
  exact ⟨rfl, HB8.out⟩
set_option maxRecDepth 100000 in
set_option maxHeartbeats 2000000 in
theorem rframes_any (xs : List (List UInt8)) (ss : List ByteArray) (he : ss = strL xs) (A : Option Addr) (c : Nat) (hl : (framesB xs).length ≤ 1000000) (w : World) (hS : SK.See w w.heap.size A ss) :
    Calls Tryd.prog 17 #[.slice A ss.length c] w fun e w' => e = .returned (str (framesB xs)) ∧ Below w.heap.size w w' := by
  have HS := Lib.hid hS
  have HE := Lib.hid he
  have HL := Lib.hid hl
  have hln : ss.length = xs.length := by rw [he]; unfold strL; rw [List.length_map]
  have hcn := framesB_count xs
  have hn : (ss.length : Int) ≤ 1000000 := by omega
  have HLN := Lib.hid hln
  clear hS he hl hcn hln
  go_enter Tryd.func17, Tryd.ntmps17
  go_wp2
  go_loopw [3, 8] (fun x i wr => ∃ k : Nat, k ≤ ss.length ∧ i = .int .i64 (k : Int) ∧ x = str (framesB (xs.take k)) ∧ Hid (Below w.heap.size w wr)) (fun _ i _ => ss.length - (intOf i).toNat)
  case atStart => exact ⟨0, Nat.zero_le _, rfl, rfl, Below.refl _ _⟩
  case round =>
    obtain ⟨k, hk, rfl, rfl, HB⟩ := hrel
    by_cases hlt : k < ss.length
    · obtain ⟨g, o, rfl, hc⟩ := SK_at17 (EK.See.far HS.out HB.out) hlt
      have hkx : k < xs.length := by rw [← HLN.out]; exact hlt
      have hse : ss[k] = ⟨xs[k].toArray⟩ := by
        have h1 : ss[k]? = some ⟨xs[k].toArray⟩ := by
          rw [HE.out]
          unfold strL
          rw [List.getElem?_map, List.getElem?_eq_getElem hkx]
          rfl
        rw [List.getElem?_eq_getElem hlt] at h1
        injection h1
      rw [hse] at hc
      have hsu : framesB (xs.take (k + 1)) = framesB (xs.take k) ++ frameB xs[k] := by
        rw [List.take_succ_eq_append_getElem hkx, framesB_app]
        congr 1
        simp [framesB]
      have hle : (framesB (xs.take (k + 1))).length ≤ 1000000 := by
        have h2 : framesB xs = framesB (xs.take (k + 1)) ++ framesB (xs.drop (k + 1)) := by rw [← framesB_app, List.take_append_drop]
        have h3 := HL.out
        rw [h2, List.length_append] at h3
        omega
      have hfl : (frameB xs[k]).length ≤ 1000000 := by rw [hsu, List.length_append] at hle; omega
      have HF := Lib.hid (rframe_any xs[k] (by rw [frameB_len] at hfl; omega) wr)
      have hadd : ∀ w, (adS17 (str (framesB (xs.take k))) (str (frameB xs[k]))).run Tryd.prog w = .ok (str (framesB (xs.take (k + 1)))) w := fun w => by
        have h := str_add16 (framesB (xs.take k)) (frameB xs[k]) (by rw [← hsu]; omega) w
        rw [← hsu] at h
        exact h
      obtain ⟨G1, hG1⟩ : ∃ G, G = framesB (xs.take (k + 1)) := ⟨_, rfl⟩
      rw [← hG1] at hadd
      have HG1 := Lib.hid hG1
      generalize frameB xs[k] = FX1 at *
      generalize xs[k] = xk at *
      clear hse hsu hle hfl hG1
      go_wp2_with (go_at_call 31; (with_reducible refine (HF.out).mono ?_); rintro e w2 ⟨rfl, hb2⟩; have HB2 := Lib.hid (HB.out.trans (hb2.mono HB.out.size)); clear hb2)
      go_roundw
      case rel => exact ⟨k + 1, by omega, by go_num, by rw [HG1.out], HB2⟩
      case measure => simp [intOf]; omega
    · have hkl : k = ss.length := by omega
      subst hkl
      rw [HLN.out, List.take_length]
      clear hlt hk
      go_wp2
      go_ret
      exact ⟨rfl, HB.out⟩
end
end Go.Proofs.YtapdnoellleimaaDoor
