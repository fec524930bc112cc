/-
  ShaEnds, the walk: for every input the law returns true, and nothing that was there is turned.
-/
import Derived.Test.YtjemnaffbligoaaDoorSAlive
import Derived.Test.YtjemnaffbligoaaDoorSKit2
namespace Go.Proofs.YtjemnaffbligoaaDoor
open Go.RowKit

def cellsE (c : UInt8) (n k : Nat) : Array Value := ((List.replicate k c ++ List.replicate (n - k) 0).map bv).toArray
theorem cellsE_put (c : UInt8) {n k : Nat} (h : k < n) : (cellsE c n k).setIfInBounds k (.int .u8 (c.toNat : Int)) = cellsE c n (k + 1) := by
  unfold cellsE
  have e : n - k = (n - (k + 1)) + 1 := by omega
  apply Array.ext'
  rw [Array.toList_setIfInBounds, e, List.replicate_succ, List.replicate_succ']
  simp only [List.map_append, List.map_cons, List.append_assoc, List.cons_append, List.nil_append]
  rw [set_at _ _ _ _ _ (by rw [List.length_map, List.length_replicate])]
  rfl
theorem cellsE_at (c : UInt8) {n k i : Nat} (h : k ≤ n) (hi : i < n) : ∃ v, (cellsE c n k)[i]? = some v := by
  have hs : (cellsE c n k).size = n := by
    unfold cellsE
    rw [List.size_toArray, List.length_map, List.length_append, List.length_replicate, List.length_replicate]
    omega
  exact ⟨_, Array.getElem?_eq_getElem (by omega)⟩
theorem cellsE_zero (c : UInt8) (n : Nat) : cellsE c n 0 = (List.replicate n (Value.int .u8 0)).toArray := by
  unfold cellsE
  simp [bv]
theorem cellsE_whole (c : UInt8) (n : Nat) : cellsE c n n = ((List.replicate n c).map bv).toArray := by
  unfold cellsE
  simp

set_option maxRecDepth 100000 in
set_option maxHeartbeats 1000000 in
theorem ends_walk (n : Int) (c : UInt8) (w : World) (hR : Roots w) :
    Calls Tryd.prog 4 #[.int .i64 n, .int .u8 (c.toNat : Int)] w fun e w' => e = .returned (.bool true) ∧ Below w.heap.size w w' := by
  have HAL := Lib.hid (alive_any w hR)
  have HR := Lib.hid hR
  clear hR
  by_cases h1 : n < 0
  · go_enter Tryd.func4, Tryd.ntmps4
    go_wp2_with (go_at_call 8; refine (HAL.out).mono ?_; rintro e w1 ⟨rfl, hB1⟩; have HB1 := Lib.hid hB1; clear hB1)
    go_ret
    exact ⟨rfl, HB1.out⟩
  have h1' : decide (n < 0) = false := by simpa using h1
  by_cases h2 : 600 < n
  · go_enter Tryd.func4, Tryd.ntmps4
    go_wp2_with (go_at_call 8; refine (HAL.out).mono ?_; rintro e w1 ⟨rfl, hB1⟩; have HB1 := Lib.hid hB1; clear hB1)
    go_ret
    exact ⟨rfl, HB1.out⟩
  have h2' : decide (600 < n) = false := by simpa using h2
  obtain ⟨N, rfl⟩ : ∃ N : Nat, n = (N : Int) := ⟨n.toNat, by omega⟩
  have hN : N ≤ 600 := by omega
  clear h1 h2
  obtain ⟨i0, hi, hz0, hz1, hz2⟩ := info_parts w_byte_info
  have hmk : ∀ w, (Instr.makeSlice 24 (.int .i64 (N : Int)) (.int .i64 (N : Int))).run Tryd.prog w = .ok (.slice (some ⟨w.heap.size, 0, none⟩) N N) (w.alloc (.cells (cellsE c N 0) 5)) := by
    intro w
    have h := run_make (P := Tryd.prog) w 24 5 i0 (.int .u8 0) Tryd.underlying24 hi hz0 .i64 .i64 (N : Int) (N : Int) (by omega) (Int.le_refl _) (by rw [hz2]; omega) (by omega)
    simp only [Int.toNat_natCast, hz1, Nat.mul_one] at h
    rw [h, cellsE_zero, ← toList_madeCells_one]
    rfl
  clear hi hz0 hz1 hz2
  go_enter Tryd.func4, Tryd.ntmps4
  go_wp2_with (go_at_call 8; refine (HAL.out).mono ?_; rintro e w1 ⟨rfl, hB1⟩; have HB1 := Lib.hid hB1; clear hB1)
  clear hmk
  have HX0 : Hid (Box (w1.alloc (.cells (cellsE c N 0) 5)) w1.heap.size 5 (cellsE c N 0)) := Box.made _ _ _
  have HF0 : Hid (Below w.heap.size w (w1.alloc (.cells (cellsE c N 0) 5))) := HB1.out.alloc HB1.out.size _
  have HSZ := Lib.hid HB1.out.size
  clear HB1
  go_loopw [19] (fun i wr => ∃ k : Nat, k ≤ N ∧ i = .int .i64 k ∧ Hid (Box wr w1.heap.size 5 (cellsE c N k)) ∧ Hid (Below w.heap.size w wr)) (fun i _ => N - (intOf i).toNat)
  case atStart => exact ⟨0, Nat.zero_le _, rfl, HX0, HF0⟩
  case round =>
    clear HX0 HF0
    obtain ⟨k, hk, rfl, HX, HF⟩ := hrel
    by_cases hlt : k < N
    · obtain ⟨cv, hcv⟩ := cellsE_at c (n := N) (k := k) (i := k) hk hlt
      have cg := HX.out.cell k
      rw [hcv] at cg
      have f := HX.out.free k
      have hput := HX.out.put k (.int .u8 (c.toNat : Int))
      rw [cellsE_put c hlt] at hput
      have HX2 := Lib.hid hput
      have HF2 := Lib.hid (HF.out.setCell (p := ⟨w1.heap.size, k, none⟩) (by have := HSZ.out; simp; omega) (.int .u8 (c.toNat : Int)))
      clear hcv hput HX HF
      go_wp2
      go_roundw
      case rel => exact ⟨k + 1, by omega, by go_num, HX2, HF2⟩
      case measure => simp [intOf]; omega
    · obtain rfl : k = N := by omega
      have hx := HX.out
      rw [cellsE_whole] at hx
      have HX1 := Lib.hid hx
      clear hx HX
      have hBV : Hid (Box (wr.alloc (.cells #[.slice (some ⟨w1.heap.size, 0, none⟩) k k] 24)) wr.heap.size 24 #[.slice (some ⟨w1.heap.size, 0, none⟩) k k]) := Box.made _ _ _
      have HFV : Hid (Below wr.heap.size wr (wr.alloc (.cells #[.slice (some ⟨w1.heap.size, 0, none⟩) k k] 24))) := (Below.refl _ _).alloc (Nat.le_refl _) _
      have hlr : (List.replicate k c).length = k := List.length_replicate
      have HOF := of_any [List.replicate k c] (some ⟨wr.heap.size, 0, none⟩) 1 _ (Pieces.one (by rw [hlr]; exact hBV.out) hBV.out.lt (by rw [hlr]; exact Nat.le_refl k) (by simp [maxLen]; omega) (Sees.of_box (HX1.out.alloc _) (Nat.lt_trans HX1.out.lt hBV.out.lt))) (by simp) (by simp; omega) (HR.out.of_below (HF.out.trans (HFV.out.mono HF.out.size)))
      have hfl : ([List.replicate k c] : List (List UInt8)).flatten = List.replicate k c := by simp
      rw [hfl] at HOF
      have hrf : ∀ w5, Below (wr.alloc (.cells #[.slice (some ⟨w1.heap.size, 0, none⟩) k k] 24)).heap.size (wr.alloc (.cells #[.slice (some ⟨w1.heap.size, 0, none⟩) k k] 24)) w5 →
          Calls Tryd.prog 10 #[.slice (some ⟨w1.heap.size, 0, none⟩) k k] w5 fun e w' => e = .returned (.agg ((shaOf (List.replicate k c)).map bv).toArray) ∧ Below w5.heap.size w5 w' := by
        intro w5 hb5
        have hx5 := (HX1.out.alloc (.cells #[.slice (some ⟨w1.heap.size, 0, none⟩) k k] 24)).below hb5 (Nat.lt_trans HX1.out.lt hBV.out.lt)
        have h := ref_any (List.replicate k c) (some ⟨w1.heap.size, 0, none⟩) k w5 (Sees.of_box hx5 hx5.lt) (by rw [hlr]; omega)
        rw [hlr] at h
        exact h
      have hdl : (shaOf (List.replicate k c)).length = 32 := rfl
      have HRF := Lib.hid hrf
      have HOO := Lib.hid HOF
      clear hrf HOF hfl hlr hBV
      generalize shaOf (List.replicate k c) = d at *
      have hde : ∀ w, (Op.equalIn 10000 26 (.agg (d.map bv).toArray) (.agg (d.map bv).toArray)).run Tryd.prog w = .ok true w := fun w => by
        rw [dig_eq _ _ hdl hdl w]
        simp
      have HDE := Lib.hid hde
      clear hde hdl
      go_wp2_with fail
      refine (HOO.out).mono ?_
      rintro e w5 ⟨rfl, hb5⟩
      have HR5 := Lib.hid (HRF.out w5 hb5)
      have HF5 := Lib.hid ((HF.out.trans (HFV.out.mono HF.out.size)).trans (hb5.mono (HF.out.trans (HFV.out.mono HF.out.size)).size))
      clear hb5
      go_wp2_with fail
      refine (HR5.out).mono ?_
      rintro e w6 ⟨rfl, hb6⟩
      have HF6 := Lib.hid (HF5.out.trans (hb6.mono HF5.out.size))
      have hde := HDE.out
      clear hb6 HR5 HF5 HOO HRF HFV
      go_wp2
      go_ret
      exact ⟨rfl, HF6.out⟩
end Go.Proofs.YtjemnaffbligoaaDoor
