/-
  ShaCuts, the walk: for every input the law returns true, and nothing that was there is turned.
-/
import Derived.Test.YtjemnaffbligoaaDoorSAlive
import Derived.Test.YtjemnaffbligoaaDoorSKit2
namespace Go.Proofs.YtjemnaffbligoaaDoor
open Go.RowKit

/-- A slice's part: s[a:b]. -/
theorem Sees.part_of {w : World} {B : Nat} {A : Option Addr} {xs : List Value} (h : Sees w B A xs) {i cap : Nat} (hc : xs.length ≤ cap) (hi : i ≤ xs.length) (n : Nat) : Sees w B (if cap = i then A else A.map (·.add i)) ((xs.drop i).take n) := (h.cut hc hi).take n
theorem cut_three (b : List UInt8) (i j : Nat) (hij : i ≤ j) : [b.take i, (b.drop i).take (j - i), b.drop j].flatten = b := by
  simp only [List.flatten_cons, List.flatten_nil, List.append_nil]
  have e : b.drop j = (b.drop i).drop (j - i) := by rw [List.drop_drop, show i + (j - i) = j from by omega]
  rw [e, List.take_append_drop, List.take_append_drop]
theorem slice_from' {A : Option Addr} {n c m : Nat} (hm : m ≤ n) (w : World) :
    (Instr.slice 24 (.slice A n c) (some (.int .i64 (m : Int))) none none).run Tryd.prog w = .ok (.slice (if c = m then A else A.map (·.add m)) (n - m) (c - m)) w := slice_from hm w
theorem slice_upto {A : Option Addr} {n c i : Nat} (hi : i ≤ c) (w : World) :
    (Instr.slice 24 (.slice A n c) none (some (.int .i64 (i : Int))) none).run Tryd.prog w = .ok (.slice A i c) w := by
  have hu : Tryd.prog.underlying 24 = some (.slice (Tryd.prog.elem 24)) := by kernel_rfl
  have hs : (sizeOf (Tryd.prog.elem 24)).run Tryd.prog w = .ok 1 w := by kernel_rfl
  rw [run_slice_h w 24 A n c hu .i64 (i : Int) (by omega) (by omega), hs]
  rcases A with _ | a
  · simp [sliced]
  · simp [sliced, Addr.add_zero']
theorem slice_mid {A : Option Addr} {n c i j : Nat} (hij : i ≤ j) (hj : j ≤ c) (w : World) :
    (Instr.slice 24 (.slice A n c) (some (.int .i64 (i : Int))) (some (.int .i64 (j : Int))) none).run Tryd.prog w = .ok (.slice (if c = i then A else A.map (·.add i)) (j - i) (c - i)) w := by
  have hu : Tryd.prog.underlying 24 = some (.slice (Tryd.prog.elem 24)) := by kernel_rfl
  have hs : (sizeOf (Tryd.prog.elem 24)).run Tryd.prog w = .ok 1 w := by kernel_rfl
  rw [run_slice_lh w 24 A n c hu .i64 .i64 (i : Int) (j : Int) (by omega) (by omega) (by omega), hs]
  simp [sliced]

set_option maxRecDepth 100000 in
set_option maxHeartbeats 1000000 in
theorem cuts_walk (l : List UInt8) (A : Option Addr) (c : Nat) (x y : Int) (w : World) (hs : Sees w w.heap.size A (l.map bv)) (hc : l.length ≤ c) (hm : c ≤ maxLen) (hR : Roots w) :
    Calls Tryd.prog 7 #[.slice A l.length c, .int .i64 x, .int .i64 y] w fun e w' => e = .returned (.bool true) ∧ Below w.heap.size w w' := by
  have HAL := Lib.hid (alive_any w hR)
  have HR := Lib.hid hR
  have HS := Lib.hid hs
  have HM := Lib.hid hm
  unfold maxLen at hm
  clear hR hs
  by_cases h1 : (8192 : Int) < (l.length : Int)
  · go_enter Tryd.func7, Tryd.ntmps7
    go_wp2_with (go_at_call 8; refine (HAL.out).mono ?_; rintro e w1 ⟨rfl, hB1⟩; have HB1 := Lib.hid hB1; clear hB1)
    go_ret
    exact ⟨rfl, HB1.out⟩
  have h1' : decide ((8192 : Int) < (l.length : Int)) = false := by simpa using h1
  by_cases h2 : x < 0
  · go_enter Tryd.func7, Tryd.ntmps7
    go_wp2_with (go_at_call 8; refine (HAL.out).mono ?_; rintro e w1 ⟨rfl, hB1⟩; have HB1 := Lib.hid hB1; clear hB1)
    go_ret
    exact ⟨rfl, HB1.out⟩
  have h2' : decide (x < 0) = false := by simpa using h2
  by_cases h3 : y < x
  · go_enter Tryd.func7, Tryd.ntmps7
    go_wp2_with (go_at_call 8; refine (HAL.out).mono ?_; rintro e w1 ⟨rfl, hB1⟩; have HB1 := Lib.hid hB1; clear hB1)
    go_ret
    exact ⟨rfl, HB1.out⟩
  have h3' : decide (y < x) = false := by simpa using h3
  by_cases h4 : (l.length : Int) < y
  · go_enter Tryd.func7, Tryd.ntmps7
    go_wp2_with (go_at_call 8; refine (HAL.out).mono ?_; rintro e w1 ⟨rfl, hB1⟩; have HB1 := Lib.hid hB1; clear hB1)
    go_ret
    exact ⟨rfl, HB1.out⟩
  have h4' : decide ((l.length : Int) < y) = false := by simpa using h4
  obtain ⟨i, rfl⟩ : ∃ i : Nat, x = (i : Int) := ⟨x.toNat, by omega⟩
  obtain ⟨j, rfl⟩ : ∃ j : Nat, y = (j : Int) := ⟨y.toNat, by omega⟩
  have hij : i ≤ j := by omega
  have hjl : j ≤ l.length := by omega
  have hll : l.length ≤ 8192 := by omega
  clear h1 h2 h3 h4
  go_enter Tryd.func7, Tryd.ntmps7
  go_upto_region 5 with (go_at_call 8; refine (HAL.out).mono ?_; rintro e w1 ⟨rfl, hB1⟩; have HB1 := Lib.hid hB1; clear hB1)
  have hS1 : Sees w1 w1.heap.size A (l.map bv) := (HS.out.below HB1.out).more HB1.out.size
  have sl1 := slice_upto (A := A) (n := l.length) (c := c) (i := i) (by omega)
  have sl2 := slice_mid (A := A) (n := l.length) (c := c) (i := i) (j := j) hij (by omega)
  have sl3 := slice_from' (A := A) (n := l.length) (c := c) (m := j) hjl
  have hA1 := hS1.part_of (i := i) (cap := c) (by rw [List.length_map]; exact hc) (by rw [List.length_map]; omega) (j - i)
  have hA2 := hS1.cut (k := j) (cap := c) (by rw [List.length_map]; exact hc) (by rw [List.length_map]; exact hjl)
  generalize (if c = i then A else A.map (·.add i)) = A1 at *
  generalize (if c = j then A else A.map (·.add j)) = A2 at *
  have p1 : (l.take i).length = i := by rw [List.length_take]; omega
  have p2 : ((l.drop i).take (j - i)).length = j - i := by rw [List.length_take, List.length_drop]; omega
  have p3 : (l.drop j).length = l.length - j := List.length_drop ..
  have hFW : Below w1.heap.size w1 (w1.alloc (.cells #[.slice A i c, .slice A1 (j - i) (c - i), .slice A2 (l.length - j) (c - j)] 24)).drew := ((Below.refl _ _).alloc (Nat.le_refl _) _).drew
  have hBV : Box (w1.alloc (.cells #[.slice A i c, .slice A1 (j - i) (c - i), .slice A2 (l.length - j) (c - j)] 24)).drew w1.heap.size 24 #[.slice A i c, .slice A1 (j - i) (c - i), .slice A2 (l.length - j) (c - j)] := (Box.made _ _ _).drew
  have hAt : Sees w1 w1.heap.size A ((l.take i).map bv) := by rw [List.map_take]; exact hS1.take i
  rw [← List.map_drop, ← List.map_take] at hA1
  rw [← List.map_drop] at hA2
  have hp : Pieces (w1.alloc (.cells #[.slice A i c, .slice A1 (j - i) (c - i), .slice A2 (l.length - j) (c - j)] 24)).drew _ (some ⟨w1.heap.size, 0, none⟩) [l.take i, (l.drop i).take (j - i), l.drop j] :=
    Pieces.three (by rw [p1, p2, p3]; exact hBV) hBV.lt (by omega) HM.out ((hAt.below hFW).more hFW.size) (by omega) (by unfold maxLen; omega) ((hA1.below hFW).more hFW.size) (by omega) (by unfold maxLen; omega) ((hA2.below hFW).more hFW.size)
  have HOF := of_any [l.take i, (l.drop i).take (j - i), l.drop j] (some ⟨w1.heap.size, 0, none⟩) 3 _ hp (by simp) (by rw [cut_three l i j hij]; omega) (HR.out.of_below (HB1.out.trans (hFW.mono HB1.out.size)))
  rw [cut_three l i j hij] at HOF
  have HO := Lib.hid HOF
  have HRF : Hid (∀ w5, Below w1.heap.size w1 w5 → Calls Tryd.prog 10 #[.slice A l.length c] w5 fun e w' => e = .returned (.agg ((shaOf l).map bv).toArray) ∧ Below w5.heap.size w5 w') := fun w5 hb5 =>
    ref_any l A c w5 ((hS1.below hb5).more hb5.size) (by omega)
  have hdl : (shaOf l).length = 32 := rfl
  have HFW := Lib.hid hFW
  clear HOF hp hBV hFW hA1 hA2 hAt p1 p2 p3 hS1 HS HAL
  generalize shaOf l = d at *
  have hde : ∀ w, (Op.equalIn 10000 26 (.agg (d.map bv).toArray) (.agg (d.map bv).toArray)).run Tryd.prog w = .ok true w := fun w => by
    rw [dig_eq _ _ hdl hdl w]
    simp
  clear hdl
  go_region_with ((first
    | (go_at_call 9; refine (HO.out).mono ?_; rintro e w5 ⟨rfl, hb5⟩; have HF5 := Lib.hid (HFW.out.trans (hb5.mono HFW.out.size)); clear hb5; have HR5 := Lib.hid (HRF.out w5 HF5.out))
    | (go_at_call 10; refine (HR5.out).mono ?_; rintro e w6 ⟨rfl, hb6⟩; have HF6 := Lib.hid (HF5.out.trans (hb6.mono HF5.out.size)); clear hb6)))
  all_goals
    clear sl1 sl2 sl3 hde
    go_wp2
    go_ret
    exact ⟨rfl, HB1.out.trans (HF6.out.mono HB1.out.size)⟩
end Go.Proofs.YtjemnaffbligoaaDoor
