/-
  Signatures compared (wapentakeref05.Same); how long their lists are (wapentakelaw05.great).
-/
import Derived.Test.YtejnfgcnifcpaaaDoorKD
import Derived.Test.YtejnfgcnifcpaaaDoorOC
namespace Go.Proofs.YtejnfgcnifcpaaaDoor
open Go.RowKit

set_option maxRecDepth 100000 in
set_option maxHeartbeats 2000000 in
theorem ksame_any (n n' : Int) (X Y P X' Y' P' : List (List UInt8)) (A B C A' B' C' : Option Addr) (a b c a' b' c' : Nat) (w : World) (hA : Digs w w.heap.size A X) (hB : Digs w w.heap.size B Y) (hC : Digs w w.heap.size C P) (hA' : Digs w w.heap.size A' X') (hB' : Digs w w.heap.size B' Y') (hC' : Digs w w.heap.size C' P')
    (hx : X.length ≤ 1099511627776) (hy : Y.length ≤ 1099511627776) (hz : P.length ≤ 1099511627776) :
    Calls Tryd.prog 41 #[.agg (sigV n A X.length a B Y.length b C P.length c), .agg (sigV n' A' X'.length a' B' Y'.length b' C' P'.length c')] w fun e w' => e = .returned (.bool (decide (n = n') && (decide (X = X') && decide (Y = Y')) && decide (P = P'))) ∧ Below w.heap.size w w' := by
  obtain ⟨w1, hw1⟩ : ∃ w1, w1 = (w.alloc (.cells (sigV n A X.length a B Y.length b C P.length c) 43)).alloc (.cells (sigV n' A' X'.length a' B' Y'.length b' C' P'.length c') 43) := ⟨_, rfl⟩
  have HX : Hid (Box w1 w.heap.size 43 (sigV n A X.length a B Y.length b C P.length c)) := by
    rw [hw1]
    exact (Box.made w _ _).alloc _
  have HY : Hid (Box w1 (w.heap.size + 1) 43 (sigV n' A' X'.length a' B' Y'.length b' C' P'.length c')) := by
    rw [hw1]
    exact Box.made_at (by simp) _ _
  have HF : Hid (Below w.heap.size w w1) := by
    rw [hw1]
    exact ((Below.refl _ _).alloc (Nat.le_refl _) _).alloc (by simp) _
  have HS1 : Hid (∀ w', Below w1.heap.size w1 w' → Calls Tryd.prog 62 #[.agg #[.slice A X.length a, .slice B Y.length b], .agg #[.slice A' X'.length a', .slice B' Y'.length b']] w' fun e w'' => e = .returned (.bool (decide (X = X') && decide (Y = Y'))) ∧ Below w'.heap.size w' w'') := fun w' hb => rsame_any X Y X' Y' A B A' B' a b a' b' w' ((hA.far HF.out).far hb) ((hB.far HF.out).far hb) ((hA'.far HF.out).far hb) ((hB'.far HF.out).far hb) hx hy
  have HS2 : Hid (∀ w', Below w1.heap.size w1 w' → Calls Tryd.prog 63 #[.slice C P.length c, .slice C' P'.length c'] w' fun e w'' => e = .returned (.bool (decide (P = P'))) ∧ Below w'.heap.size w' w'') := fun w' hb => same_any P P' C C' c c' w' ((hC.far HF.out).far hb) ((hC'.far HF.out).far hb) hz
  have HCS : Hid (∀ w', Below w1.heap.size w1 w' → w'.cell? ⟨w.heap.size, 3, none⟩ = some (.slice C P.length c) ∧ w'.cell? ⟨w.heap.size + 1, 3, none⟩ = some (.slice C' P'.length c')) := fun w' hb => ⟨(HX.out.below hb HX.out.lt).cell 3, (HY.out.below hb HY.out.lt).cell 3⟩
  have x0 := HX.out.cell 0
  have x1 := HX.out.cell 1
  have x2 := HX.out.cell 2
  have y0 := HY.out.cell 0
  have y1 := HY.out.cell 1
  have y2 := HY.out.cell 2
  simp only [List.getElem?_toArray, List.getElem?_cons_zero, List.getElem?_cons_succ] at x0 x1 x2 y0 y1 y2
  clear hA hB hC hA' hB' hC' hx hy hz
  obtain ⟨q, hq⟩ : ∃ q, (decide (n = n') && (decide (X = X') && decide (Y = Y')) && decide (P = P')) = q := ⟨_, rfl⟩
  rw [hq]
  have HQ := Lib.hid hq
  clear hq
  generalize (decide (X = X') && decide (Y = Y')) = o at *
  generalize decide (P = P') = p at *
  go_enter Tryd.func41, Tryd.ntmps41
  go_upto_region 1 with fail
  change Code.wp _ _ _ _ ((w.alloc (.cells (sigV n A X.length a B Y.length b C P.length c) 43)).alloc (.cells (sigV n' A' X'.length a' B' Y'.length b' C' P'.length c') 43))
  rw [← hw1]
  clear hw1
  by_cases hn : n = n'
  · have hn1 : (n == n') = true := by simpa using hn
    rcases o with _ | _
    · go_wp2_with (go_at_call 62; (with_reducible refine (HS1.out _ (Below.refl _ _)).mono ?_); rintro e w2 ⟨rfl, hb⟩; have HB2 := Lib.hid hb; clear hb)
      go_ret
      exact ⟨ret_val (by rw [← HQ.out, decide_eq_true hn]; rfl), HF.out.trans (HB2.out.mono HF.out.size)⟩
    · go_wp2_with (first
        | (go_at_call 62; (with_reducible refine (HS1.out _ (Below.refl _ _)).mono ?_); rintro e w2 ⟨rfl, hb⟩; have HB2 := Lib.hid hb; have x3 := (HCS.out _ hb).1; have y3 := (HCS.out _ hb).2; clear hb)
        | (go_at_call 63; (with_reducible refine (HS2.out _ HB2.out).mono ?_); rintro e w3 ⟨rfl, hb⟩; have HB3 := Lib.hid (HB2.out.trans (hb.mono HB2.out.size)); clear hb))
      go_ret
      exact ⟨ret_val (by rw [← HQ.out, decide_eq_true hn]; simp), HF.out.trans (HB3.out.mono HF.out.size)⟩
  · have hn1 : (n == n') = false := by simpa using hn
    go_wp2
    go_ret
    exact ⟨ret_val (by rw [← HQ.out, decide_eq_false hn]; rfl), HF.out⟩
end Go.Proofs.YtejnfgcnifcpaaaDoor
