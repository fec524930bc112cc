/-
  wapentakeref03.Same: two lists of digests compared.
-/
import Derived.Test.YtdgedhaiefingaaDoorTGen
import Derived.BigQuiet
namespace Go.Proofs.YtdgedhaiefingaaDoor
open Go.RowKit

attribute [local go_sem ↓] ldDigest_def stDigest_def

theorem digs_loads {w : World} {g o : Nat} {ds : List (List UInt8)} (h : Digs w w.heap.size (some ⟨g, o, none⟩) ds) {k : Nat} (hk : k < ds.length) (n : Nat) : (ldDigest (.pointer (some ⟨g, o + k * 32, none⟩))).run Tryd.prog (w.drewN n) = .ok (.agg ((ds.getD k []).map bv).toArray) (w.drewN n) :=
  Digs.load (B := w.heap.size) (w := w.drewN n) (h.keep (fun _ _ => by simp)) hk
theorem take_eq_step {xs ys : List (List UInt8)} {k : Nat} (hl : xs.length = ys.length) (hk : k < xs.length) (h : xs.take k = ys.take k) (he : xs.getD k [] = ys.getD k []) : xs.take (k + 1) = ys.take (k + 1) := by
  have hk' : k < ys.length := by omega
  rw [List.getD_eq_getElem?_getD, List.getD_eq_getElem?_getD, List.getElem?_eq_getElem hk, List.getElem?_eq_getElem hk'] at he
  rw [List.take_succ_eq_append_getElem hk, List.take_succ_eq_append_getElem hk', h]
  have he' : xs[k] = ys[k] := he
  rw [he']

set_option maxRecDepth 100000 in
set_option maxHeartbeats 1000000 in
theorem same_any (xs ys : List (List UInt8)) (A A' : Option Addr) (c c' : Nat) (w : World) (hA : Digs w w.heap.size A xs) (hB : Digs w w.heap.size A' ys) (hn : xs.length ≤ 1099511627776) :
    Calls Tryd.prog 24 #[.slice A xs.length c, .slice A' ys.length c'] w fun e w' => e = .returned (.bool (decide (xs = ys))) ∧ Below w.heap.size w w' := by
  have HA := Lib.hid hA
  have HB := Lib.hid hB
  clear hA hB
  by_cases hl : xs.length = ys.length
  · have hl' : ((xs.length : Int) == (ys.length : Int)) = true := by
      rw [beq_iff_eq]
      omega
    have HL := Lib.hid hl
    go_enter Tryd.func24, Tryd.ntmps24
    go_wp2
    go_loopw [13] (fun i wr => ∃ k : Nat, k ≤ xs.length ∧ i = .int .i64 k ∧ Hid (xs.take k = ys.take k) ∧ Hid (Below w.heap.size w wr)) (fun i _ => xs.length - (intOf i).toNat)
    case atStart => exact ⟨0, Nat.zero_le _, rfl, by exact Lib.hid rfl, Below.refl _ _⟩
    case round =>
      obtain ⟨k, hk, rfl, HE, HW⟩ := hrel
      by_cases hlt : k < xs.length
      · have hlt' : k < ys.length := by have := HL.out; omega
        obtain ⟨g1, o1, rfl, _, _⟩ := HA.out.some_ (by omega)
        obtain ⟨g2, o2, rfl, _, _⟩ := HB.out.some_ (by omega)
        have lA := digs_loads (HA.out.far HW.out) hlt
        have lB := digs_loads (HB.out.far HW.out) hlt'
        have i1 : (k : Int) < (xs.length : Int) := by omega
        have i2 : (k : Int) < (ys.length : Int) := by omega
        have i3 : (0 : Int) ≤ (k : Int) := by omega
        have hde := fun w => dig_eq (xs.getD k []) (ys.getD k []) (HA.out.all.get hlt []) (HB.out.all.get hlt' []) w
        by_cases he : xs.getD k [] = ys.getD k []
        · have HE2 := Lib.hid (take_eq_step HL.out hlt HE.out he)
          rw [decide_eq_true he] at hde
          generalize xs.getD k [] = x at *
          generalize ys.getD k [] = y at *
          clear he
          go_upto_region 6 with fail
          go_quiet (fail)
          have HW2 := Lib.hid (below_drewN HW.out nq)
          clear lA lB hde HE HW
          go_wp2
          go_roundw
          case rel => exact ⟨k + 1, hlt, by go_num, HE2, HW2⟩
          case measure => simp [intOf]; omega
        · have hne : ¬ xs = ys := fun e => he (by rw [e])
          rw [decide_eq_false he] at hde
          generalize xs.getD k [] = x at *
          generalize ys.getD k [] = y at *
          clear he
          go_upto_region 6 with fail
          go_quiet (fail)
          clear lA lB hde
          go_wp2
          go_ret
          exact ⟨ret_val (congrArg Value.bool (decide_eq_false hne).symm), below_drewN HW.out nq⟩
      · obtain rfl : k = xs.length := by omega
        have he : xs = ys := by
          have h := HE.out
          rw [List.take_length, HL.out, List.take_length] at h
          exact h
        go_wp2
        go_ret
        exact ⟨ret_val (congrArg Value.bool (decide_eq_true he).symm), HW.out⟩
  · have hl' : ((xs.length : Int) == (ys.length : Int)) = false := by
      rw [beq_eq_false_iff_ne]
      omega
    have hne : ¬ xs = ys := fun e => hl (by rw [e])
    go_enter Tryd.func24, Tryd.ntmps24
    go_wp2
    go_ret
    exact ⟨ret_val (congrArg Value.bool (decide_eq_false hne).symm), Below.refl _ _⟩
end Go.Proofs.YtdgedhaiefingaaDoor
