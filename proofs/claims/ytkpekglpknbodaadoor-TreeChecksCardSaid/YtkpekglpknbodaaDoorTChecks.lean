/-
  TreeChecks, the walk: for every input the law returns true, and nothing that was there is turned.
-/
import Derived.Test.YtkpekglpknbodaaDoorTAlive
import Derived.Test.YtkpekglpknbodaaDoorTRCheck
namespace Go.Proofs.YtkpekglpknbodaaDoor
open Go.RowKit

attribute [local go_sem ↓] ldDigest_def stDigest_def

set_option maxRecDepth 100000 in
set_option maxHeartbeats 1000000 in
theorem checks_walk (root leaf : List UInt8) (x y : Int) (ps : List (List UInt8)) (A : Option Addr) (c : Nat) (w : World) (hr : root.length = 32) (hlf : leaf.length = 32) (hy : y ≤ 9223372036854775807) (hD : Digs w w.heap.size A ps) (hcap : ps.length ≤ c) (hR : Roots w) :
    Calls Tryd.prog 4 #[.agg (root.map bv).toArray, .agg (leaf.map bv).toArray, .int .i64 x, .int .i64 y, .slice A ps.length c] w fun e w' => e = .returned (.bool true) ∧ Below w.heap.size w w' := by
  have hF0 : Below w.heap.size w ((w.alloc (.cells (root.map bv).toArray 29)).alloc (.cells (leaf.map bv).toArray 29)) := ((Below.refl _ _).alloc (Nat.le_refl _) _).alloc (by simp) _
  have hA1 : Box ((w.alloc (.cells (root.map bv).toArray 29)).alloc (.cells (leaf.map bv).toArray 29)) w.heap.size 29 (root.map bv).toArray := (Box.made w _ _).alloc _
  have hB1 : Box ((w.alloc (.cells (root.map bv).toArray 29)).alloc (.cells (leaf.map bv).toArray 29)) (w.heap.size + 1) 29 (leaf.map bv).toArray := Box.made_at (by simp) _ _
  have HAL := Lib.hid (alive_any _ (hR.of_below hF0))
  have HD1 := Lib.hid (hD.far hF0)
  have HF := Lib.hid hF0
  have HA := Lib.hid hA1
  have HB := Lib.hid hB1
  have HR := Lib.hid hR
  clear hF0 hA1 hB1 hD hR
  go_enter Tryd.func4, Tryd.ntmps4
  go_upto_region 1 with fail
  change Code.wp _ _ _ _ ((w.alloc (.cells (root.map bv).toArray 29)).alloc (.cells (leaf.map bv).toArray 29))
  generalize (w.alloc (.cells (root.map bv).toArray 29)).alloc (.cells (leaf.map bv).toArray 29) = w1 at *
  by_cases h1 : (100 : Int) < (ps.length : Int)
  · go_wp2_with (go_at_call 9; refine (HAL.out).mono ?_; rintro e w2 ⟨rfl, hb2⟩; have HF2 := Lib.hid (HF.out.trans (hb2.mono HF.out.size)); clear hb2)
    go_ret
    exact ⟨rfl, HF2.out⟩
  have h1' : decide ((100 : Int) < (ps.length : Int)) = false := decide_eq_false h1
  go_upto_region 5 with (go_at_call 9; refine (HAL.out).mono ?_; rintro e w2 ⟨rfl, hb2⟩; have HF2 := Lib.hid (HF.out.trans (hb2.mono HF.out.size)); have l1 := (HA.out.below hb2 HA.out.lt).load_digest hr; have l2 := (HB.out.below hb2 HB.out.lt).load_digest hlf; have HA2 := Lib.hid (HA.out.below hb2 HA.out.lt); have HB2 := Lib.hid (HB.out.below hb2 HB.out.lt); have HD2 := Lib.hid (HD1.out.far hb2); clear hb2)
  by_cases hp : 0 ≤ x ∧ x < y
  · obtain ⟨n, rfl⟩ : ∃ n : Nat, x = (n : Int) := ⟨x.toNat, by omega⟩
    obtain ⟨m, rfl⟩ : ∃ m : Nat, y = (m : Int) := ⟨y.toNat, by omega⟩
    have p1 : decide ((0 : Int) ≤ (n : Int)) = true := decide_eq_true hp.1
    have p2 : decide ((n : Int) < (m : Int)) = true := decide_eq_true hp.2
    have HRC := Lib.hid (rcheck_any root leaf n m ps A c w2 hr hlf (by omega) (by omega) HD2.out hcap)
    go_wp2_with (first
      | (go_at_call 17; refine (HRC.out).mono ?_; rintro e w3 ⟨rfl, hb3⟩; have HF3 := Lib.hid (HF2.out.trans (hb3.mono HF2.out.size)); have l3 := (HA2.out.below hb3 HA2.out.lt).load_digest hr; have l4 := (HB2.out.below hb3 HB2.out.lt).load_digest hlf; have HC := Lib.hid (check_any root leaf hr hlf n m (by omega) (by omega) ps A c w3 (HD2.out.far hb3) hcap (HR.out.of_below HF3.out)); clear hb3)
      | (go_at_call 18; refine (HC.out).mono ?_; rintro e w4 ⟨rfl, hb4⟩; have HF4 := Lib.hid (HF3.out.trans (hb4.mono HF3.out.size)); clear hb4))
    clear l1 l2 l3 l4
    go_ret
    exact ⟨by first | rfl | exact ret_val (congrArg Value.bool (beq_self_eq_true _)), HF4.out⟩
  · have hx : (decide ((0 : Int) ≤ x) && decide (x < y)) = false := by
      rw [Bool.eq_false_iff]
      intro h
      rw [Bool.and_eq_true, decide_eq_true_eq, decide_eq_true_eq] at h
      exact hp h
    have HC := Lib.hid (check_not root leaf x y A ps.length c hx w2)
    by_cases h0 : 0 ≤ x
    · have p1 : decide ((0 : Int) ≤ x) = true := decide_eq_true h0
      have p2 : decide (x < y) = false := decide_eq_false (fun h => hp ⟨h0, h⟩)
      clear hx
      go_wp2_with (go_at_call 18; refine (HC.out).mono ?_; rintro e w4 ⟨rfl, hb4⟩; have HF4 := Lib.hid (HF2.out.trans (hb4.mono HF2.out.size)); clear hb4)
      go_ret
      exact ⟨rfl, HF4.out⟩
    · have p1 : decide ((0 : Int) ≤ x) = false := decide_eq_false h0
      clear hx
      go_wp2_with (go_at_call 18; refine (HC.out).mono ?_; rintro e w4 ⟨rfl, hb4⟩; have HF4 := Lib.hid (HF2.out.trans (hb4.mono HF2.out.size)); clear hb4)
      go_ret
      exact ⟨rfl, HF4.out⟩
end Go.Proofs.YtkpekglpknbodaaDoor
