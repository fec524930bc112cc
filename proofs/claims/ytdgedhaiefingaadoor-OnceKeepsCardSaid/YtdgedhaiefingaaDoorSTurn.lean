/-
  What the walks of layer 2 call: a word turned, three of them.
-/
import Derived.Test.YtdgedhaiefingaaDoorProg
import Derived.Test.YtdgedhaiefingaaDoorKit
import Derived.Test.YtdgedhaiefingaaDoorSPlain
import Derived.WalkSpells
import Derived.WalkLawsBesides
import Derived.Lib.Hide
namespace Go.Proofs.YtdgedhaiefingaaDoor
open Go.RowKit

theorem ret_u32 {a b : Int} (h : a = b) : Ending.returned (.int .u32 a) = .returned (.int .u32 b) := by rw [h]

set_option maxHeartbeats 400000 in
theorem turn_any (x : UInt32) (k : Nat) (h1 : 1 ≤ k) (h2 : k ≤ 31) (w : World) : Calls Tryd.prog 41 #[.int .u32 (wi x), .int .u64 (k : Int)] w fun e w' => e = .returned (.int .u32 (wi (rotr x k))) ∧ w = w' := by
  go_enter Tryd.func41, Tryd.ntmps41
  go_wp2
  go_ret
  exact ⟨ret_u32 (rotr_bits x k), rfl⟩

theorem neg_and : ∀ k : Fin 32, 1 ≤ k.val → bits .and .u64 (IntKind.u64.wrap (-(k.val : Int))) 31 = 32 - (k.val : Int) := by decide +kernel
theorem neg_and' (k : Nat) (h1 : 1 ≤ k) (h2 : k ≤ 31) : bits .and .u64 (IntKind.u64.wrap (-(k : Int))) 31 = 32 - (k : Int) := neg_and ⟨k, by omega⟩ h1

set_option maxHeartbeats 400000 in
theorem rotl_any (x : UInt32) (n : Int) (k : Nat) (h1 : 1 ≤ k) (h2 : k ≤ 31) (hm : bits .and .u64 (IntKind.u64.wrap n) 31 = 32 - (k : Int)) (w : World) :
    Calls Tryd.prog 43 #[.int .u32 (wi x), .int .i64 n] w fun e w' => e = .returned (.int .u32 (wi (rotr x k))) ∧ w = w' := by
  go_enter Tryd.func43, Tryd.ntmps43
  go_wp2
  go_ret
  have e2 : 32 - (32 - k) = k := by omega
  exact ⟨ret_u32 (by rw [e2]; exact rotr_bits' x k), rfl⟩

set_option maxHeartbeats 400000 in
theorem turned_any (x : UInt32) (k : Nat) (h1 : 1 ≤ k) (h2 : k ≤ 31) (w : World) : Calls Tryd.prog 40 #[.int .u32 (wi x), .int .i64 (k : Int)] w fun e w' => e = .returned (.int .u32 (wi (rotr x k))) ∧ w = w' := by
  have hC := Lib.hid (fun n hn => rotl_any x n k h1 h2 hn w)
  have hm := Lib.hid (neg_and' k h1 h2)
  go_enter Tryd.func40, Tryd.ntmps40
  go_wp2_with fail
  refine (hC.out _ hm.out).mono ?_
  rintro e w' ⟨rfl, rfl⟩
  go_wp2
  go_ret
  exact ⟨rfl, rfl⟩

set_option maxHeartbeats 400000 in
theorem three_any (x : UInt32) (i j k : Nat) (hi1 : 1 ≤ i) (hi2 : i ≤ 31) (hj1 : 1 ≤ j) (hj2 : j ≤ 31) (hk1 : 1 ≤ k) (hk2 : k ≤ 31) (w : World) :
    Calls Tryd.prog 42 #[.int .u32 (wi x), .int .u64 (i : Int), .int .u64 (j : Int), .int .u64 (k : Int)] w fun e w' => e = .returned (.int .u32 (wi (rotr x i ^^^ rotr x j ^^^ rotr x k))) ∧ w = w' := by
  have hC := Lib.hid (fun n h1 h2 => turn_any x n h1 h2 w)
  have hx := wi_xor
  go_enter Tryd.func42, Tryd.ntmps42
  go_wp2_with fail
  refine (hC.out i hi1 hi2).mono ?_
  rintro e w' ⟨rfl, rfl⟩
  go_wp2_with fail
  refine (hC.out j hj1 hj2).mono ?_
  rintro e w' ⟨rfl, rfl⟩
  go_wp2_with fail
  refine (hC.out k hk1 hk2).mono ?_
  rintro e w' ⟨rfl, rfl⟩
  go_wp2
  go_ret
  exact ⟨rfl, rfl⟩
end Go.Proofs.YtdgedhaiefingaaDoor
