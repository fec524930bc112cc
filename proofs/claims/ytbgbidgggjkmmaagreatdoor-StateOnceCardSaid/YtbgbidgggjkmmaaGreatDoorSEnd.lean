/-
  Package sha: the end of a hash (sha.hash.end).
-/
import Derived.Test.YtbgbidgggjkmmaaGreatDoorSAdd
import Derived.Test.YtbgbidgggjkmmaaGreatDoorSB
import Derived.Lib.SliceRun
namespace Go.Proofs.YtbgbidgggjkmmaaGreatDoor
open Go.RowKit

attribute [local go_sem ↓] ldBlock_def stDigest_def

theorem last_block (blk : List UInt8) (used : Nat) (h : blk.length = 64) (hu : used < 64) : into (into blk used [128]) (used + 1) (List.replicate (63 - used) 0) = lastBlock blk used := by
  have h1 : ([128] : List UInt8).length = 1 := rfl
  have hl := into_length blk used [128] (by omega)
  have ht := into_take blk used [128] (by omega)
  rw [h1] at ht
  have e : ∀ (X : List UInt8), X.length = 64 → into X (used + 1) (List.replicate (63 - used) 0) = X.take (used + 1) ++ List.replicate (63 - used) 0 := by
    intro X hX
    unfold into
    rw [List.length_replicate, List.drop_eq_nil_of_le (by omega), List.append_nil]
  rw [e _ (by omega), ht]
  unfold lastBlock
  simp
theorem put_count (n k : Nat) : 8 * (n : Int) / 2 ^ (8 * k) % 256 = ((UInt8.ofNat (8 * n / 256 ^ k)).toNat : Int) := by
  have h := put_byte (8 * n) k ((8 * k : Nat) : Int) (by omega)
  rw [IntKind.wrap_u8', Int.toNat_natCast, Int.natCast_mul] at h
  exact h
end Go.Proofs.YtbgbidgggjkmmaaGreatDoor
