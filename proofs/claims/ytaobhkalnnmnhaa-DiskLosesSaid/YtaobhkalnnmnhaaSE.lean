/-
  Package sha: bytes taken in (sha.hash.add).
  Package sha: a hash of no bytes (sha.start); the document's numbers (wapentakeref02.Numbers).
  Package sha: the end of a hash (sha.hash.end).
-/
import Derived.Test.YtaobhkalnnmnhaaSB
import Derived.Deep.RegionWith
import Derived.Lib.SliceRun
namespace Go.Proofs.Ytaobhkalnnmnhaa
open Go.RowKit

def sliceLen (v : Value) : Nat := match v with | .slice _ n _ => n | _ => 0

theorem slice_from {A : Option Addr} {n c m : Nat} (hm : m ≤ n) (w : World) :
    (Instr.slice 25 (.slice A n c) (some (.int .i64 (m : Int))) none none).run Try.prog w = .ok (.slice (if c = m then A else A.map (·.add m)) (n - m) (c - m)) w := by
  have hu : Try.prog.underlying 25 = some (.slice (Try.prog.elem 25)) := by kernel_rfl
  have hs : (sizeOf (Try.prog.elem 25)).run Try.prog w = .ok 1 w := by kernel_rfl
  rw [run_slice_l w 25 A n c hu .i64 (m : Int) (by omega) (by omega), hs]
  simp [sliced]

end Go.Proofs.Ytaobhkalnnmnhaa

namespace Go.Proofs.Ytaobhkalnnmnhaa
open Go.RowKit

def hashStart : Array Value := (hashList st0 (List.replicate 64 0) 0 0).toArray
def hashZero : Array Value := (List.replicate 8 (Value.int .u32 0) ++ (List.replicate 64 (Value.int .u8 0) ++ [Value.int .i64 0, Value.int .u64 0])).toArray
end Go.Proofs.Ytaobhkalnnmnhaa

namespace Go.Proofs.Ytaobhkalnnmnhaa
open Go.RowKit

theorem last_block (blk : List UInt8) (used : Nat) (h : blk.length = 64) (hu : used < 64) : into (into blk used [128]) (used + 1) (List.replicate (63 - used) 0) = lastBlock blk used := by
  have h1 : ([128] : List UInt8).length = 1 := rfl
  have hl := into_length blk used [128] (by omega)
  have ht := into_take blk used [128] (by omega)
  rw [h1] at ht
  have e : ∀ (X : List UInt8), X.length = 64 → into X (used + 1) (List.replicate (63 - used) 0) = X.take (used + 1) ++ List.replicate (63 - used) 0 := by
    intro X hX
    unfold into
    rw [List.length_replicate, List.drop_eq_nil_of_le (by omega), List.append_nil]
  rw [e _ (by omega), ht]
  unfold lastBlock
  simp
theorem put_count (n k : Nat) : 8 * (n : Int) / 2 ^ (8 * k) % 256 = ((UInt8.ofNat (8 * n / 256 ^ k)).toNat : Int) := by
  have h := put_byte (8 * n) k ((8 * k : Nat) : Int) (by omega)
  rw [IntKind.wrap_u8', Int.toNat_natCast, Int.natCast_mul] at h
  exact h
end Go.Proofs.Ytaobhkalnnmnhaa
