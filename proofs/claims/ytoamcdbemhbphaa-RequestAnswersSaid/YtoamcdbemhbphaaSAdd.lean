/-
  Package sha: bytes taken in (sha.hash.add).
-/
import Derived.Test.YtoamcdbemhbphaaSB
namespace Go.Proofs.Ytoamcdbemhbphaa
open Go.RowKit

def sliceLen (v : Value) : Nat := match v with | .slice _ n _ => n | _ => 0

theorem slice_from {A : Option Addr} {n c m : Nat} (hm : m ≤ n) (w : World) :
    (Instr.slice 32 (.slice A n c) (some (.int .i64 (m : Int))) none none).run Try.prog w = .ok (.slice (if c = m then A else A.map (·.add m)) (n - m) (c - m)) w := by
  have hu : Try.prog.underlying 32 = some (.slice (Try.prog.elem 32)) := by kernel_rfl
  have hs : (sizeOf (Try.prog.elem 32)).run Try.prog w = .ok 1 w := by kernel_rfl
  rw [run_slice_l w 32 A n c hu .i64 (m : Int) (by omega) (by omega), hs]
  simp [sliced]

end Go.Proofs.Ytoamcdbemhbphaa
