/-
  Package sha: bytes taken in (sha.hash.add).
-/
import Derived.Test.YtbgbidgggjkmmaaGreatDoorSB
namespace Go.Proofs.YtbgbidgggjkmmaaGreatDoor
open Go.RowKit

attribute [local go_sem ↓] ldBlock_def

def sliceLen (v : Value) : Nat := match v with | .slice _ n _ => n | _ => 0

theorem slice_from {A : Option Addr} {n c m : Nat} (hm : m ≤ n) (w : World) :
    (Instr.slice 127 (.slice A n c) (some (.int .i64 (m : Int))) none none).run Tryz.prog w = .ok (.slice (if c = m then A else A.map (·.add m)) (n - m) (c - m)) w := by
  have hu : Tryz.prog.underlying 127 = some (.slice (Tryz.prog.elem 127)) := by kernel_rfl
  have hs : (sizeOf (Tryz.prog.elem 127)).run Tryz.prog w = .ok 1 w := by kernel_rfl
  rw [run_slice_l w 127 A n c hu .i64 (m : Int) (by omega) (by omega), hs]
  simp [sliced]

end Go.Proofs.YtbgbidgggjkmmaaGreatDoor
