/-
  The document's answer: the digest (wapentakeref02.Of).
-/
import Derived.Test.YtaobhkalnnmnhaaSA
import Derived.Test.YtaobhkalnnmnhaaSNext
import Derived.Test.YtaobhkalnnmnhaaSB
import Derived.Test.YtaobhkalnnmnhaaSE
import Derived.Deep.RegionWith
namespace Go.Proofs.Ytaobhkalnnmnhaa
open Go.RowKit

theorem slice_part {A : Option Addr} {n c i : Nat} (hm : i + 64 ≤ n) (hc : n ≤ c) (w : World) :
    (Instr.slice 25 (.slice A n c) (some (.int .i64 (i : Int))) (some (.int .i64 ((i : Int) + 64))) none).run Try.prog w = .ok (.slice (if c = i then A else A.map (·.add i)) 64 (c - i)) w := by
  have hu : Try.prog.underlying 25 = some (.slice (Try.prog.elem 25)) := by kernel_rfl
  have hs : (sizeOf (Try.prog.elem 25)).run Try.prog w = .ok 1 w := by kernel_rfl
  rw [run_slice_lh w 25 A n c hu .i64 .i64 (i : Int) ((i : Int) + 64) (by omega) (by omega) (by omega), hs]
  have e : ((i : Int) + 64).toNat - i = 64 := by omega
  simp [sliced, e]

end Go.Proofs.Ytaobhkalnnmnhaa
