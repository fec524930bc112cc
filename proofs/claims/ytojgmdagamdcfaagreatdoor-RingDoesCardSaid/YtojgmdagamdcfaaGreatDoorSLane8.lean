/-
  The trees of the seeds from 0 on, reckoned in the kernel, 64 at once.
-/
import Derived.Test.YtojgmdagamdcfaaGreatDoorLA
namespace Go.Proofs.YtojgmdagamdcfaaGreatDoor
open Go.RowKit

set_option maxRecDepth 100000 in
theorem group_0 : treesG 64 0 (askG 64 0) = true := by
  decide +kernel
set_option maxRecDepth 100000 in
theorem group_64 : treesG 64 64 (askG 64 64) = true := by
  decide +kernel
end Go.Proofs.YtojgmdagamdcfaaGreatDoor
