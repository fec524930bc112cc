/-
  The trees of the seeds from 128 on, reckoned in the kernel, 64 at once.
-/
import Derived.Test.YtojgmdagamdcfaaGreatDoorLA
namespace Go.Proofs.YtojgmdagamdcfaaGreatDoor
open Go.RowKit

set_option maxRecDepth 100000 in
theorem group_128 : treesG 64 128 (askG 64 128) = true := by
  decide +kernel
set_option maxRecDepth 100000 in
theorem group_192 : treesG 64 192 (askG 64 192) = true := by
  decide +kernel
end Go.Proofs.YtojgmdagamdcfaaGreatDoor
