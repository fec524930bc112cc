/-
  The document's Great; wapentakelaw10.great.
-/
import Derived.Test.YtbclepdcngaonaaGreatDoorNB
import Derived.Test.YtbclepdcngaonaaGreatDoorRB
namespace Go.Proofs.YtbclepdcngaonaaGreatDoor
open Go.RowKit

attribute [local go_sem ↓] ldReq_def stReq_def ldCf_def stCf_def

def Small0 (s : StM) : Prop := s.ps.length ≤ 300 ∧ s.rs.length ≤ 100 ∧ s.ms.length ≤ 20 ∧ (∀ r ∈ s.rs, r.x.vals.length ≤ 300) ∧ s.pl.Ok
def GreatPost (s : StM) (w : World) (e : Ending) (w' : World) : Prop := ∃ g : Bool, e = .returned (.bool g) ∧ (g = false → Small0 s) ∧ Below w.heap.size w w'
set_option maxRecDepth 100000 in
theorem GreatPost.yes {s : StM} {w w' : World} (h : Below w.heap.size w w') : GreatPost s w (.returned (.bool true)) w' := ⟨true, rfl, fun h => (by cases h), h⟩

end Go.Proofs.YtbclepdcngaonaaGreatDoor
