/-
  RankParts: the walk, as the row wants it.
-/
import Derived.Test.YtfdcekekgfaibaaRkSelf
namespace Go.Proofs.Ytfdcekekgfaibaa
open Go.RowKit
set_option maxRecDepth 100000 in
theorem parts_below (x y : Nat) (h r : Int) (w : World) : Calls Try.prog 3 #[.float .f64 x, .float .f64 y, .int .i64 h, .int .i64 r] w fun e w' => e = .returned (.bool true) ∧ Below w.heap.size w w' :=
  (parts_walk x y h r w).mono fun e w' ⟨a, b⟩ => ⟨a, by rw [← b]; exact Below.refl _ _⟩
end Go.Proofs.Ytfdcekekgfaibaa
