/-
  For tied cards: the table that the rows list, as a fact on memory; a world for the witness. (Any layer whose card lists sha's roots alone.)
-/
import Derived.Test.YtapdnoellleimaaDoorCards
import Derived.Test.YtapdnoellleimaaDoorTie
import Derived.Test.YtapdnoellleimaaDoorSD
import Derived.Deep.Strs
import Derived.ProofKit
import Derived.OpenShut
import Derived.SizedLaws
import Derived.Carry
import Derived.Deep.Slices
import Derived.Deep.DeepHandedRow
import Derived.Lib.LaidTab
namespace Go.Proofs.YtapdnoellleimaaDoor
open Go.ChangeShapes Go.WideShapes Go.ChangeAt Go.RowKit Go.Deep

set_option maxRecDepth 100000 in
theorem tyRoots : Tryd.prog.globalNamed "wapentake/sha.roots" = some 0 := by kernel_rfl
set_option maxRecDepth 100000 in
theorem tyRootsType : (Tryd.prog.globals[0]?).map (·.type) = some 114 := by kernel_rfl
set_option maxRecDepth 100000 in
theorem tyCells_words : Tryd.prog.cellsOf 114 = 64 := by kernel_rfl
set_option maxRecDepth 100000 in
theorem tyCells_word : Tryd.prog.cellsOf 112 = 1 := by kernel_rfl
def tyInts : List Int := roots.map wi
set_option maxRecDepth 100000 in
theorem tyInts_get : ∀ i : Fin 64, tyInts.getD i.val 0 = wi (roots.getD i.val 0) := by decide +kernel
set_option maxRecDepth 100000 in
/-- What the rows' list gives: the table's cells hold the roots. -/
theorem tyTable {W : World} (h : laidMetH Tryd.prog [("wapentake/sha.roots", Rows.laid_wapentake_sha_roots)] W) : Roots W := by
  have ht : Lib.TabIs Tryd.prog W "wapentake/sha.roots" .u32 tyInts := Lib.tabIs_of_head (rest := []) tyRoots tyRootsType Tryd.underlying114 Tryd.underlying112 tyCells_word tyCells_words h
  have hc : ∀ i, i < 64 → W.cell? ⟨0, i, none⟩ = some (.int .u32 (wi (roots.getD i 0))) := fun i hi => by
    have h := ht.cell tyRoots i (by exact hi)
    rw [tyInts_get ⟨i, hi⟩] at h
    exact h
  exact ⟨World.block_lt_of_cell? W ⟨0, 0, none⟩ (hc 0 (by decide)), hc⟩
/-- A world for the witness: the settled one, the table holding what its initialiser lays. -/
noncomputable def tyWorld (os : Os) (args : Array Value) : World :=
  { World.holding Tryd.prog os ⟨#[], args, []⟩ with heap := (World.holding Tryd.prog os ⟨#[], args, []⟩).heap.modify 0 fun
      | .cells _ t frozen => .cells (roots.map wv).toArray t frozen
      | o => o }

end Go.Proofs.YtapdnoellleimaaDoor
