/-
  DERIVED. GIVEN WITH THE SEED: THE CARDS: each row of YtlogceoeodjeoaaDoorRows.lean that lists a variable, with what it lists TIED to the program's text (the seventh form; the later family's looks); each row that meets fmt, with fmt's text TOLD by the authors' own Lean function (tested against real Go, not proved from fmt's source: count such statements apart). THE CARD IS WHAT COUNTS. Prove the row's statement (the work); the ties are given (YtlogceoeodjeoaaDoorTie.lean); close each card by the builder's one call (the guide's Derived/Test/ToyasCard.lean, 'card_holds'). Laid BY PROGRAM, IN A SANDBOX (cutbox-door.mjs). By AI agents, Wed Nov 11 2026. No macro, syntax, notation, axiom, sorry.
-/
import Derived.Test.YtlogceoeodjeoaaDoorRows
import GoSem.ClaimSeven
namespace Go.Proofs.YtlogceoeodjeoaaDoor
namespace Rows

/-- THE TIED CARD OF 'wapentakelaw11.ChunkChecks'. -/
def chunkChecksCard : Claim7 := { stood := { row := chunkChecksRow, standIns := [], harness := (true, "c2076cccaab85fd4a0c997b57aee39e9bcc058b8211b84418d9f1d6ca0357071"), looks := false }, kinds := [], alts := [], laidByText := true, laidKinds := [.data], laidTests := true, laidLooks := .later }
def ChunkChecksCardSaid : Prop := Claim7.holds Tryd.pinned (.plain (OpenSpec.ofChange chunkChecksSpec)) chunkChecksCard

/-- THE TIED CARD OF 'wapentakelaw11.ChunkParts'. -/
def chunkPartsCard : Claim7 := { stood := { row := chunkPartsRow, standIns := [], harness := (true, "c2076cccaab85fd4a0c997b57aee39e9bcc058b8211b84418d9f1d6ca0357071"), looks := false }, kinds := [], alts := [], laidByText := true, laidKinds := [.data], laidTests := true, laidLooks := .later }
def ChunkPartsCardSaid : Prop := Claim7.holds Tryd.pinned (.plain (OpenSpec.ofChange chunkPartsSpec)) chunkPartsCard

/-- THE SECOND FORM's CARD OF 'wapentakelaw11.ChunkChecks'. -/
def chunkChecksUptoCard : Claim7 := { stood := { row := chunkChecksUptoRow, standIns := [], harness := (true, "c2076cccaab85fd4a0c997b57aee39e9bcc058b8211b84418d9f1d6ca0357071"), looks := false }, kinds := [], alts := [], laidByText := true, laidKinds := [.data], laidTests := true, laidLooks := .later }
def ChunkChecksUptoCardSaid : Prop := Claim7.holds Tryd.pinned (.plain (OpenSpec.upto chunkChecksSpec)) chunkChecksUptoCard

/-- THE SECOND FORM's CARD OF 'wapentakelaw11.ChunkParts'. -/
def chunkPartsUptoCard : Claim7 := { stood := { row := chunkPartsUptoRow, standIns := [], harness := (true, "c2076cccaab85fd4a0c997b57aee39e9bcc058b8211b84418d9f1d6ca0357071"), looks := false }, kinds := [], alts := [], laidByText := true, laidKinds := [.data], laidTests := true, laidLooks := .later }
def ChunkPartsUptoCardSaid : Prop := Claim7.holds Tryd.pinned (.plain (OpenSpec.upto chunkPartsSpec)) chunkPartsUptoCard
end Rows
end Go.Proofs.YtlogceoeodjeoaaDoor
