/-
  DERIVED. GIVEN WITH THE SEED: THE CARDS: each row of YtojgmdagamdcfaaGreatDoorRows.lean that lists a variable, with what it lists TIED to the program's text (the seventh form; the later family's looks); each row that meets fmt, with fmt's text TOLD by the authors' own Lean function (tested against real Go, not proved from fmt's source: count such statements apart). THE CARD IS WHAT COUNTS. Prove the row's statement (the work); the ties are given (YtojgmdagamdcfaaGreatDoorTie.lean); close each card by the builder's one call (the guide's Derived/Test/ToyasCard.lean, 'card_holds'). Laid BY PROGRAM, IN A SANDBOX (cutbox-door.mjs). By AI agents, Wed Nov 11 2026. No macro, syntax, notation, axiom, sorry.
-/
import Derived.Test.YtojgmdagamdcfaaGreatDoorRows
import GoSem.ClaimSeven
namespace Go.Proofs.YtojgmdagamdcfaaGreatDoor
namespace Rows

/-- THE TIED CARD OF 'wapentakelaw06.RingDoes'. -/
def ringDoesCard : Claim7 := { stood := { row := ringDoesRow, standIns := [], harness := (true, "6908783961ce6e17fb7a4344b6c390de6648d857ca29d80d0716e31c98d55b72"), looks := false }, kinds := [], alts := [], laidByText := true, laidKinds := [.data], laidTests := true, laidLooks := .later }
def RingDoesCardSaid : Prop := Claim7.holds Tryz.pinned (.plain (OpenSpec.ofChange ringDoesSpec)) ringDoesCard

/-- THE SECOND FORM's CARD OF 'wapentakelaw06.RingDoes'. -/
def ringDoesUptoCard : Claim7 := { stood := { row := ringDoesUptoRow, standIns := [], harness := (true, "6908783961ce6e17fb7a4344b6c390de6648d857ca29d80d0716e31c98d55b72"), looks := false }, kinds := [], alts := [], laidByText := true, laidKinds := [.data], laidTests := true, laidLooks := .later }
def RingDoesUptoCardSaid : Prop := Claim7.holds Tryz.pinned (.plain (OpenSpec.upto ringDoesSpec)) ringDoesUptoCard
end Rows
end Go.Proofs.YtojgmdagamdcfaaGreatDoor
