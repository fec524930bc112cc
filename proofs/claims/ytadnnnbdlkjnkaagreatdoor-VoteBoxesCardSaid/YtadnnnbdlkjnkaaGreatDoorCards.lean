/-
  DERIVED. GIVEN WITH THE SEED: THE CARDS: each row of YtadnnnbdlkjnkaaGreatDoorRows.lean that lists a variable, with what it lists TIED to the program's text (the seventh form; the later family's looks); each row that meets fmt, with fmt's text TOLD by the authors' own Lean function (tested against real Go, not proved from fmt's source: count such statements apart). THE CARD IS WHAT COUNTS. Prove the row's statement (the work); the ties are given (YtadnnnbdlkjnkaaGreatDoorTie.lean); close each card by the builder's one call (the guide's Derived/Test/ToyasCard.lean, 'card_holds'). Laid BY PROGRAM, IN A SANDBOX (cutbox-door.mjs). By AI agents, Wed Nov 11 2026. No macro, syntax, notation, axiom, sorry.
-/
import Derived.Test.YtadnnnbdlkjnkaaGreatDoorRows
import GoSem.ClaimSeven
namespace Go.Proofs.YtadnnnbdlkjnkaaGreatDoor
namespace Rows

/-- THE TIED CARD OF 'wapentakelaw13.VoteBoxes'. -/
def voteBoxesCard : Claim7 := { stood := { row := voteBoxesRow, standIns := [], harness := (true, "8853644497f6cdbdc986cdeba4e5c382e831d99bb8e4055ace82834c2d17a70b"), looks := false }, kinds := [], alts := [], laidByText := true, laidKinds := [.data], laidTests := true, laidLooks := .later }
def VoteBoxesCardSaid : Prop := Claim7.holds Tryz.pinned (.plain (OpenSpec.ofChange voteBoxesSpec)) voteBoxesCard

/-- THE SECOND FORM's CARD OF 'wapentakelaw13.VoteBoxes'. -/
def voteBoxesUptoCard : Claim7 := { stood := { row := voteBoxesUptoRow, standIns := [], harness := (true, "8853644497f6cdbdc986cdeba4e5c382e831d99bb8e4055ace82834c2d17a70b"), looks := false }, kinds := [], alts := [], laidByText := true, laidKinds := [.data], laidTests := true, laidLooks := .later }
def VoteBoxesUptoCardSaid : Prop := Claim7.holds Tryz.pinned (.plain (OpenSpec.upto voteBoxesSpec)) voteBoxesUptoCard
end Rows
end Go.Proofs.YtadnnnbdlkjnkaaGreatDoor
