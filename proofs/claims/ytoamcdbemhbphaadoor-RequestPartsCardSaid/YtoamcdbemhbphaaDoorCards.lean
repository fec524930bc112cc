/-
  DERIVED. GIVEN WITH THE SEED: THE CARDS: each row of YtoamcdbemhbphaaDoorRows.lean that lists a variable, with what it lists TIED to the program's text (the seventh form; the later family's looks); each row that meets fmt, with fmt's text TOLD by the authors' own Lean function (tested against real Go, not proved from fmt's source: count such statements apart). THE CARD IS WHAT COUNTS. Prove the row's statement (the work); the ties are given (YtoamcdbemhbphaaDoorTie.lean); close each card by the builder's one call (the guide's Derived/Test/ToyasCard.lean, 'card_holds'). Laid BY PROGRAM, IN A SANDBOX (cutbox-door.mjs). By AI agents, Wed Nov 11 2026. No macro, syntax, notation, axiom, sorry.
-/
import Derived.Test.YtoamcdbemhbphaaDoorRows
import GoSem.ClaimSeven
namespace Go.Proofs.YtoamcdbemhbphaaDoor
namespace Rows

/-- THE TIED CARD OF 'wapentakelaw09.RequestParts'. -/
def requestPartsCard : Claim7 := { stood := { row := requestPartsRow, standIns := [], harness := (true, "935749826ed239e8f48b9bf7d96de5e3c23300f2d8e7f2e379bc04b0b757ea90"), looks := false }, kinds := [], alts := [], laidByText := true, laidKinds := [.data], laidTests := true, laidLooks := .later }
def RequestPartsCardSaid : Prop := Claim7.holds Tryd.pinned (.plain (OpenSpec.ofChange requestPartsSpec)) requestPartsCard

/-- THE SECOND FORM's CARD OF 'wapentakelaw09.RequestParts'. -/
def requestPartsUptoCard : Claim7 := { stood := { row := requestPartsUptoRow, standIns := [], harness := (true, "935749826ed239e8f48b9bf7d96de5e3c23300f2d8e7f2e379bc04b0b757ea90"), looks := false }, kinds := [], alts := [], laidByText := true, laidKinds := [.data], laidTests := true, laidLooks := .later }
def RequestPartsUptoCardSaid : Prop := Claim7.holds Tryd.pinned (.plain (OpenSpec.upto requestPartsSpec)) requestPartsUptoCard
end Rows
end Go.Proofs.YtoamcdbemhbphaaDoor
