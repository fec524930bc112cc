/-
  DERIVED. GIVEN WITH THE SEED: THE CARDS: each row of YtbgbidgggjkmmaaDoorRows.lean that lists a variable, with what it lists TIED to the program's text (the seventh form; the later family's looks); each row that meets fmt, with fmt's text TOLD by the authors' own Lean function (tested against real Go, not proved from fmt's source: count such statements apart). THE CARD IS WHAT COUNTS. Prove the row's statement (the work); the ties are given (YtbgbidgggjkmmaaDoorTie.lean); close each card by the builder's one call (the guide's Derived/Test/ToyasCard.lean, 'card_holds'). Laid BY PROGRAM, IN A SANDBOX (cutbox-door.mjs). By AI agents, Wed Nov 11 2026. No macro, syntax, notation, axiom, sorry.
-/
import Derived.Test.YtbgbidgggjkmmaaDoorRows
import GoSem.ClaimSeven
namespace Go.Proofs.YtbgbidgggjkmmaaDoor
namespace Rows

/-- THE TIED CARD OF 'wapentakelaw10.StateHolds'. -/
def stateHoldsCard : Claim7 := { stood := { row := stateHoldsRow, standIns := [], harness := (true, "7a7aeec77a2fcf95ed797737c88884082730b52269e9370f87ae89f459ddb84a"), looks := false }, kinds := [], alts := [], laidByText := true, laidKinds := [.data, .data, .data], laidTests := true, laidLooks := .later }
def StateHoldsCardSaid : Prop := Claim7.holds Tryd.pinned (.plain (OpenSpec.ofChange stateHoldsSpec)) stateHoldsCard

/-- THE TIED CARD OF 'wapentakelaw10.StateParts'. -/
def statePartsCard : Claim7 := { stood := { row := statePartsRow, standIns := [], harness := (true, "7a7aeec77a2fcf95ed797737c88884082730b52269e9370f87ae89f459ddb84a"), looks := false }, kinds := [], alts := [], laidByText := true, laidKinds := [.data, .data, .data], laidTests := true, laidLooks := .later }
def StatePartsCardSaid : Prop := Claim7.holds Tryd.pinned (.plain (OpenSpec.ofChange statePartsSpec)) statePartsCard

/-- THE TIED CARD OF 'wapentakelaw10.StateLists'. -/
def stateListsCard : Claim7 := { stood := { row := stateListsRow, standIns := [], harness := (true, "7a7aeec77a2fcf95ed797737c88884082730b52269e9370f87ae89f459ddb84a"), looks := false }, kinds := [], alts := [], laidByText := true, laidKinds := [.data, .data, .data], laidTests := true, laidLooks := .later }
def StateListsCardSaid : Prop := Claim7.holds Tryd.pinned (.plain (OpenSpec.ofChange stateListsSpec)) stateListsCard

/-- THE SECOND FORM's CARD OF 'wapentakelaw10.StateHolds'. -/
def stateHoldsUptoCard : Claim7 := { stood := { row := stateHoldsUptoRow, standIns := [], harness := (true, "7a7aeec77a2fcf95ed797737c88884082730b52269e9370f87ae89f459ddb84a"), looks := false }, kinds := [], alts := [], laidByText := true, laidKinds := [.data, .data, .data], laidTests := true, laidLooks := .later }
def StateHoldsUptoCardSaid : Prop := Claim7.holds Tryd.pinned (.plain (OpenSpec.upto stateHoldsSpec)) stateHoldsUptoCard

/-- THE SECOND FORM's CARD OF 'wapentakelaw10.StateParts'. -/
def statePartsUptoCard : Claim7 := { stood := { row := statePartsUptoRow, standIns := [], harness := (true, "7a7aeec77a2fcf95ed797737c88884082730b52269e9370f87ae89f459ddb84a"), looks := false }, kinds := [], alts := [], laidByText := true, laidKinds := [.data, .data, .data], laidTests := true, laidLooks := .later }
def StatePartsUptoCardSaid : Prop := Claim7.holds Tryd.pinned (.plain (OpenSpec.upto statePartsSpec)) statePartsUptoCard

/-- THE SECOND FORM's CARD OF 'wapentakelaw10.StateLists'. -/
def stateListsUptoCard : Claim7 := { stood := { row := stateListsUptoRow, standIns := [], harness := (true, "7a7aeec77a2fcf95ed797737c88884082730b52269e9370f87ae89f459ddb84a"), looks := false }, kinds := [], alts := [], laidByText := true, laidKinds := [.data, .data, .data], laidTests := true, laidLooks := .later }
def StateListsUptoCardSaid : Prop := Claim7.holds Tryd.pinned (.plain (OpenSpec.upto stateListsSpec)) stateListsUptoCard
end Rows
end Go.Proofs.YtbgbidgggjkmmaaDoor
