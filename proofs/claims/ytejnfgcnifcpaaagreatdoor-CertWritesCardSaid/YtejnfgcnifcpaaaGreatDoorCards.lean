/-
  DERIVED. GIVEN WITH THE SEED: THE CARDS: each row of YtejnfgcnifcpaaaGreatDoorRows.lean that lists a variable, with what it lists TIED to the program's text (the seventh form; the later family's looks); each row that meets fmt, with fmt's text TOLD by the authors' own Lean function (tested against real Go, not proved from fmt's source: count such statements apart). THE CARD IS WHAT COUNTS. Prove the row's statement (the work); the ties are given (YtejnfgcnifcpaaaGreatDoorTie.lean); close each card by the builder's one call (the guide's Derived/Test/ToyasCard.lean, 'card_holds'). Laid BY PROGRAM, IN A SANDBOX (cutbox-door.mjs). By AI agents, Wed Nov 11 2026. No macro, syntax, notation, axiom, sorry.
-/
import Derived.Test.YtejnfgcnifcpaaaGreatDoorRows
import GoSem.ClaimSeven
namespace Go.Proofs.YtejnfgcnifcpaaaGreatDoor
namespace Rows

/-- THE TIED CARD OF 'wapentakelaw14.CertChecks'. -/
def certChecksCard : Claim7 := { stood := { row := certChecksRow, standIns := [], harness := (true, "d4141817ed376a7f6b16af1a084bf88a32aa045e514a06050d5b2617a7dd14a8"), looks := false }, kinds := [], alts := [], laidByText := true, laidKinds := [.data], laidTests := true, laidLooks := .later }
def CertChecksCardSaid : Prop := Claim7.holds Tryz.pinned (.plain (OpenSpec.ofChange certChecksSpec)) certChecksCard

/-- THE TIED CARD OF 'wapentakelaw14.CertWrites'. -/
def certWritesCard : Claim7 := { stood := { row := certWritesRow, standIns := [], harness := (true, "d4141817ed376a7f6b16af1a084bf88a32aa045e514a06050d5b2617a7dd14a8"), looks := false }, kinds := [], alts := [], laidByText := true, laidKinds := [.data], laidTests := true, laidLooks := .later }
def CertWritesCardSaid : Prop := Claim7.holds Tryz.pinned (.plain (OpenSpec.ofChange certWritesSpec)) certWritesCard

/-- THE SECOND FORM's CARD OF 'wapentakelaw14.CertChecks'. -/
def certChecksUptoCard : Claim7 := { stood := { row := certChecksUptoRow, standIns := [], harness := (true, "d4141817ed376a7f6b16af1a084bf88a32aa045e514a06050d5b2617a7dd14a8"), looks := false }, kinds := [], alts := [], laidByText := true, laidKinds := [.data], laidTests := true, laidLooks := .later }
def CertChecksUptoCardSaid : Prop := Claim7.holds Tryz.pinned (.plain (OpenSpec.upto certChecksSpec)) certChecksUptoCard

/-- THE SECOND FORM's CARD OF 'wapentakelaw14.CertWrites'. -/
def certWritesUptoCard : Claim7 := { stood := { row := certWritesUptoRow, standIns := [], harness := (true, "d4141817ed376a7f6b16af1a084bf88a32aa045e514a06050d5b2617a7dd14a8"), looks := false }, kinds := [], alts := [], laidByText := true, laidKinds := [.data], laidTests := true, laidLooks := .later }
def CertWritesUptoCardSaid : Prop := Claim7.holds Tryz.pinned (.plain (OpenSpec.upto certWritesSpec)) certWritesUptoCard
end Rows
end Go.Proofs.YtejnfgcnifcpaaaGreatDoor
