/-
  DERIVED. GIVEN WITH THE SEED: THE CARDS: each row of YtejnfgcnifcpaaaDoorRows.lean that lists a variable, with what it lists TIED to the program's text (the seventh form; the later family's looks); each row that meets fmt, with fmt's text TOLD by the authors' own Lean function (tested against real Go, not proved from fmt's source: count such statements apart). THE CARD IS WHAT COUNTS. Prove the row's statement (the work); the ties are given (YtejnfgcnifcpaaaDoorTie.lean); close each card by the builder's one call (the guide's Derived/Test/ToyasCard.lean, 'card_holds'). Laid BY PROGRAM, IN A SANDBOX (cutbox-door.mjs). By AI agents, Wed Nov 11 2026. No macro, syntax, notation, axiom, sorry.
-/
import Derived.Test.YtejnfgcnifcpaaaDoorRows
import GoSem.ClaimSeven
namespace Go.Proofs.YtejnfgcnifcpaaaDoor
namespace Rows

/-- THE TIED CARD OF 'wapentakelaw14.CertMakes'. -/
def certMakesCard : Claim7 := { stood := { row := certMakesRow, standIns := [], harness := (true, "1a793632e066c51f61b6c23469a06abfda4fff8c4a0f7f26a401dfd41a93d868"), looks := false }, kinds := [], alts := [], laidByText := true, laidKinds := [.data], laidTests := true, laidLooks := .later }
def CertMakesCardSaid : Prop := Claim7.holds Tryd.pinned (.plain (OpenSpec.ofChange certMakesSpec)) certMakesCard

/-- THE TIED CARD OF 'wapentakelaw14.CertAgrees'. -/
def certAgreesCard : Claim7 := { stood := { row := certAgreesRow, standIns := [], harness := (true, "1a793632e066c51f61b6c23469a06abfda4fff8c4a0f7f26a401dfd41a93d868"), looks := false }, kinds := [], alts := [], laidByText := true, laidKinds := [.data], laidTests := true, laidLooks := .later }
def CertAgreesCardSaid : Prop := Claim7.holds Tryd.pinned (.plain (OpenSpec.ofChange certAgreesSpec)) certAgreesCard

/-- THE TIED CARD OF 'wapentakelaw14.CertFew'. -/
def certFewCard : Claim7 := { stood := { row := certFewRow, standIns := [], harness := (true, "1a793632e066c51f61b6c23469a06abfda4fff8c4a0f7f26a401dfd41a93d868"), looks := false }, kinds := [], alts := [], laidByText := true, laidKinds := [.data], laidTests := true, laidLooks := .later }
def CertFewCardSaid : Prop := Claim7.holds Tryd.pinned (.plain (OpenSpec.ofChange certFewSpec)) certFewCard

/-- THE SECOND FORM's CARD OF 'wapentakelaw14.CertMakes'. -/
def certMakesUptoCard : Claim7 := { stood := { row := certMakesUptoRow, standIns := [], harness := (true, "1a793632e066c51f61b6c23469a06abfda4fff8c4a0f7f26a401dfd41a93d868"), looks := false }, kinds := [], alts := [], laidByText := true, laidKinds := [.data], laidTests := true, laidLooks := .later }
def CertMakesUptoCardSaid : Prop := Claim7.holds Tryd.pinned (.plain (OpenSpec.upto certMakesSpec)) certMakesUptoCard

/-- THE SECOND FORM's CARD OF 'wapentakelaw14.CertAgrees'. -/
def certAgreesUptoCard : Claim7 := { stood := { row := certAgreesUptoRow, standIns := [], harness := (true, "1a793632e066c51f61b6c23469a06abfda4fff8c4a0f7f26a401dfd41a93d868"), looks := false }, kinds := [], alts := [], laidByText := true, laidKinds := [.data], laidTests := true, laidLooks := .later }
def CertAgreesUptoCardSaid : Prop := Claim7.holds Tryd.pinned (.plain (OpenSpec.upto certAgreesSpec)) certAgreesUptoCard

/-- THE SECOND FORM's CARD OF 'wapentakelaw14.CertFew'. -/
def certFewUptoCard : Claim7 := { stood := { row := certFewUptoRow, standIns := [], harness := (true, "1a793632e066c51f61b6c23469a06abfda4fff8c4a0f7f26a401dfd41a93d868"), looks := false }, kinds := [], alts := [], laidByText := true, laidKinds := [.data], laidTests := true, laidLooks := .later }
def CertFewUptoCardSaid : Prop := Claim7.holds Tryd.pinned (.plain (OpenSpec.upto certFewSpec)) certFewUptoCard
end Rows
end Go.Proofs.YtejnfgcnifcpaaaDoor
