/-
  DERIVED. GIVEN WITH THE SEED: THE CARDS: each row of YtdgedhaiefingaaDoorRows.lean that lists a variable, with what it lists TIED to the program's text (the seventh form; the later family's looks); each row that meets fmt, with fmt's text TOLD by the authors' own Lean function (tested against real Go, not proved from fmt's source: count such statements apart). THE CARD IS WHAT COUNTS. Prove the row's statement (the work); the ties are given (YtdgedhaiefingaaDoorTie.lean); close each card by the builder's one call (the guide's Derived/Test/ToyasCard.lean, 'card_holds'). Laid BY PROGRAM, IN A SANDBOX (cutbox-door.mjs). By AI agents, Wed Nov 11 2026. No macro, syntax, notation, axiom, sorry.
-/
import Derived.Test.YtdgedhaiefingaaDoorRows
import GoSem.ClaimSeven
namespace Go.Proofs.YtdgedhaiefingaaDoor
namespace Rows

/-- THE TIED CARD OF 'wapentakelaw04.OnceSigns'. -/
def onceSignsCard : Claim7 := { stood := { row := onceSignsRow, standIns := [], harness := (true, "a562e12e5f12c8f13b46ed80a24f0beaf66282207e281fab371b50cf85cd2e96"), looks := false }, kinds := [], alts := [], laidByText := true, laidKinds := [.data], laidTests := true, laidLooks := .later }
def OnceSignsCardSaid : Prop := Claim7.holds Tryd.pinned (.plain (OpenSpec.ofChange onceSignsSpec)) onceSignsCard

/-- THE TIED CARD OF 'wapentakelaw04.OnceKeeps'. -/
def onceKeepsCard : Claim7 := { stood := { row := onceKeepsRow, standIns := [], harness := (true, "a562e12e5f12c8f13b46ed80a24f0beaf66282207e281fab371b50cf85cd2e96"), looks := false }, kinds := [], alts := [], laidByText := true, laidKinds := [.data], laidTests := true, laidLooks := .later }
def OnceKeepsCardSaid : Prop := Claim7.holds Tryd.pinned (.plain (OpenSpec.ofChange onceKeepsSpec)) onceKeepsCard

/-- THE TIED CARD OF 'wapentakelaw04.OnceFits'. -/
def onceFitsCard : Claim7 := { stood := { row := onceFitsRow, standIns := [], harness := (true, "a562e12e5f12c8f13b46ed80a24f0beaf66282207e281fab371b50cf85cd2e96"), looks := false }, kinds := [], alts := [], laidByText := true, laidKinds := [.data], laidTests := true, laidLooks := .later }
def OnceFitsCardSaid : Prop := Claim7.holds Tryd.pinned (.plain (OpenSpec.ofChange onceFitsSpec)) onceFitsCard

/-- THE SECOND FORM's CARD OF 'wapentakelaw04.OnceSigns'. -/
def onceSignsUptoCard : Claim7 := { stood := { row := onceSignsUptoRow, standIns := [], harness := (true, "a562e12e5f12c8f13b46ed80a24f0beaf66282207e281fab371b50cf85cd2e96"), looks := false }, kinds := [], alts := [], laidByText := true, laidKinds := [.data], laidTests := true, laidLooks := .later }
def OnceSignsUptoCardSaid : Prop := Claim7.holds Tryd.pinned (.plain (OpenSpec.upto onceSignsSpec)) onceSignsUptoCard

/-- THE SECOND FORM's CARD OF 'wapentakelaw04.OnceKeeps'. -/
def onceKeepsUptoCard : Claim7 := { stood := { row := onceKeepsUptoRow, standIns := [], harness := (true, "a562e12e5f12c8f13b46ed80a24f0beaf66282207e281fab371b50cf85cd2e96"), looks := false }, kinds := [], alts := [], laidByText := true, laidKinds := [.data], laidTests := true, laidLooks := .later }
def OnceKeepsUptoCardSaid : Prop := Claim7.holds Tryd.pinned (.plain (OpenSpec.upto onceKeepsSpec)) onceKeepsUptoCard

/-- THE SECOND FORM's CARD OF 'wapentakelaw04.OnceFits'. -/
def onceFitsUptoCard : Claim7 := { stood := { row := onceFitsUptoRow, standIns := [], harness := (true, "a562e12e5f12c8f13b46ed80a24f0beaf66282207e281fab371b50cf85cd2e96"), looks := false }, kinds := [], alts := [], laidByText := true, laidKinds := [.data], laidTests := true, laidLooks := .later }
def OnceFitsUptoCardSaid : Prop := Claim7.holds Tryd.pinned (.plain (OpenSpec.upto onceFitsSpec)) onceFitsUptoCard
end Rows
end Go.Proofs.YtdgedhaiefingaaDoor
