/-
  DERIVED. GIVEN WITH THE SEED: THE CARDS: each row of YtkmmhkoommbkpaaDoorRows.lean that lists a variable, with what it lists TIED to the program's text (the seventh form; the later family's looks); each row that meets fmt, with fmt's text TOLD by the authors' own Lean function (tested against real Go, not proved from fmt's source: count such statements apart). THE CARD IS WHAT COUNTS. Prove the row's statement (the work); the ties are given (YtkmmhkoommbkpaaDoorTie.lean); close each card by the builder's one call (the guide's Derived/Test/ToyasCard.lean, 'card_holds'). Laid BY PROGRAM, IN A SANDBOX (cutbox-door.mjs). By AI agents, Wed Nov 11 2026. No macro, syntax, notation, axiom, sorry.
-/
import Derived.Test.YtkmmhkoommbkpaaDoorRows
import GoSem.ClaimSeven
namespace Go.Proofs.YtkmmhkoommbkpaaDoor
namespace Rows

/-- THE TIED CARD OF 'wapentakelaw05.KeysSign'. -/
def keysSignCard : Claim7 := { stood := { row := keysSignRow, standIns := [], harness := (true, "dbf0ab59222d49b216bee02b7405f391e71587b6132b7f1f2bfc4d940fa6b936"), looks := false }, kinds := [], alts := [], laidByText := true, laidKinds := [.data], laidTests := true, laidLooks := .later }
def KeysSignCardSaid : Prop := Claim7.holds Tryd.pinned (.plain (OpenSpec.ofChange keysSignSpec)) keysSignCard

/-- THE TIED CARD OF 'wapentakelaw05.KeysCheck'. -/
def keysCheckCard : Claim7 := { stood := { row := keysCheckRow, standIns := [], harness := (true, "dbf0ab59222d49b216bee02b7405f391e71587b6132b7f1f2bfc4d940fa6b936"), looks := false }, kinds := [], alts := [], laidByText := true, laidKinds := [.data], laidTests := true, laidLooks := .later }
def KeysCheckCardSaid : Prop := Claim7.holds Tryd.pinned (.plain (OpenSpec.ofChange keysCheckSpec)) keysCheckCard

/-- THE TIED CARD OF 'wapentakelaw05.KeysWrite'. -/
def keysWriteCard : Claim7 := { stood := { row := keysWriteRow, standIns := [], harness := (true, "dbf0ab59222d49b216bee02b7405f391e71587b6132b7f1f2bfc4d940fa6b936"), looks := false }, kinds := [], alts := [], laidByText := true, laidKinds := [.data], laidTests := true, laidLooks := .later }
def KeysWriteCardSaid : Prop := Claim7.holds Tryd.pinned (.plain (OpenSpec.ofChange keysWriteSpec)) keysWriteCard

/-- THE TIED CARD OF 'wapentakelaw05.KeysKeep'. -/
def keysKeepCard : Claim7 := { stood := { row := keysKeepRow, standIns := [], harness := (true, "dbf0ab59222d49b216bee02b7405f391e71587b6132b7f1f2bfc4d940fa6b936"), looks := false }, kinds := [], alts := [], laidByText := true, laidKinds := [.data], laidTests := true, laidLooks := .later }
def KeysKeepCardSaid : Prop := Claim7.holds Tryd.pinned (.plain (OpenSpec.ofChange keysKeepSpec)) keysKeepCard

/-- THE SECOND FORM's CARD OF 'wapentakelaw05.KeysSign'. -/
def keysSignUptoCard : Claim7 := { stood := { row := keysSignUptoRow, standIns := [], harness := (true, "dbf0ab59222d49b216bee02b7405f391e71587b6132b7f1f2bfc4d940fa6b936"), looks := false }, kinds := [], alts := [], laidByText := true, laidKinds := [.data], laidTests := true, laidLooks := .later }
def KeysSignUptoCardSaid : Prop := Claim7.holds Tryd.pinned (.plain (OpenSpec.upto keysSignSpec)) keysSignUptoCard

/-- THE SECOND FORM's CARD OF 'wapentakelaw05.KeysCheck'. -/
def keysCheckUptoCard : Claim7 := { stood := { row := keysCheckUptoRow, standIns := [], harness := (true, "dbf0ab59222d49b216bee02b7405f391e71587b6132b7f1f2bfc4d940fa6b936"), looks := false }, kinds := [], alts := [], laidByText := true, laidKinds := [.data], laidTests := true, laidLooks := .later }
def KeysCheckUptoCardSaid : Prop := Claim7.holds Tryd.pinned (.plain (OpenSpec.upto keysCheckSpec)) keysCheckUptoCard

/-- THE SECOND FORM's CARD OF 'wapentakelaw05.KeysWrite'. -/
def keysWriteUptoCard : Claim7 := { stood := { row := keysWriteUptoRow, standIns := [], harness := (true, "dbf0ab59222d49b216bee02b7405f391e71587b6132b7f1f2bfc4d940fa6b936"), looks := false }, kinds := [], alts := [], laidByText := true, laidKinds := [.data], laidTests := true, laidLooks := .later }
def KeysWriteUptoCardSaid : Prop := Claim7.holds Tryd.pinned (.plain (OpenSpec.upto keysWriteSpec)) keysWriteUptoCard

/-- THE SECOND FORM's CARD OF 'wapentakelaw05.KeysKeep'. -/
def keysKeepUptoCard : Claim7 := { stood := { row := keysKeepUptoRow, standIns := [], harness := (true, "dbf0ab59222d49b216bee02b7405f391e71587b6132b7f1f2bfc4d940fa6b936"), looks := false }, kinds := [], alts := [], laidByText := true, laidKinds := [.data], laidTests := true, laidLooks := .later }
def KeysKeepUptoCardSaid : Prop := Claim7.holds Tryd.pinned (.plain (OpenSpec.upto keysKeepSpec)) keysKeepUptoCard
end Rows
end Go.Proofs.YtkmmhkoommbkpaaDoor
