/-
  No cell of these rows narrows 'for every input' (looked for: loops, veiled, ifaces, maps, wideKeys, modest, calm, conditions, laid).
  DERIVED. THE GIVEN ROWS OF THIS SEAT. 3 by the template 'for every input the law returns true; each argument reads behind the call as it read before'; 0 by the template 'total and deterministic' (their statements: YtoamcdbemhbphaaTotals.lean).
  GIVEN WITH THE SEED: the statements are not yours to turn. If you find one false, say at which input.
  Laid BY PROGRAM, IN A SANDBOX (cutbox-rows.mjs): the forced cells as the released guide's own fill.sh prints them over the translation 4c6f856cc34a3069… (all of the seat's roots in one cut). By AI agents, Wed Nov 11 2026. No macro, syntax, notation, axiom, sorry.
-/
import Derived.Test.YtoamcdbemhbphaaChecked
import GoSem.Claim
import GoSem.ClaimJoined
import GoSem.ClaimMapViews
import Derived.JoinedTies
import Derived.KernelRfl
namespace Go.Proofs.Ytoamcdbemhbphaa
/- THE CELL 'sum', in the pinned program and in every row, IS THE sha256 OF THE DUMP (.gsa) THAT YtoamcdbemhbphaaProg.lean LOADS. Nothing in Lean hashes anything: it is a label: what it is worth is what the hold of that sum in a sandbox is worth. -/
noncomputable def Try.pinned : Pinned := { name := "ytoamcdbemhbphaa", sum := "4c6f856cc34a30698b4ebaf696add4e44cd975a796ab21c8469aa9f010aed23b", checked := Try.checked }
namespace Rows
def none {H : Type} : Left H := { results := [], args := [] }

/-- 'wapentakelaw09.RequestReads': WHATEVER THE INPUT: true; the input reads as it did. -/
def requestReadsSpec : ChangeSpec := { name := "requestReads", fn := fun _ => fun
  | [d1, d2] => { results := [.lit (.bool true)], args := [d1, d2] }
  | _ => none }
def requestReadsRow : OpenClaim := { program := "ytoamcdbemhbphaa", sum := "4c6f856cc34a30698b4ebaf696add4e44cd975a796ab21c8469aa9f010aed23b", func := "wapentake/wapentakelaw09.RequestReads", spec := "requestReads", unfollowed := true, recurses := true, apart := false }
def RequestReadsSaid : Prop := requestReadsRow.holds Try.pinned (OpenSpec.ofChange requestReadsSpec)

/-- ITS FALSE NEIGHBOUR: 'it returns false'. Refute it at one input. -/
def requestReadsWrong : ChangeSpec := { name := "requestReads", fn := fun _ => fun
  | [d1, d2] => { results := [.lit (.bool false)], args := [d1, d2] }
  | _ => none }
def RequestReadsWrongFalsely : Prop := requestReadsRow.holds Try.pinned (OpenSpec.ofChange requestReadsWrong)

/-- 'wapentakelaw09.RequestAnswers': WHATEVER THE INPUT: true; the input reads as it did. -/
def requestAnswersSpec : ChangeSpec := { name := "requestAnswers", fn := fun _ => fun
  | [d1, d2, d3] => { results := [.lit (.bool true)], args := [d1, d2, d3] }
  | _ => none }
def requestAnswersRow : OpenClaim := { program := "ytoamcdbemhbphaa", sum := "4c6f856cc34a30698b4ebaf696add4e44cd975a796ab21c8469aa9f010aed23b", func := "wapentake/wapentakelaw09.RequestAnswers", spec := "requestAnswers", unfollowed := true, recurses := true, apart := false }
def RequestAnswersSaid : Prop := requestAnswersRow.holds Try.pinned (OpenSpec.ofChange requestAnswersSpec)

/-- ITS FALSE NEIGHBOUR: 'it returns false'. Refute it at one input. -/
def requestAnswersWrong : ChangeSpec := { name := "requestAnswers", fn := fun _ => fun
  | [d1, d2, d3] => { results := [.lit (.bool false)], args := [d1, d2, d3] }
  | _ => none }
def RequestAnswersWrongFalsely : Prop := requestAnswersRow.holds Try.pinned (OpenSpec.ofChange requestAnswersWrong)

/-- 'wapentakelaw09.RequestSames': WHATEVER THE INPUT: true; the input reads as it did. -/
def requestSamesSpec : ChangeSpec := { name := "requestSames", fn := fun _ => fun
  | [d1, d2] => { results := [.lit (.bool true)], args := [d1, d2] }
  | _ => none }
def requestSamesRow : OpenClaim := { program := "ytoamcdbemhbphaa", sum := "4c6f856cc34a30698b4ebaf696add4e44cd975a796ab21c8469aa9f010aed23b", func := "wapentake/wapentakelaw09.RequestSames", spec := "requestSames", unfollowed := true, recurses := true, apart := false }
def RequestSamesSaid : Prop := requestSamesRow.holds Try.pinned (OpenSpec.ofChange requestSamesSpec)

/-- ITS FALSE NEIGHBOUR: 'it returns false'. Refute it at one input. -/
def requestSamesWrong : ChangeSpec := { name := "requestSames", fn := fun _ => fun
  | [d1, d2] => { results := [.lit (.bool false)], args := [d1, d2] }
  | _ => none }
def RequestSamesWrongFalsely : Prop := requestSamesRow.holds Try.pinned (OpenSpec.ofChange requestSamesWrong)

/- THE SECOND FORM. 'bulk': how many values and letters a reading holds, each counted each time it is reached (what is shared counts as often as it is met; a slice's spare places count too). A statement '..UptoSaid' is the law's where the arguments, and the package variables that the reading takes, are together of bulk at most 1048576: NARROWER than '..Said'. Prove '..Said' where nothing that the law and all that it calls make is longer than what came in: it says more and counts as full. Else prove '..UptoSaid'. A law counts once. -/
mutual
def uptoBulk {H : Type} : DataW H → Nat
  | .lit (.string bytes) => bytes.length + 1
  | .lit _ => 1
  | .nil => 1
  | .ptr d => uptoBulk d + 1
  | .slice elems spare => uptoBulkAll elems + uptoBulkAll spare + 1
  | .agg parts => uptoBulkAll parts + 1
  | .iface _ d => uptoBulk d + 1
  | .map entries => uptoBulkEntries entries + 1
  | .held _ => 1
def uptoBulkAll {H : Type} : List (DataW H) → Nat
  | [] => 0
  | d :: r => uptoBulk d + uptoBulkAll r
def uptoBulkEntries {H : Type} : List (Lit × DataW H) → Nat
  | [] => 0
  | x :: r => uptoBulkEntry x + uptoBulkEntries r
def uptoBulkEntry {H : Type} : Lit × DataW H → Nat
  | (.string bytes, d) => bytes.length + uptoBulk d + 1
  | (_, d) => uptoBulk d + 1
 end
def uptoSmall : (H : Type) → List (DataW H) → Bool := fun _ ds => decide (uptoBulkAll ds ≤ 1048576)
def OpenSpec.upto (s : _root_.Go.ChangeSpec) : _root_.Go.OpenSpec := { _root_.Go.OpenSpec.ofChange s with cond := some uptoSmall }

/-- 'wapentakelaw09.RequestReads', WHERE WHAT IT READS IS OF BULK AT MOST 1048576: true; the input reads as it did. -/
def requestReadsUptoRow : OpenClaim := { program := "ytoamcdbemhbphaa", sum := "4c6f856cc34a30698b4ebaf696add4e44cd975a796ab21c8469aa9f010aed23b", func := "wapentake/wapentakelaw09.RequestReads", spec := "requestReads", unfollowed := true, recurses := true, apart := false, narrowed := true }
def RequestReadsUptoSaid : Prop := requestReadsUptoRow.holds Try.pinned (OpenSpec.upto requestReadsSpec)

/-- 'wapentakelaw09.RequestAnswers', WHERE WHAT IT READS IS OF BULK AT MOST 1048576: true; the input reads as it did. -/
def requestAnswersUptoRow : OpenClaim := { program := "ytoamcdbemhbphaa", sum := "4c6f856cc34a30698b4ebaf696add4e44cd975a796ab21c8469aa9f010aed23b", func := "wapentake/wapentakelaw09.RequestAnswers", spec := "requestAnswers", unfollowed := true, recurses := true, apart := false, narrowed := true }
def RequestAnswersUptoSaid : Prop := requestAnswersUptoRow.holds Try.pinned (OpenSpec.upto requestAnswersSpec)

/-- 'wapentakelaw09.RequestSames', WHERE WHAT IT READS IS OF BULK AT MOST 1048576: true; the input reads as it did. -/
def requestSamesUptoRow : OpenClaim := { program := "ytoamcdbemhbphaa", sum := "4c6f856cc34a30698b4ebaf696add4e44cd975a796ab21c8469aa9f010aed23b", func := "wapentake/wapentakelaw09.RequestSames", spec := "requestSames", unfollowed := true, recurses := true, apart := false, narrowed := true }
def RequestSamesUptoSaid : Prop := requestSamesUptoRow.holds Try.pinned (OpenSpec.upto requestSamesSpec)

end Rows
end Go.Proofs.Ytoamcdbemhbphaa
