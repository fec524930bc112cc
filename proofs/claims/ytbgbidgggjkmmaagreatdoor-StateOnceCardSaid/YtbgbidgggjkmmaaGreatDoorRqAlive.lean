/-
  What the laws ask first: wapentakelaw09.put, wapentakelaw09.alive.
-/
import Derived.Test.YtbgbidgggjkmmaaGreatDoorRqWrite
import Derived.Test.YtbgbidgggjkmmaaGreatDoorRqText
import Derived.Test.YtbgbidgggjkmmaaGreatDoorRqRdRep
namespace Go.Proofs.YtbgbidgggjkmmaaGreatDoor
open Go.RowKit

def putX : ReqX := ⟨1, 1, 2, ⟨#[107]⟩, ⟨#[118]⟩, ⟨#[]⟩, 0, 0, 0, zeros, 0, zeros_len⟩
set_option maxRecDepth 100000 in
theorem putX_good : reqGood putX = true := by decide
set_option maxRecDepth 100000 in
theorem putX_len : (reqB putX).length = 102 := by
  unfold reqB
  simp only [List.length_append, numBytes_len, textBytes_len]
  rfl
noncomputable def bdOp (parts : Array (Nat × Value)) : Sem Value := Instr.build 54 parts
set_option maxRecDepth 100000 in
theorem bdOp_def (parts : Array (Nat × Value)) : Instr.build 54 parts = bdOp parts := rfl
set_option maxRecDepth 100000 in
theorem bd_op (w : World) : (bdOp #[(0, .int .i64 2), (1, .string ⟨#[107]⟩), (2, .string ⟨#[118]⟩)]).run Tryz.prog w = .ok (.agg (opL putX).toArray) w := run_build w _ _ _ (by kernel_rfl)
set_option maxRecDepth 100000 in
theorem bd_put (w : World) : (bdReq #[(0, .int .i64 1), (1, .int .i64 1), (2, .agg (opL putX).toArray)]).run Tryz.prog w = .ok (.agg putX.cells.toArray) w := run_build w _ _ _ (by kernel_rfl)
set_option maxRecDepth 100000 in
theorem bd_rep1 (w : World) : (bdRep #[(1, .int .i64 1)]).run Tryz.prog w = .ok (.agg (repV 0 1 0 none 0 0)) w := run_build w _ _ _ (by kernel_rfl)

attribute [local go_sem ↓] ldReq_def stReq_def bdReq_def bdOp_def bdRep_def

end Go.Proofs.YtbgbidgggjkmmaaGreatDoor
