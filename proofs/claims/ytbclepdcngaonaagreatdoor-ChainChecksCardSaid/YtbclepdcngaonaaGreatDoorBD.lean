/-
  Whether a block may stand somewhere: block.Follows.
  What the laws ask first: wapentakelaw12.alive.
-/
import Derived.Test.YtbclepdcngaonaaGreatDoorBA
import Derived.Test.YtbclepdcngaonaaGreatDoorBB
namespace Go.Proofs.YtbclepdcngaonaaGreatDoor
open Go.RowKit

attribute [local go_sem ↓] ldReq_def stReq_def ldBlk_def stBlk_def ldDigest_def stDigest_def eqDigest_def

def folB (x : BlkX) (e h : Int) (p s : List UInt8) : Bool := blkGood x && (decide (x.epoch = e) && (decide (x.height = h) && (decide (x.prev = p) && decide (x.state = s))))
set_option maxRecDepth 100000 in
theorem folB_self (x : BlkX) : folB x x.epoch x.height x.prev x.state = blkGood x := by unfold folB; simp

end Go.Proofs.YtbclepdcngaonaaGreatDoor

namespace Go.Proofs.YtbclepdcngaonaaGreatDoor
open Go.RowKit

def aliX : BlkX := ⟨0, 1, zeros, zeros, zeros, [], zeros_len12, zeros_len12, zeros_len12⟩
def aliM : BlkM := ⟨aliX, none, 0⟩
set_option maxRecDepth 100000 in
theorem aliX_good : blkGood aliX = true := by decide
set_option maxRecDepth 100000 in
theorem aliX_len : (blkB aliX).length = 120 := by
  unfold blkB
  simp only [List.length_append, numBytes_len]
  rfl
set_option maxRecDepth 100000 in
theorem aliX_fol : folB aliX 0 1 zeros zeros = true := by decide
set_option maxRecDepth 100000 in
theorem bd_ali (w : World) : (bdBlk #[(1, .int .i64 1)]).run Tryz.prog w = .ok (.agg aliM.cells.toArray) w := run_build w _ _ _ (by kernel_rfl)
noncomputable def bdDig12 (parts : Array (Nat × Value)) : Sem Value := Instr.build 29 parts
set_option maxRecDepth 100000 in
theorem bdDig12_def (parts : Array (Nat × Value)) : Instr.build 29 parts = bdDig12 parts := rfl
set_option maxRecDepth 100000 in
theorem bd_zdig (w : World) : (bdDig12 #[]).run Tryz.prog w = .ok (.agg (zeros.map bv).toArray) w := run_build w _ _ _ (by kernel_rfl)

attribute [local go_sem ↓] ldReq_def stReq_def ldBlk_def stBlk_def bdBlk_def ldDigest_def stDigest_def bdDig12_def

end Go.Proofs.YtbclepdcngaonaaGreatDoor
