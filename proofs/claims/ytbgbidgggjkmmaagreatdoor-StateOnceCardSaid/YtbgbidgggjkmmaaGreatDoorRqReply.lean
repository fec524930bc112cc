/-
  Replies written: request.WriteReply, wapentakeref09.ReplyBytes.
-/
import Derived.Test.YtbgbidgggjkmmaaGreatDoorRqText
namespace Go.Proofs.YtbgbidgggjkmmaaGreatDoor
open Go.RowKit

set_option maxRecDepth 100000 in
theorem repB_len (c n k : Int) (vs : List ByteArray) : (repB c n k vs).length = 32 + 4 * vs.length + totT vs := by
  unfold repB
  simp only [List.length_append, numBytes_len, tot_flat]
  omega
set_option maxRecDepth 100000 in
theorem repB_split (c n k : Int) (vs : List ByteArray) : repB c n k vs = [c, n, k, (vs.length : Int)].flatMap numBytes ++ vs.flatMap textBytes := by
  unfold repB
  simp only [List.flatMap_cons, List.flatMap_nil, List.append_nil, List.append_assoc]

set_option maxRecDepth 100000 in
theorem flat_take_text (vs : List ByteArray) (j : Nat) (h : j < vs.length) : (vs.take (j + 1)).flatMap textBytes = (vs.take j).flatMap textBytes ++ textBytes vs[j] := by
  rw [take_snoc' vs j h, List.flatMap_append]
  simp

end Go.Proofs.YtbgbidgggjkmmaaGreatDoor
