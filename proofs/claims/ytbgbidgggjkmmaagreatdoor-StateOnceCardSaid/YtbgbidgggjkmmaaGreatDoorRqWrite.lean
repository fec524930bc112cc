/-
  Requests and replies written: request.Write, request.WriteReply.
-/
import Derived.Test.YtbgbidgggjkmmaaGreatDoorRqGood
import Derived.Test.YtbgbidgggjkmmaaGreatDoorWr
import Derived.Deep.RegionLawGrows
import Derived.Test.YtbgbidgggjkmmaaGreatDoorOC
namespace Go.Proofs.YtbgbidgggjkmmaaGreatDoor
open Go.RowKit

/-! ### What is written lies in a block of its own, just laid -/
set_option maxRecDepth 100000 in
theorem laid_chg (w : World) (k i n : Int) {r : List UInt8} (hr : r.length = 32) (hh : Int) : ∃ w', (stChg (.pointer (some ⟨w.heap.size, 0, none⟩)) (.agg (chgL k i n r hh).toArray)).run Tryz.prog (w.alloc (.cells zchgV 52)) = .ok () w' ∧ Box w' w.heap.size 52 (chgL k i n r hh).toArray ∧ Below w.heap.size w w' := by
  obtain ⟨w', h1, h2, h3⟩ := (Box.made w 52 zchgV).st_chg rfl k i n hr hh
  exact ⟨w', h1, h2, ((Below.refl _ _).alloc (Nat.le_refl _) _).trans (below_only h3 (Nat.le_refl _) (by simp))⟩
set_option maxRecDepth 100000 in
theorem reqB_split (x : ReqX) : reqB x = ((([x.client, x.num, x.kind].flatMap numBytes ++ [x.key, x.val, x.old].flatMap textBytes) ++ [x.ck, x.cid, x.cn, x.high].flatMap numBytes) ++ x.root) := by
  unfold reqB
  simp only [List.flatMap_cons, List.flatMap_nil, List.append_nil, List.append_assoc]

attribute [local go_sem ↓] ldDigest_def stDigest_def ldChg_def stChg_def

end Go.Proofs.YtbgbidgggjkmmaaGreatDoor
