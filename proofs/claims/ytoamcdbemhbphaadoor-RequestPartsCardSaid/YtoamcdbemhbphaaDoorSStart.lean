/-
  Package sha: a hash of no bytes (sha.start); the document's numbers (wapentakeref02.Numbers).
-/
import Derived.Test.YtoamcdbemhbphaaDoorSB
namespace Go.Proofs.YtoamcdbemhbphaaDoor
open Go.RowKit

def hashStart : Array Value := (hashList st0 (List.replicate 64 0) 0 0).toArray
def hashZero : Array Value := (List.replicate 8 (Value.int .u32 0) ++ (List.replicate 64 (Value.int .u8 0) ++ [Value.int .i64 0, Value.int .u64 0])).toArray
set_option maxRecDepth 100000 in
theorem zero_hash (w : World) : (zeroValue 64).run Tryd.prog w = .ok (.agg hashZero) w := by kernel_rfl
set_option maxRecDepth 100000 in
set_option maxHeartbeats 1000000 in
theorem start_any (w : World) : Calls Tryd.prog 20 #[] w fun e w' => e = .returned (.agg hashStart) ∧ Below w.heap.size w w' := by
  have hX : Hid (Box (w.alloc (.cells hashZero 64)) w.heap.size 64 hashZero) := Box.made w _ _
  have HF : Hid (Below w.heap.size w (w.alloc (.cells hashZero 64))) := (Below.refl _ _).alloc (Nat.le_refl _) _
  have hsz : Hid ((Tryd.prog.info? 64).map (·.size) = some hashStart.size) := by
    show _ = some 74
    kernel_rfl
  have hsame : Hid (hashStart.size = hashZero.size) := Lib.hid rfl
  have hone : Hid (∀ v ∈ hashStart.toList, v.oneCell' = true) := by
    have : hashStart.toList.all (·.oneCell') = true := by decide +kernel
    exact fun v hv => List.all_eq_true.1 this v hv
  have hz := zero_hash
  go_enter Tryd.func20, Tryd.ntmps20
  go_wp2_with (((with_reducible show wpList _ _ _ ((⟨none, Op.store _ (.tmp 0) (.tmp 2), _, _, _, _⟩ : Oper) :: _) _ _)); refine wpList_store_box rfl 64 (.tmp 0) (.tmp 2) rfl w.heap.size hashStart rfl rfl 64 hashZero hX.out hsame.out hsz.out hone.out ?_; intro w3 hb3 hg3; have HB5 := Lib.hid hb3; have HG5 := Lib.hid hg3; clear hb3 hg3)
  refine bodyPost_ret (v := .agg hashStart) (results_cell_row rfl _ w3 w.heap.size 64 hashStart (0, 0) _ rfl HB5.out Tryd.underlying64 rfl hsz.out) rfl ⟨rfl, ?_⟩
  exact HF.out.trans (below_only HG5.out (Nat.le_refl _) HF.out.size)
end Go.Proofs.YtoamcdbemhbphaaDoor
