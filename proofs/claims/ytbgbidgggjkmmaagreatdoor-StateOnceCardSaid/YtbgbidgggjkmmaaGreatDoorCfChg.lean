/-
  Changes in memory: their cells, what is loaded.
-/
import Derived.Test.YtbgbidgggjkmmaaGreatDoorKA
import Derived.Lib.Hide
namespace Go.Proofs.YtbgbidgggjkmmaaGreatDoor
open Go.RowKit

/-- A change's cells. -/
def chgL (k i n : Int) (r : List UInt8) (h : Int) : List Value := .int .i64 k :: .int .i64 i :: .int .i64 n :: keyL r h
abbrev chgV (k i n : Int) (r : List UInt8) (h : Int) : Value := .agg (chgL k i n r h).toArray
set_option maxRecDepth 100000 in
theorem chg_len {r : List UInt8} (hr : r.length = 32) (k i n h : Int) : (chgL k i n r h).length = 36 := by
  unfold chgL
  simp [keyL_len hr]
set_option maxRecDepth 100000 in
theorem chg_list {r : List UInt8} (hr : r.length = 32) (k i n h : Int) : (Tryz.prog.info? 52).map (·.size) = some (chgL k i n r h).length := by
  rw [chg_len hr]
  kernel_rfl
noncomputable def ldChg (v : Value) : Sem Value := Instr.loadAt 52 v
set_option maxRecDepth 100000 in
theorem ldChg_def (v : Value) : Instr.loadAt 52 v = ldChg v := rfl
noncomputable def ldKy (v : Value) : Sem Value := Instr.loadAt 50 v
set_option maxRecDepth 100000 in
theorem ldKy_def (v : Value) : Instr.loadAt 50 v = ldKy v := rfl
set_option maxRecDepth 100000 in
theorem ld_chg {w : World} {g : Nat} {t : TypeId} {k i n h : Int} {r : List UInt8} (hr : r.length = 32) (hb : Box w g t (chgL k i n r h).toArray) : (ldChg (.pointer (some ⟨g, 0, none⟩))).run Tryz.prog w = .ok (chgV k i n r h) w :=
  run_loadAt_mid (P := Tryz.prog) w g 0 52 (chgL k i n r h) _ hb.range Tryz.underlying52 rfl (chg_list hr k i n h)
set_option maxRecDepth 100000 in
theorem ld_ky {w : World} {g o : Nat} {r : List UInt8} {h : Int} (hr : r.length = 32) (hb : w.rangeAt g o (keyL r h)) : (ldKy (.pointer (some ⟨g, o, none⟩))).run Tryz.prog w = .ok (.agg (keyV r h)) w :=
  run_loadAt_mid (P := Tryz.prog) w g o 50 (keyL r h) _ hb Tryz.underlying50 rfl (key_list hr h)
set_option maxRecDepth 100000 in
theorem chg_key {w : World} {g : Nat} {t : TypeId} {k i n h : Int} {r : List UInt8} (hb : Box w g t (chgL k i n r h).toArray) : w.rangeAt g 3 (keyL r h) := by
  intro j v hj
  have := hb.range (j + 3) v (by unfold chgL; simpa using hj)
  rw [Nat.zero_add, Nat.add_comm j 3] at this
  exact this

end Go.Proofs.YtbgbidgggjkmmaaGreatDoor
