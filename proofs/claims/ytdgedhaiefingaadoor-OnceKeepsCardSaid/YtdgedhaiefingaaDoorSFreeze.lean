/-
  Loads and stores of a whole state, or a whole block, inside a hash: kept whole while a drawn region is walked (each is met by a fact on the run).
-/
import Derived.Test.YtdgedhaiefingaaDoorSHash
import Derived.Deep.RegionWith
namespace Go.Proofs.YtdgedhaiefingaaDoor
open Go.RowKit

noncomputable def ldState (v : Value) : Sem Value := Instr.loadAt 53 v
noncomputable def ldBlock (v : Value) : Sem Value := Instr.loadAt 54 v
noncomputable def stState (p v : Value) : Sem Unit := Instr.storeAt 53 p v
theorem ldState_def (v : Value) : Instr.loadAt 53 v = ldState v := rfl
theorem ldBlock_def (v : Value) : Instr.loadAt 54 v = ldBlock v := rfl
theorem stState_def (p v : Value) : Instr.storeAt 53 p v = stState p v := rfl

noncomputable def stDigest (p v : Value) : Sem Unit := Instr.storeAt 23 p v
theorem stDigest_def (p v : Value) : Instr.storeAt 23 p v = stDigest p v := rfl
/-- A digest is stored over a block that is known whole. -/
theorem Box.store_digest {w : World} {g : Nat} {t : TypeId} {cs : Array Value} (h : Box w g t cs) (hs : cs.size = 32) (d : List UInt8) (hd : d.length = 32) :
    (stDigest (.pointer (some ⟨g, 0, none⟩)) (.agg (d.map bv).toArray)).run Tryd.prog w = .ok () (w.setCells g 0 (d.map bv)) :=
  run_storeAt_mid (P := Tryd.prog) w g 0 23 (d.map bv).toArray (fun j hj => by
    have hj' : j < 32 := by simpa [hd] using hj
    rw [Nat.zero_add, h.cell, h.free, Array.getElem?_eq_getElem (by omega)]
    exact ⟨rfl, rfl⟩) (by rw [List.size_toArray, List.length_map, hd]; kernel_rfl) (all_oneCell_toArray (bv_one d))

theorem HashW.load_state {w : World} {a : Nat} {st : St} {blk : List UInt8} {used size : Nat} (h : HashW w a st blk used size) : (ldState (.pointer (some ⟨a, 0, none⟩))).run Tryd.prog w = .ok (.agg st.vals) w :=
  run_loadAt_mid (P := Tryd.prog) w a 0 53 (st.list.map wv) _ h.state_range Tryd.underlying53 rfl (by kernel_rfl)
theorem HashW.load_block {w : World} {a : Nat} {st : St} {blk : List UInt8} {used size : Nat} (h : HashW w a st blk used size) : (ldBlock (.pointer (some ⟨a, 8, none⟩))).run Tryd.prog w = .ok (.agg (blk.map bv).toArray) w :=
  run_loadAt_mid (P := Tryd.prog) w a 8 54 (blk.map bv) _ h.block_range Tryd.underlying54 rfl (by rw [List.length_map, h.len]; kernel_rfl)
theorem HashW.store_state {w : World} {a : Nat} {st : St} {blk : List UInt8} {used size : Nat} (h : HashW w a st blk used size) (m : St) :
    (stState (.pointer (some ⟨a, 0, none⟩)) (.agg m.vals)).run Tryd.prog w = .ok () (w.setCells a 0 (m.list.map wv)) :=
  run_storeAt_mid (P := Tryd.prog) w a 0 53 m.vals (h.there 0 8 (by decide)) (by kernel_rfl) (all_oneCell_toArray (wv_one m.list))
end Go.Proofs.YtdgedhaiefingaaDoor
