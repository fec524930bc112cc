/-
  Keys of trees as keys of a map: what each reads as; two read alike only if they are the same.
-/
import Derived.Test.YtejnfgcnifcpaaaGreatDoorKA
import Derived.Maps.OwnSet
import Derived.Maps.Ext
import Derived.DeepKeys4
namespace Go.Proofs.YtejnfgcnifcpaaaGreatDoor
open Go.RowKit Go.Maps

set_option maxRecDepth 100000 in
theorem key_laidOut : laidOutB Tryz.prog = true := by kernel_rfl
set_option maxRecDepth 100000 in
theorem key_row : (58 : TypeId) < Tryz.prog.types.size := of_decide_eq_true (by kernel_rfl)
set_option maxRecDepth 100000 in
theorem key_struct : Tryz.prog.underlying 58 = some (.struct (Tryz.prog.fieldsOf 58)) := by kernel_rfl
set_option maxRecDepth 100000 in
theorem key_wide : (match Tryz.prog.underlying 58 with | some (.array _ _) | some (.struct _) => true | _ => false) = true := by
  rw [key_struct]
set_option maxRecDepth 100000 in
theorem keyed : Keyed Tryz.prog 58 := Keyed.of_law (deep_law_laid key_laidOut (m := 3) (by omega) key_row (by kernel_rfl) key_wide)
set_option maxRecDepth 100000 in
theorem key_cells : Tryz.prog.cellsOf 58 = 33 := by kernel_rfl
set_option maxRecDepth 100000 in
theorem dig_cells : Tryz.prog.cellsOf 26 = 32 := by kernel_rfl
set_option maxRecDepth 100000 in
theorem int_cells : Tryz.prog.cellsOf 3 = 1 := by kernel_rfl

set_option maxRecDepth 100000 in
theorem mapM_some {α β : Type} (f : α → Option β) : ∀ l : List α, (∀ x ∈ l, ∃ y, f x = some y) → ∃ ys, l.mapM f = some ys
  | [], _ => ⟨[], rfl⟩
  | x :: r, h => by
    obtain ⟨y, hy⟩ := h x (by simp)
    obtain ⟨ys, hys⟩ := mapM_some f r (fun z hz => h z (by simp [hz]))
    exact ⟨y :: ys, by simp [List.mapM_cons, hy, hys]⟩

set_option maxRecDepth 100000 in
theorem byte_lits (d : Nat) (b : UInt8) : Tryz.prog.keyLits (d + 1) 5 [bv b] = some [.int .u8 (b.toNat : Int)] := by
  have h := b.toNat_lt
  unfold Program.keyLits
  rw [Tryz.underlying5]
  simp [bv, Lit.wf, IntKind.min, IntKind.max, IntKind.signed, IntKind.bits]
  omega
set_option maxRecDepth 100000 in
theorem dig_lits (d : Nat) (r : List UInt8) (hr : r.length = 32) : ∃ L, Tryz.prog.keyLits (d + 2) 26 (r.map bv) = some L := by
  unfold Program.keyLits
  rw [Tryz.underlying26]
  simp only [dig_cells, List.length_map, hr, if_true]
  obtain ⟨ys, h⟩ := mapM_some (fun i => Tryz.prog.keyLits (d + 1) 5 (((r.map bv).drop (i * Tryz.prog.cellsOf 5)).take (Tryz.prog.cellsOf 5))) (List.range 32) (fun i hi => by
    rw [List.mem_range] at hi
    have e : (((r.map bv).drop (i * Tryz.prog.cellsOf 5)).take (Tryz.prog.cellsOf 5)) = [bv (r[i]'(by omega))] := by
      rw [Tryz.cells_byte, Nat.mul_one, List.drop_eq_getElem_cons (by simp; omega)]
      simp
    rw [e]
    exact ⟨_, byte_lits d _⟩)
  rw [h]
  exact ⟨_, rfl⟩
set_option maxRecDepth 100000 in
theorem key_lits (d : Nat) (r : List UInt8) (h : Int) (hr : r.length = 32) (hw : (Lit.int .i64 h).wf = true) : ∃ L, Tryz.prog.keyLits (d + 3) 58 (keyL r h) = some L := by
  have hfs : (Tryz.prog.fieldsOf 58).toList.map (fun f => (f.type, f.offset)) = [(26, 0), (3, 32)] := by kernel_rfl
  have hall : (Tryz.prog.fieldsOf 58).all (·.name != "_") = true := by kernel_rfl
  unfold Program.keyLits
  rw [key_struct]
  simp only [key_cells, keyL_len hr, hall, and_self, if_true]
  obtain ⟨ys, hm⟩ := mapM_some (fun f : Field => Tryz.prog.keyLits (d + 2) f.type (((keyL r h).drop f.offset).take (Tryz.prog.cellsOf f.type))) (Tryz.prog.fieldsOf 58).toList (fun f hf => by
    have hm : (f.type, f.offset) ∈ (Tryz.prog.fieldsOf 58).toList.map (fun f => (f.type, f.offset)) := List.mem_map.2 ⟨f, hf, rfl⟩
    rw [hfs] at hm
    simp only [List.mem_cons, Prod.mk.injEq, List.not_mem_nil, or_false] at hm
    rcases hm with ⟨e1, e2⟩ | ⟨e1, e2⟩
    · rw [e1, e2, dig_cells]
      have e : ((keyL r h).drop 0).take 32 = r.map bv := by
        unfold keyL
        rw [List.drop_zero, List.take_append_of_le_length (by simp [hr]), List.take_of_length_le (by simp [hr])]
      rw [e]
      exact dig_lits d r hr
    · rw [e1, e2, int_cells]
      have e : ((keyL r h).drop 32).take 1 = [.int .i64 h] := by
        unfold keyL
        rw [List.drop_append_of_le_length (by simp [hr]), List.drop_of_length_le (by simp [hr])]
        rfl
      rw [e]
      unfold Program.keyLits
      rw [Tryz.underlying3]
      simp [hw])
  rw [hm]
  exact ⟨_, rfl⟩
set_option maxRecDepth 100000 in
theorem keyOf_key (r : List UInt8) (h : Int) (hr : r.length = 32) (hw : (Lit.int .i64 h).wf = true) : ∃ l, keyOf Tryz.prog 58 (.agg (keyV r h)) = some l := by
  obtain ⟨d, hd⟩ : ∃ d, Tryz.prog.types.size + 1 = d + 3 := ⟨Tryz.prog.types.size - 2, by
    have h2 : 2 ≤ Tryz.prog.types.size := of_decide_eq_true (by kernel_rfl)
    omega⟩
  obtain ⟨L, hL⟩ := key_lits d r h hr hw
  have hf : (Value.agg (keyV r h)).formed Tryz.prog 58 = true := by
    unfold Value.formed
    rw [key_struct]
    simp only [key_cells]
    unfold keyV
    rw [List.size_toArray, keyL_len hr]
    rfl
  have hk : Tryz.prog.keyType 58 = true := by kernel_rfl
  unfold keyOf
  rw [key_struct]
  simp only [hk, hf, Bool.and_self, if_true, hd]
  change ∃ l, Option.map _ (Tryz.prog.keyLits (d + 3) 58 (keyL r h).toArray.toList) = some l
  rw [List.toList_toArray, hL]
  exact ⟨_, rfl⟩

/-- What a key reads as. -/
noncomputable def klit (r : List UInt8) (h : Int) : Lit := (keyOf Tryz.prog 58 (.agg (keyV r h))).getD .nil
set_option maxRecDepth 100000 in
theorem klit_is {r : List UInt8} {h : Int} (hr : r.length = 32) (hw : (Lit.int .i64 h).wf = true) : keyOf Tryz.prog 58 (.agg (keyV r h)) = some (klit r h) := by
  obtain ⟨l, hl⟩ := keyOf_key r h hr hw
  unfold klit
  rw [hl]
  rfl
set_option maxRecDepth 100000 in
theorem klit_key {r : List UInt8} {h : Int} (hr : r.length = 32) (hw : (Lit.int .i64 h).wf = true) : WideAt.IsKeyLit (klit r h) := keyed.key (klit_is hr hw)
set_option maxRecDepth 100000 in
theorem bv_inj {a b : UInt8} (h : bv a = bv b) : a = b := by
  unfold bv at h
  injection h with _ h
  exact UInt8.toNat_inj.1 (by omega)
set_option maxRecDepth 100000 in
theorem keyV_inj {r s : List UInt8} {h k : Int} (hl : r.length = s.length) (e : keyV r h = keyV s k) : r = s ∧ h = k := by
  unfold keyV keyL at e
  have e' : r.map bv ++ [Value.int .i64 h] = s.map bv ++ [Value.int .i64 k] := by simpa using congrArg Array.toList e
  obtain ⟨e1, e2⟩ := List.append_inj e' (by simp [hl])
  refine ⟨?_, ?_⟩
  · exact (List.map_inj_right fun a b => bv_inj).1 e1
  · simpa using e2
set_option maxRecDepth 100000 in
theorem klit_inj {r s : List UInt8} {h k : Int} (hr : r.length = 32) (hs : s.length = 32) (hw : (Lit.int .i64 h).wf = true) (kw : (Lit.int .i64 k).wf = true) (e : klit r h = klit s k) : r = s ∧ h = k := by
  have h1 := klit_is hr hw
  have h2 := klit_is hs kw
  rw [← e] at h2
  have h3 := keyed.inj h1 h2
  injection h3 with h3
  exact keyV_inj (by rw [hr, hs]) h3
set_option maxRecDepth 100000 in
theorem small_wf (n : Nat) (h : n ≤ 64) : (Lit.int .i64 (n : Int)).wf = true := by
  simp [Lit.wf, IntKind.min, IntKind.max, IntKind.signed, IntKind.bits]
  omega
end Go.Proofs.YtejnfgcnifcpaaaGreatDoor
