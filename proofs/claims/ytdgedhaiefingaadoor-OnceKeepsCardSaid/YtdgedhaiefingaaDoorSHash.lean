/-
  A sha.hash in memory: its cells, and what each store makes of them.
-/
import Derived.Test.YtdgedhaiefingaaDoorSMix
import Derived.Test.YtdgedhaiefingaaDoorSFed
namespace Go.Proofs.YtdgedhaiefingaaDoor
open Go.RowKit

/-- A piece of a block is stored anew. -/
theorem Box.mid {w : World} {g : Nat} {t : TypeId} (X Y Z vs : List Value) (h : Box w g t (X ++ (Y ++ Z)).toArray) (hl : vs.length = Y.length) : Box (w.setCells g X.length vs) g t (X ++ (vs ++ Z)).toArray := by
  obtain ⟨cs', hb, hs, h1, h2, h3⟩ := Box.cells_at vs X.length w _ h (by simp; omega)
  have e : cs' = (X ++ (vs ++ Z)).toArray := by
    apply Array.ext_getElem?
    intro j
    rcases Nat.lt_or_ge j X.length with hj | hj
    · rw [h1 j hj, List.getElem?_toArray, List.getElem?_toArray, List.getElem?_append_left hj, List.getElem?_append_left hj]
    · rcases Nat.lt_or_ge j (X.length + vs.length) with hk | hk
      · have := h2 (j - X.length) (by omega)
        rw [show X.length + (j - X.length) = j from by omega] at this
        rw [this, List.getElem?_toArray, List.getElem?_append_right hj, List.getElem?_append_left (by omega)]
      · rw [h3 j hk, List.getElem?_toArray, List.getElem?_toArray, List.getElem?_append_right hj, List.getElem?_append_right hj, List.getElem?_append_right (by omega), List.getElem?_append_right (by omega), hl]
  rw [e] at hb
  exact hb

def hashList (st : St) (blk : List UInt8) (used size : Nat) : List Value := st.list.map wv ++ (blk.map bv ++ [.int .i64 (used : Int), .int .u64 (size : Int)])
structure HashW (w : World) (a : Nat) (st : St) (blk : List UInt8) (used size : Nat) : Prop where
  box : Box w a 57 (hashList st blk used size).toArray
  len : blk.length = 64

theorem hashList_length (st : St) (blk : List UInt8) (used size : Nat) (h : blk.length = 64) : (hashList st blk used size).length = 74 := by
  unfold hashList
  rw [List.length_append, List.length_append, List.length_map, List.length_map, h]
  rfl
theorem hashList_low (st : St) (blk : List UInt8) (used size : Nat) {j : Nat} (h : j < 8) : (hashList st blk used size)[j]? = (st.list.map wv)[j]? := by
  unfold hashList
  rw [List.getElem?_append_left (by rw [List.length_map]; exact h)]
theorem hashList_mid (st : St) (blk : List UInt8) (used size : Nat) {j : Nat} (hb : blk.length = 64) (h : j < 64) : (hashList st blk used size)[8 + j]? = (blk.map bv)[j]? := by
  have e : (st.list.map wv).length = 8 := rfl
  unfold hashList
  rw [List.getElem?_append_right (by omega), e, Nat.add_sub_cancel_left, List.getElem?_append_left (by rw [List.length_map]; omega)]
theorem hashList_used (st : St) (blk : List UInt8) (used size : Nat) (hb : blk.length = 64) : (hashList st blk used size)[72]? = some (.int .i64 (used : Int)) := by
  have e : (st.list.map wv).length = 8 := rfl
  unfold hashList
  rw [List.getElem?_append_right (by omega), e, List.getElem?_append_right (by rw [List.length_map]; omega), List.length_map, hb]
  rfl
theorem hashList_size (st : St) (blk : List UInt8) (used size : Nat) (hb : blk.length = 64) : (hashList st blk used size)[73]? = some (.int .u64 (size : Int)) := by
  have e : (st.list.map wv).length = 8 := rfl
  unfold hashList
  rw [List.getElem?_append_right (by omega), e, List.getElem?_append_right (by rw [List.length_map]; omega), List.length_map, hb]
  rfl

section
variable {w : World} {a : Nat} {st : St} {blk : List UInt8} {used size : Nat}
theorem HashW.lt (h : HashW w a st blk used size) : a < w.heap.size := h.box.lt
theorem HashW.free (h : HashW w a st blk used size) (i : Nat) : w.frozen? ⟨a, i, none⟩ = false := h.box.free i
theorem HashW.cell_used (h : HashW w a st blk used size) : w.cell? ⟨a, 72, none⟩ = some (.int .i64 (used : Int)) := by rw [h.box.cell, List.getElem?_toArray, hashList_used _ _ _ _ h.len]
theorem HashW.cell_size (h : HashW w a st blk used size) : w.cell? ⟨a, 73, none⟩ = some (.int .u64 (size : Int)) := by rw [h.box.cell, List.getElem?_toArray, hashList_size _ _ _ _ h.len]
theorem HashW.cell_byte (h : HashW w a st blk used size) {j : Nat} (hj : j < 64) : w.cell? ⟨a, 8 + j, none⟩ = some (.int .u8 ((blk.getD j 0).toNat : Int)) := by
  have := bytes_get (b := blk) (i := j) (by rw [h.len]; exact hj)
  rw [List.getElem?_toArray] at this
  rw [h.box.cell, List.getElem?_toArray, hashList_mid _ _ _ _ h.len hj, this]
  rfl
theorem HashW.state_range (h : HashW w a st blk used size) : w.rangeAt a 0 (st.list.map wv) := fun j v hv => by
  have hj : j < 8 := by
    rcases Nat.lt_or_ge j 8 with hj | hj
    · exact hj
    · rw [List.getElem?_eq_none (by exact hj)] at hv; cases hv
  rw [Nat.zero_add, h.box.cell, List.getElem?_toArray, hashList_low _ _ _ _ hj]
  exact hv
theorem HashW.block_range (h : HashW w a st blk used size) : w.rangeAt a 8 (blk.map bv) := fun j v hv => by
  have hj : j < 64 := by
    rcases Nat.lt_or_ge j 64 with hj | hj
    · exact hj
    · rw [List.getElem?_eq_none (by rw [List.length_map, h.len]; exact hj)] at hv; cases hv
  rw [h.box.cell, List.getElem?_toArray, hashList_mid _ _ _ _ h.len hj]
  exact hv
theorem HashW.cells8 (h : HashW w a st blk used size) :
    w.cell? ⟨a, 0, none⟩ = some (.int .u32 (wi st.a)) ∧ w.cell? ⟨a, 1, none⟩ = some (.int .u32 (wi st.b)) ∧ w.cell? ⟨a, 2, none⟩ = some (.int .u32 (wi st.c)) ∧ w.cell? ⟨a, 3, none⟩ = some (.int .u32 (wi st.d)) ∧
    w.cell? ⟨a, 4, none⟩ = some (.int .u32 (wi st.e)) ∧ w.cell? ⟨a, 5, none⟩ = some (.int .u32 (wi st.f)) ∧ w.cell? ⟨a, 6, none⟩ = some (.int .u32 (wi st.g)) ∧ w.cell? ⟨a, 7, none⟩ = some (.int .u32 (wi st.h)) := by
  refine ⟨?_, ?_, ?_, ?_, ?_, ?_, ?_, ?_⟩ <;> (rw [h.box.cell]; rfl)
theorem HashW.free8 (h : HashW w a st blk used size) :
    w.frozen? ⟨a, 0, none⟩ = false ∧ w.frozen? ⟨a, 1, none⟩ = false ∧ w.frozen? ⟨a, 2, none⟩ = false ∧ w.frozen? ⟨a, 3, none⟩ = false ∧ w.frozen? ⟨a, 4, none⟩ = false ∧ w.frozen? ⟨a, 5, none⟩ = false ∧ w.frozen? ⟨a, 6, none⟩ = false ∧ w.frozen? ⟨a, 7, none⟩ = false :=
  ⟨h.free _, h.free _, h.free _, h.free _, h.free _, h.free _, h.free _, h.free _⟩
theorem HashW.there (h : HashW w a st blk used size) (o n : Nat) (ho : o + n ≤ 74) : w.there a o n := fun j hj => by
  refine ⟨?_, h.free _⟩
  rw [h.box.cell, List.getElem?_toArray, List.getElem?_eq_getElem (by rw [hashList_length _ _ _ _ h.len]; omega)]
  rfl
theorem HashW.drew (h : HashW w a st blk used size) : HashW w.drew a st blk used size := ⟨h.box, h.len⟩
theorem HashW.drewN (h : HashW w a st blk used size) (n : Nat) : HashW (w.drewN n) a st blk used size := ⟨h.box, h.len⟩
theorem HashW.of_below {w' : World} {B : Nat} (h : HashW w a st blk used size) (hb : Below B w w') (ha : a < B) : HashW w' a st blk used size := ⟨h.box.below hb ha, h.len⟩

theorem HashW.put_used (h : HashW w a st blk used size) (u : Nat) : HashW (w.setCell ⟨a, 72, none⟩ (.int .i64 (u : Int))) a st blk u size := by
  refine ⟨?_, h.len⟩
  have hb := h.box
  unfold hashList at hb ⊢
  have e : (st.list.map wv ++ blk.map bv).length = 72 := by rw [List.length_append, List.length_map, List.length_map, h.len]; rfl
  have := Box.mid (st.list.map wv ++ blk.map bv) [.int .i64 (used : Int)] [.int .u64 (size : Int)] [.int .i64 (u : Int)] (by simpa [List.append_assoc] using hb) rfl
  rw [e] at this
  rw [List.append_assoc] at this
  exact this
theorem HashW.put_size (h : HashW w a st blk used size) (u : Nat) : HashW (w.setCell ⟨a, 73, none⟩ (.int .u64 (u : Int))) a st blk used u := by
  refine ⟨?_, h.len⟩
  have hb := h.box
  unfold hashList at hb ⊢
  have e : (st.list.map wv ++ (blk.map bv ++ [Value.int .i64 (used : Int)])).length = 73 := by rw [List.length_append, List.length_append, List.length_map, List.length_map, h.len]; rfl
  have := Box.mid (st.list.map wv ++ (blk.map bv ++ [Value.int .i64 (used : Int)])) [.int .u64 (size : Int)] [] [.int .u64 (u : Int)] (by simpa [List.append_assoc] using hb) rfl
  rw [e] at this
  rw [List.append_assoc, List.append_assoc] at this
  exact this
theorem HashW.put_state (h : HashW w a st blk used size) (s' : St) : HashW (w.setCells a 0 (s'.list.map wv)) a s' blk used size := by
  refine ⟨?_, h.len⟩
  have hb := h.box
  unfold hashList at hb ⊢
  exact Box.mid [] (st.list.map wv) _ (s'.list.map wv) hb rfl
theorem HashW.put_block (h : HashW w a st blk used size) (o : Nat) (x : List UInt8) (ho : o + x.length ≤ 64) : HashW (w.setCells a (8 + o) (x.map bv)) a st (into blk o x) used size := by
  refine ⟨?_, by rw [into_length _ _ _ (by rw [h.len]; exact ho), h.len]⟩
  have hb := h.box
  unfold hashList at hb ⊢
  have e : (st.list.map wv ++ (blk.take o).map bv).length = 8 + o := by
    rw [List.length_append, List.length_map, List.length_map, List.length_take, h.len]
    have : st.list.length = 8 := rfl
    omega
  have eb : blk = blk.take o ++ ((blk.drop o).take x.length ++ blk.drop (o + x.length)) := by rw [← List.drop_drop, List.take_append_drop, List.take_append_drop]
  have := Box.mid (w := w) (g := a) (t := 57) (st.list.map wv ++ (blk.take o).map bv) (((blk.drop o).take x.length).map bv) ((blk.drop (o + x.length)).map bv ++ [.int .i64 (used : Int), .int .u64 (size : Int)]) (x.map bv) (by
    have e2 : st.list.map wv ++ (blk.take o).map bv ++ (((blk.drop o).take x.length).map bv ++ ((blk.drop (o + x.length)).map bv ++ [.int .i64 (used : Int), .int .u64 (size : Int)])) = st.list.map wv ++ (blk.map bv ++ [.int .i64 (used : Int), .int .u64 (size : Int)]) := by
      conv => rhs; rw [eb]
      simp only [List.map_append, List.append_assoc]
    rw [e2]
    exact hb) (by rw [List.length_map, List.length_map, List.length_take, List.length_drop, h.len]; omega)
  rw [e] at this
  unfold into
  simp only [List.map_append, List.append_assoc] at this ⊢
  exact this
/-- What copy makes of the block. -/
theorem HashW.copied (h : HashW w a st blk used size) (o : Nat) (x : List UInt8) (ho : o + x.length ≤ 64) :
    HashW (w.setRow a ((hashList st blk used size).toArray.toList.take (8 + o) ++ (x.map bv ++ (hashList st blk used size).toArray.toList.drop (8 + o + (x.map bv).length))).toArray) a st (into blk o x) used size := by
  have hp := h.put_block o x ho
  refine ⟨?_, hp.len⟩
  have e : (hashList st blk used size).toArray.toList.take (8 + o) ++ (x.map bv ++ (hashList st blk used size).toArray.toList.drop (8 + o + (x.map bv).length)) = hashList st (into blk o x) used size := by
    unfold hashList into
    have e1 : (st.list.map wv).length = 8 := rfl
    rw [List.toList_toArray, List.take_append, e1, List.take_of_length_le (by omega), Nat.add_sub_cancel_left, List.take_append_of_le_length (by rw [List.length_map, h.len]; omega), List.drop_append, e1,
      List.drop_eq_nil_of_le (by omega), List.length_map, show 8 + o + x.length - 8 = o + x.length from by omega, List.drop_append_of_le_length (by rw [List.length_map, h.len]; omega)]
    simp only [List.map_append, List.append_assoc, List.map_take, List.map_drop, List.nil_append]
  rw [e]
  have := setRow_heap w a (hashList st blk used size).toArray (hashList st (into blk o x) used size).toArray 57 (0, 0) h.box
  exact this
end
theorem only_setRow (w : World) (g : Nat) (cs : Array Value) : w.grownBy (w.setRow g cs) (some g) :=
  ⟨rfl, rfl, rfl, by simp [World.setRow], fun k _ hk => setRow_other w g k _ (fun e => hk (by rw [e]))⟩
end Go.Proofs.YtdgedhaiefingaaDoor
