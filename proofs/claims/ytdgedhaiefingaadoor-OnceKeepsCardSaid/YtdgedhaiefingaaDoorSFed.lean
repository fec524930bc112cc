/-
  A hash under way, on plain lists: what was taken in, the state, the block that is being filled, and the end. No program, no memory.
-/
import Derived.Test.YtdgedhaiefingaaDoorSPlain
namespace Go.Proofs.YtdgedhaiefingaaDoor
open Go.RowKit

theorem mixAll_append (s : St) (l x : List UInt8) : ∀ n, 64 * n ≤ l.length → mixAll s n (l ++ x) = mixAll s n l
  | 0, _ => rfl
  | n + 1, h => by
    rw [mixAll, mixAll, mixAll_append s l x n (by omega), List.drop_append_of_le_length (by omega), List.take_append_of_le_length (by rw [List.length_drop]; omega)]

/-- What is behind l: the state of its whole blocks; the block's head holds the rest. -/
structure Fed (l : List UInt8) (st : St) (blk : List UInt8) (used : Nat) : Prop where
  eq : used = l.length % 64
  at_ : st = mixAll st0 (l.length / 64) l
  rest : blk.take used = l.drop (64 * (l.length / 64))
  len : blk.length = 64

theorem fed_start (blk : List UInt8) (h : blk.length = 64) : Fed [] st0 blk 0 := ⟨rfl, rfl, rfl, h⟩
theorem Fed.lt {l : List UInt8} {st : St} {blk : List UInt8} {used : Nat} (h : Fed l st blk used) : used < 64 := by
  rw [h.eq]
  exact Nat.mod_lt _ (by decide)

/-- Bytes laid into a block. -/
def into (blk : List UInt8) (u : Nat) (x : List UInt8) : List UInt8 := blk.take u ++ x ++ blk.drop (u + x.length)
theorem into_length (blk : List UInt8) (u : Nat) (x : List UInt8) (h : u + x.length ≤ blk.length) : (into blk u x).length = blk.length := by
  unfold into
  rw [List.length_append, List.length_append, List.length_take, List.length_drop]
  omega
theorem into_take (blk : List UInt8) (u : Nat) (x : List UInt8) (h : u ≤ blk.length) : (into blk u x).take (u + x.length) = blk.take u ++ x := by
  unfold into
  rw [List.take_append_of_le_length (by rw [List.length_append, List.length_take]; omega)]
  exact List.take_of_length_le (by rw [List.length_append, List.length_take]; omega)

theorem Fed.more {l : List UInt8} {st : St} {blk : List UInt8} {used : Nat} (h : Fed l st blk used) (x : List UInt8) (hx : used + x.length < 64) : Fed (l ++ x) st (into blk used x) (used + x.length) := by
  have hu := h.eq
  have hlt := h.lt
  have e1 : (l ++ x).length / 64 = l.length / 64 := by rw [List.length_append]; omega
  refine ⟨by rw [List.length_append]; omega, ?_, ?_, ?_⟩
  · rw [e1, mixAll_append st0 l x (l.length / 64) (by omega)]
    exact h.at_
  · rw [e1, into_take _ _ _ (by rw [h.len]; omega), h.rest, List.drop_append_of_le_length (by omega)]
  · rw [into_length _ _ _ (by rw [h.len]; omega), h.len]
theorem Fed.full {l : List UInt8} {st : St} {blk : List UInt8} {used : Nat} (h : Fed l st blk used) (x : List UInt8) (hx : used + x.length = 64) : Fed (l ++ x) (mix st (into blk used x)) (into blk used x) 0 := by
  have hu := h.eq
  have hlt := h.lt
  have e1 : (l ++ x).length / 64 = l.length / 64 + 1 := by rw [List.length_append]; omega
  have hil := into_length blk used x (by rw [h.len]; omega)
  rw [h.len] at hil
  have ht := into_take blk used x (by rw [h.len]; omega)
  rw [hx, List.take_of_length_le (by omega)] at ht
  refine ⟨by rw [List.length_append]; omega, ?_, ?_, hil⟩
  · rw [e1, mixAll, mixAll_append st0 l x (l.length / 64) (by omega), ← h.at_, List.drop_append_of_le_length (by omega), ← h.rest, ht]
    have e2 : (blk.take used ++ x).take 64 = blk.take used ++ x := List.take_of_length_le (by rw [← ht, hil]; exact Nat.le_refl _)
    rw [e2]
  · rw [e1, List.take_zero, List.drop_eq_nil_of_le]
    rw [List.length_append]
    omega

/-- The last block, or the last but one: what was taken in, the byte 80, noughts. -/
def lastBlock (blk : List UInt8) (used : Nat) : List UInt8 := blk.take used ++ 128 :: List.replicate (63 - used) 0
theorem lastBlock_length (blk : List UInt8) (used : Nat) (h : blk.length = 64) (hu : used < 64) : (lastBlock blk used).length = 64 := by
  unfold lastBlock
  rw [List.length_append, List.length_take, List.length_cons, List.length_replicate]
  omega
/-- A block whose end is the number of bits. -/
def counted (blk : List UInt8) (n : Nat) : List UInt8 := blk.take 56 ++ beBytes 8 (8 * n)
theorem beBytes_get : ∀ (m n i : Nat), i < m → (beBytes m n)[i]? = some (UInt8.ofNat (n / 256 ^ (m - 1 - i)))
  | 0, _, i, h => by omega
  | m + 1, n, 0, _ => rfl
  | m + 1, n, i + 1, h => by
    rw [beBytes, List.getElem?_cons_succ, beBytes_get m n i (by omega), show m + 1 - 1 - (i + 1) = m - 1 - i from by omega]
/-- A block while the number of bits is laid in, from its end: the last k bytes. -/
def cnt (blk : List UInt8) (n k : Nat) : List UInt8 := blk.take (64 - k) ++ (beBytes 8 (8 * n)).drop (8 - k)
theorem cnt_zero (blk : List UInt8) (n : Nat) (h : blk.length = 64) : cnt blk n 0 = blk := by
  unfold cnt
  rw [List.take_of_length_le (by omega), List.drop_eq_nil_of_le (by rw [beBytes_length]; decide), List.append_nil]
theorem cnt_last (blk : List UInt8) (n : Nat) : cnt blk n 8 = counted blk n := rfl
theorem cnt_put (blk : List UInt8) (n k : Nat) (h : blk.length = 64) (hk : k < 8) : into (cnt blk n k) (63 - k) [UInt8.ofNat (8 * n / 256 ^ k)] = cnt blk n (k + 1) := by
  have hb : (beBytes 8 (8 * n)).drop (8 - (k + 1)) = UInt8.ofNat (8 * n / 256 ^ k) :: (beBytes 8 (8 * n)).drop (8 - k) := by
    have hl : 8 - (k + 1) < (beBytes 8 (8 * n)).length := by rw [beBytes_length]; omega
    have hg := beBytes_get 8 (8 * n) (8 - (k + 1)) (by omega)
    rw [List.getElem?_eq_getElem hl, Option.some.injEq, show 8 - 1 - (8 - (k + 1)) = k from by omega] at hg
    rw [List.drop_eq_getElem_cons hl, hg, show 8 - (k + 1) + 1 = 8 - k from by omega]
  have ht : (blk.take (64 - k)).length = 64 - k := by rw [List.length_take]; omega
  have e1 : (cnt blk n k).take (63 - k) = blk.take (63 - k) := by
    unfold cnt
    rw [List.take_append_of_le_length (by omega), List.take_take, show min (63 - k) (64 - k) = 63 - k from by omega]
  have e2 : (cnt blk n k).drop (63 - k + 1) = (beBytes 8 (8 * n)).drop (8 - k) := by
    unfold cnt
    rw [show 63 - k + 1 = 64 - k from by omega, List.drop_left' ht]
  have e0 : into (cnt blk n k) (63 - k) [UInt8.ofNat (8 * n / 256 ^ k)] = (cnt blk n k).take (63 - k) ++ [UInt8.ofNat (8 * n / 256 ^ k)] ++ (cnt blk n k).drop (63 - k + 1) := rfl
  rw [e0, e1, e2]
  unfold cnt
  rw [hb, show 64 - (k + 1) = 63 - k from by omega, List.append_assoc]
  rfl
theorem pad_length (n : Nat) : (pad n).length = 1 + (119 - n % 64) % 64 + 8 := by
  unfold pad
  rw [List.length_cons, List.length_append, List.length_replicate, beBytes_length]
  omega

/-- The end, where there is room for the number of bits. -/
theorem Fed.end_room {l : List UInt8} {st : St} {blk : List UInt8} {used : Nat} (h : Fed l st blk used) (hu : used < 56) : shaOf l = (mix st (counted (lastBlock blk used) l.length)).bytes := by
  have hus := h.eq
  have hp := pad_length l.length
  have e0 : (119 - l.length % 64) % 64 = 55 - used := by omega
  have e1 : (padded l).length / 64 = l.length / 64 + 1 := by unfold padded; rw [List.length_append, hp]; omega
  unfold shaOf
  rw [e1, mixAll]
  unfold padded
  rw [mixAll_append st0 l (pad l.length) (l.length / 64) (by omega), ← h.at_, List.drop_append_of_le_length (by omega), ← h.rest]
  congr 2
  rw [List.take_of_length_le (by rw [List.length_append, List.length_take, hp, h.len]; omega)]
  unfold counted lastBlock pad
  rw [e0, List.take_append, List.length_take, h.len, List.take_of_length_le (l := blk.take used) (i := 56) (by rw [List.length_take]; omega), show 56 - min used 64 = (55 - used) + 1 from by omega, List.take_succ_cons, List.take_replicate, show min (55 - used) (63 - used) = 55 - used from by omega, List.append_assoc, List.cons_append]

/-- The end, where there is none. -/
theorem Fed.end_full {l : List UInt8} {st : St} {blk : List UInt8} {used : Nat} (h : Fed l st blk used) (hu : 56 ≤ used) : shaOf l = (mix (mix st (lastBlock blk used)) (counted (List.replicate 64 0) l.length)).bytes := by
  have hus := h.eq
  have hlt := h.lt
  have hp := pad_length l.length
  have e0 : (119 - l.length % 64) % 64 = 119 - used := by omega
  have e1 : (padded l).length / 64 = l.length / 64 + 1 + 1 := by unfold padded; rw [List.length_append, hp]; omega
  have er : List.replicate (119 - used) (0 : UInt8) = List.replicate (63 - used) 0 ++ List.replicate 56 0 := by
    rw [List.replicate_append_replicate]
    congr 1
    omega
  have ep : l.drop (64 * (l.length / 64)) ++ pad l.length = lastBlock blk used ++ counted (List.replicate 64 0) l.length := by
    unfold lastBlock counted pad
    rw [h.rest, e0, er, List.take_replicate]
    simp
  have hlb := lastBlock_length blk used h.len hlt
  unfold shaOf
  rw [e1, mixAll, mixAll]
  unfold padded
  have d2 : (l ++ pad l.length).drop (64 * (l.length / 64 + 1)) = counted (List.replicate 64 0) l.length := by
    rw [show 64 * (l.length / 64 + 1) = 64 * (l.length / 64) + 64 from by omega, ← List.drop_drop, List.drop_append_of_le_length (by omega), ep, List.drop_left' hlb]
  rw [mixAll_append st0 l (pad l.length) (l.length / 64) (by omega), ← h.at_, d2, List.drop_append_of_le_length (by omega), ep, List.take_left' hlb]
  congr 2
end Go.Proofs.YtdgedhaiefingaaDoor
