/-
  A digest out of a state: byte by byte.
-/
import Derived.Test.YtdgedhaiefingaaDoorSMix
namespace Go.Proofs.YtdgedhaiefingaaDoor
open Go.RowKit

/-- Byte j of word i, the highest first. -/
def dbyte (s : St) (i j : Nat) : UInt8 := UInt8.ofNat ((s.list.getD i 0).toNat / 256 ^ (3 - j))
theorem bytes_length (s : St) : s.bytes.length = 32 := rfl
theorem bytes_at (s : St) (i j : Nat) (hi : i < 8) (hj : j < 4) : s.bytes[4 * i + j]? = some (dbyte s i j) := by
  have h1 : i = 0 ∨ i = 1 ∨ i = 2 ∨ i = 3 ∨ i = 4 ∨ i = 5 ∨ i = 6 ∨ i = 7 := by omega
  have h2 : j = 0 ∨ j = 1 ∨ j = 2 ∨ j = 3 := by omega
  rcases h1 with rfl | rfl | rfl | rfl | rfl | rfl | rfl | rfl <;> rcases h2 with rfl | rfl | rfl | rfl <;> rfl
/-- The digest's cells while it is filled: the first n bytes. -/
def cellsD (l : List UInt8) (n : Nat) : Array Value := ((l.take n ++ List.replicate (32 - n) 0).map bv).toArray
theorem cellsD_zero (l : List UInt8) : cellsD l 0 = (List.replicate 32 (Value.int .u8 0)).toArray := rfl
theorem cellsD_size (l : List UInt8) {n : Nat} (hl : l.length = 32) (h : n ≤ 32) : (cellsD l n).size = 32 := by
  unfold cellsD
  rw [List.size_toArray, List.length_map, List.length_append, List.length_take, List.length_replicate]
  omega
theorem cellsD_at (l : List UInt8) {n i : Nat} (hl : l.length = 32) (h : n ≤ 32) (hi : i < 32) : ∃ v, (cellsD l n)[i]? = some v :=
  ⟨_, Array.getElem?_eq_getElem (by rw [cellsD_size l hl h]; exact hi)⟩
theorem cellsD_put (l : List UInt8) {n : Nat} (hl : l.length = 32) (h : n < 32) (b : UInt8) (hb : l[n]? = some b) : (cellsD l n).setIfInBounds n (.int .u8 (b.toNat : Int)) = cellsD l (n + 1) := by
  unfold cellsD
  have e : 32 - n = (32 - (n + 1)) + 1 := by omega
  have hg : l[n]'(by omega) = b := by
    rw [List.getElem?_eq_getElem (by omega)] at hb
    exact Option.some.inj hb
  apply Array.ext'
  rw [Array.toList_setIfInBounds, e, List.replicate_succ, List.take_succ_eq_append_getElem (by omega), hg]
  simp only [List.map_append, List.map_cons, List.append_assoc, List.cons_append, List.nil_append]
  rw [set_at _ _ _ _ _ (by rw [List.length_map, List.length_take]; omega)]
  rfl
theorem cellsD_whole (l : List UInt8) (hl : l.length = 32) : cellsD l 32 = (l.map bv).toArray := by
  unfold cellsD
  rw [List.take_of_length_le (by omega)]
  simp
theorem put_dbyte (s : St) (i j : Nat) (hj : j < 4) (S : Int) (hS : S = 24 - 8 * (j : Int)) : IntKind.u8.wrap (wi (s.list.getD i 0) / 2 ^ S.toNat) = ((dbyte s i j).toNat : Int) := by
  unfold dbyte wi
  exact put_byte _ (3 - j) S (by omega)
theorem put_dbyte' (s : St) (i j : Nat) (hj : j < 4) : wi (s.list[i]?.getD 0) / 2 ^ (24 - 8 * j) % 256 = ((dbyte s i j).toNat : Int) := by
  have h := put_dbyte s i j hj ((24 - 8 * j : Nat) : Int) (by omega)
  rw [IntKind.wrap_u8', Int.toNat_natCast, List.getD_eq_getElem?_getD] at h
  exact h
end Go.Proofs.YtdgedhaiefingaaDoor
