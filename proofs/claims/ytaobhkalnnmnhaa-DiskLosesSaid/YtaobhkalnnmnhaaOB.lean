/-
  A digest's bit: once.bit, and the document's (wapentakeref04.Bit).
  A signature in memory: its two lists of digests, while they are filled and then.
  The document's bytes of a number (wapentakeref01.Num).
-/
import Derived.Test.YtaobhkalnnmnhaaTG
import Derived.Test.YtaobhkalnnmnhaaOX
import Derived.Test.YtaobhkalnnmnhaaWr
namespace Go.Proofs.Ytaobhkalnnmnhaa
open Go.RowKit

theorem d_cell {d : List UInt8} (hd : d.length = 32) {i : Nat} (hi : i < 32) {w : World} {g : Nat} {t : TypeId} (h : Box w g t (d.map bv).toArray) : w.cell? ⟨g, i / 8, none⟩ = some (.int .u8 ((d.getD (i / 8) 0).toNat : Int)) := by
  have hj : i / 8 < d.length := by omega
  rw [h.cell, List.getElem?_toArray, List.getElem?_map, List.getElem?_eq_getElem hj, List.getD_eq_getElem?_getD, List.getElem?_eq_getElem hj]
  rfl
theorem and_one (n : Nat) (hn : n < 256) : bits .and .i64 (n : Int) 1 = ((n % 2 : Nat) : Int) := by
  revert n
  decide +kernel
theorem bit_of_byte (b k : Nat) (hb : b < 256) : bits .and .i64 (wrap64 ((b : Int) / 2 ^ k)) 1 = ((b / 2 ^ k % 2 : Nat) : Int) := by
  have h0 : b / 2 ^ k < 256 := Nat.lt_of_le_of_lt (Nat.div_le_self _ _) hb
  have e : ((b : Int) / 2 ^ k) = ((b / 2 ^ k : Nat) : Int) := by
    rw [Int.natCast_ediv, Int.natCast_pow]
    rfl
  rw [e]
  have e2 : wrap64 ((b / 2 ^ k : Nat) : Int) = ((b / 2 ^ k : Nat) : Int) := by
    generalize b / 2 ^ k = m at *
    unfold wrap64
    omega
  rw [e2]
  exact and_one _ h0

end Go.Proofs.Ytaobhkalnnmnhaa

namespace Go.Proofs.Ytaobhkalnnmnhaa
open Go.RowKit

/-- The first k digests of X, and zeros. -/
def fillD (X : List (List UInt8)) (k : Nat) : Array Value := ((X.take k).flatten.map bv ++ zerosD ((X.length - k) * 32)).toArray
theorem fillD_size {k : Nat} {X : List (List UInt8)} (h : AllD X) (hk : k ≤ X.length) : (fillD X k).size = X.length * 32 := by
  have := (h.take k).flat
  rw [List.length_take] at this
  unfold fillD zerosD
  rw [List.size_toArray, List.length_append, List.length_map, List.length_replicate, this]
  omega
theorem fillD_zero (X : List (List UInt8)) : fillD X 0 = (zerosD (X.length * 32)).toArray := by
  unfold fillD
  simp
theorem fillD_all (X : List (List UInt8)) : fillD X X.length = (X.flatten.map bv).toArray := by
  unfold fillD zerosD
  simp
theorem Box.fill_put {w : World} {g : Nat} {t : TypeId} {X : List (List UInt8)} {k : Nat} (h : Box w g t (fillD X k)) (ha : AllD X) (hk : k < X.length) : Box (w.setCells g (k * 32) ((X.getD k []).map bv)) g t (fillD X (k + 1)) := by
  have hf := (ha.take k).flat
  rw [List.length_take] at hf
  unfold fillD at h ⊢
  have e : zerosD ((X.length - k) * 32) = zerosD 32 ++ zerosD ((X.length - (k + 1)) * 32) := by
    unfold zerosD
    rw [List.replicate_append_replicate]
    congr 1
    omega
  rw [e] at h
  have hp := h.put_mid (o := k * 32) (vs := (X.getD k []).map bv) (by rw [List.length_map, hf]; omega) (by rw [List.length_map, ha.get hk []]; unfold zerosD; rw [List.length_replicate])
  have e2 : (X.take k).flatten.map bv ++ ((X.getD k []).map bv ++ zerosD ((X.length - (k + 1)) * 32)) = (X.take (k + 1)).flatten.map bv ++ zerosD ((X.length - (k + 1)) * 32) := by
    rw [List.take_succ_eq_append_getElem hk, List.flatten_append, List.map_append, List.append_assoc, List.getD_eq_getElem?_getD, List.getElem?_eq_getElem hk]
    simp
  rw [e2] at hp
  exact hp
theorem sign_lens (seed : List UInt8) (leaf : Int) (d : List UInt8) : (openT seed leaf d).length = 32 ∧ (shutT seed leaf d).length = 32 := by
  unfold openT shutT
  constructor <;> simp
theorem open_all (seed : List UInt8) (leaf : Int) (d : List UInt8) : AllD (openT seed leaf d) := by
  intro x hx
  obtain ⟨i, _, rfl⟩ := List.mem_map.1 hx
  rfl
theorem shut_all (seed : List UInt8) (leaf : Int) (d : List UInt8) : AllD (shutT seed leaf d) := by
  intro x hx
  obtain ⟨i, _, rfl⟩ := List.mem_map.1 hx
  rfl
theorem open_at (seed : List UInt8) (leaf : Int) (d : List UInt8) {i : Nat} (h : i < 32) : (openT seed leaf d).getD i [] = secT seed leaf (2 * i + bitT d i) := by
  unfold openT
  rw [List.getD_eq_getElem?_getD, List.getElem?_map, List.getElem?_range h]
  rfl
theorem shut_at (seed : List UInt8) (leaf : Int) (d : List UInt8) {i : Nat} (h : i < 32) : (shutT seed leaf d).getD i [] = shaOf (secT seed leaf (2 * i + (1 - bitT d i))) := by
  unfold shutT
  rw [List.getD_eq_getElem?_getD, List.getElem?_map, List.getElem?_range h]
  rfl

/-- A signature's value: two slices. -/
abbrev onceV (g h : Nat) (c c' : Nat) : Array Value := #[.slice (some ⟨g, 0, none⟩) 32 c, .slice (some ⟨h, 0, none⟩) 32 c']

theorem once_one (g h c c' : Nat) : ∀ v ∈ (onceV g h c c').toList, v.oneCell' = true := by
  intro v hv
  simp at hv
  rcases hv with rfl | rfl <;> rfl
end Go.Proofs.Ytaobhkalnnmnhaa

namespace Go.Proofs.Ytaobhkalnnmnhaa
open Go.RowKit

/-- 'byte(n >> 8i)' of a signed word. -/
theorem shr_byte (n : Int) (i : Nat) (hi : i < 8) : IntKind.u8.wrap (n / 256 ^ i) = ((UInt8.ofNat ((n % 18446744073709551616).toNat / 256 ^ i)).toNat : Int) := by
  rw [IntKind.wrap_u8', UInt8.toNat_ofNat']
  have e : ((2 : Nat) ^ 8) = 256 := rfl
  rw [e]
  have h0 : 0 ≤ n % 18446744073709551616 := Int.emod_nonneg _ (by decide)
  obtain ⟨N, hN⟩ : ∃ N : Nat, (N : Int) = n % 18446744073709551616 := ⟨(n % 18446744073709551616).toNat, by omega⟩
  rw [← hN, Int.toNat_natCast]
  match i, hi with
  | 0, _ => simp; omega
  | 1, _ => simp; omega
  | 2, _ => simp; omega
  | 3, _ => simp; omega
  | 4, _ => simp; omega
  | 5, _ => simp; omega
  | 6, _ => simp; omega
  | 7, _ => simp; omega

theorem set_back (m : Nat) (b : UInt8) (L : List UInt8) : ((List.replicate (m + 1) 0 ++ L).map bv).toArray.setIfInBounds m (bv b) = ((List.replicate m 0 ++ b :: L).map bv).toArray := by
  rw [List.setIfInBounds_toArray]
  congr 1
  rw [List.replicate_succ', List.append_assoc, List.map_append, List.map_append, List.set_append_right _ _ (by simp)]
  simp

end Go.Proofs.Ytaobhkalnnmnhaa
