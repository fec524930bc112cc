/-
  What the walks of a block's rounds need: the table of roots in memory, a state as cells, a sum of states while it is stored.
  Package sha: the state that a block makes of another one (sha.mixed).
  A digest out of a state: byte by byte.
  A sha.hash in memory: its cells, and what each store makes of them.
-/
import Derived.Test.YtaobhkalnnmnhaaSA
namespace Go.Proofs.Ytaobhkalnnmnhaa
open Go.RowKit

/-- A state as cells. -/
abbrev St.vals (s : St) : Array Value := #[.int .u32 (wi s.a), .int .u32 (wi s.b), .int .u32 (wi s.c), .int .u32 (wi s.d), .int .u32 (wi s.e), .int .u32 (wi s.f), .int .u32 (wi s.g), .int .u32 (wi s.h)]
theorem vals_list (s : St) : s.vals = (s.list.map wv).toArray := rfl

/-- The sum of two lists of words, while it is stored over the first. -/
def cellsP (l m : List UInt32) (k : Nat) : Array Value := (((List.zipWith (· + ·) l m).take k ++ l.drop k).map wv).toArray
theorem cellsP_zero (l m : List UInt32) : cellsP l m 0 = (l.map wv).toArray := rfl
theorem cellsP_get (l m : List UInt32) {k : Nat} (hl : k < l.length) (hm : l.length = m.length) : (cellsP l m k)[k]? = some (.int .u32 (wi (l.getD k 0))) := by
  have ht : ((List.zipWith (· + ·) l m).take k).length = k := by rw [List.length_take, List.length_zipWith]; omega
  unfold cellsP
  rw [List.getElem?_toArray, List.getElem?_map, List.getElem?_append_right (by omega), ht, Nat.sub_self, List.getElem?_drop, Nat.add_zero, List.getElem?_eq_getElem hl, List.getD_eq_getElem?_getD, List.getElem?_eq_getElem hl]
  rfl
theorem cellsP_put (l m : List UInt32) {k : Nat} (hl : k < l.length) (hm : l.length = m.length) : (cellsP l m k).setIfInBounds k (.int .u32 (wi (l.getD k 0 + m.getD k 0))) = cellsP l m (k + 1) := by
  have hz : k < (List.zipWith (· + ·) l m).length := by rw [List.length_zipWith]; omega
  have ht : (((List.zipWith (· + ·) l m).take k).map wv).length = k := by rw [List.length_map, List.length_take]; omega
  unfold cellsP
  apply Array.ext'
  rw [Array.toList_setIfInBounds, List.drop_eq_getElem_cons hl, List.map_append, List.map_cons]
  show (_ ++ _ :: _ : List Value).set k _ = _
  rw [set_at _ _ _ _ _ ht, List.take_succ_eq_append_getElem hz, List.getElem_zipWith]
  simp only [List.map_append, List.map_cons, List.append_assoc, List.cons_append, List.nil_append]
  rw [List.getD_eq_getElem?_getD, List.getElem?_eq_getElem hl, List.getD_eq_getElem?_getD, List.getElem?_eq_getElem (by omega)]
  rfl
theorem cellsP_whole (s t : St) : cellsP s.list t.list 8 = (s.plus t).vals := rfl
theorem cellsP_size (l m : List UInt32) {k : Nat} (hl : k ≤ l.length) (hm : l.length = m.length) : (cellsP l m k).size = l.length := by
  unfold cellsP
  rw [List.size_toArray, List.length_map, List.length_append, List.length_take, List.length_zipWith, List.length_drop]
  omega
theorem list_get (t : St) {k : Nat} (hk : k < 8) : t.vals[k]? = some (.int .u32 (wi (t.list.getD k 0))) := by
  have : ∀ k : Fin 8, t.vals[k.val]? = some (.int .u32 (wi (t.list.getD k.val 0))) := by
    intro k
    match k with
    | ⟨0, _⟩ => rfl
    | ⟨1, _⟩ => rfl
    | ⟨2, _⟩ => rfl
    | ⟨3, _⟩ => rfl
    | ⟨4, _⟩ => rfl
    | ⟨5, _⟩ => rfl
    | ⟨6, _⟩ => rfl
    | ⟨7, _⟩ => rfl
  exact this ⟨k, hk⟩
end Go.Proofs.Ytaobhkalnnmnhaa

namespace Go.Proofs.Ytaobhkalnnmnhaa
open Go.RowKit

theorem wi_compl (x : UInt32) : bits .xor .u32 (if IntKind.u32.signed = true then -1 else IntKind.u32.max) (wi x) = wi (~~~x) := by
  have e : (if IntKind.u32.signed = true then -1 else IntKind.u32.max) = wi 4294967295 := by decide
  rw [e, wi_xor]
  congr 1
end Go.Proofs.Ytaobhkalnnmnhaa

namespace Go.Proofs.Ytaobhkalnnmnhaa
open Go.RowKit

/-- Byte j of word i, the highest first. -/
def dbyte (s : St) (i j : Nat) : UInt8 := UInt8.ofNat ((s.list.getD i 0).toNat / 256 ^ (3 - j))
theorem bytes_length (s : St) : s.bytes.length = 32 := rfl
theorem bytes_at (s : St) (i j : Nat) (hi : i < 8) (hj : j < 4) : s.bytes[4 * i + j]? = some (dbyte s i j) := by
  have h1 : i = 0 ∨ i = 1 ∨ i = 2 ∨ i = 3 ∨ i = 4 ∨ i = 5 ∨ i = 6 ∨ i = 7 := by omega
  have h2 : j = 0 ∨ j = 1 ∨ j = 2 ∨ j = 3 := by omega
  rcases h1 with rfl | rfl | rfl | rfl | rfl | rfl | rfl | rfl <;> rcases h2 with rfl | rfl | rfl | rfl <;> rfl
/-- The digest's cells while it is filled: the first n bytes. -/
def cellsD (l : List UInt8) (n : Nat) : Array Value := ((l.take n ++ List.replicate (32 - n) 0).map bv).toArray
theorem cellsD_zero (l : List UInt8) : cellsD l 0 = (List.replicate 32 (Value.int .u8 0)).toArray := rfl
theorem cellsD_size (l : List UInt8) {n : Nat} (hl : l.length = 32) (h : n ≤ 32) : (cellsD l n).size = 32 := by
  unfold cellsD
  rw [List.size_toArray, List.length_map, List.length_append, List.length_take, List.length_replicate]
  omega
theorem cellsD_at (l : List UInt8) {n i : Nat} (hl : l.length = 32) (h : n ≤ 32) (hi : i < 32) : ∃ v, (cellsD l n)[i]? = some v :=
  ⟨_, Array.getElem?_eq_getElem (by rw [cellsD_size l hl h]; exact hi)⟩
theorem cellsD_put (l : List UInt8) {n : Nat} (hl : l.length = 32) (h : n < 32) (b : UInt8) (hb : l[n]? = some b) : (cellsD l n).setIfInBounds n (.int .u8 (b.toNat : Int)) = cellsD l (n + 1) := by
  unfold cellsD
  have e : 32 - n = (32 - (n + 1)) + 1 := by omega
  have hg : l[n]'(by omega) = b := by
    rw [List.getElem?_eq_getElem (by omega)] at hb
    exact Option.some.inj hb
  apply Array.ext'
  rw [Array.toList_setIfInBounds, e, List.replicate_succ, List.take_succ_eq_append_getElem (by omega), hg]
  simp only [List.map_append, List.map_cons, List.append_assoc, List.cons_append, List.nil_append]
  rw [set_at _ _ _ _ _ (by rw [List.length_map, List.length_take]; omega)]
  rfl
theorem cellsD_whole (l : List UInt8) (hl : l.length = 32) : cellsD l 32 = (l.map bv).toArray := by
  unfold cellsD
  rw [List.take_of_length_le (by omega)]
  simp
theorem put_dbyte (s : St) (i j : Nat) (hj : j < 4) (S : Int) (hS : S = 24 - 8 * (j : Int)) : IntKind.u8.wrap (wi (s.list.getD i 0) / 2 ^ S.toNat) = ((dbyte s i j).toNat : Int) := by
  unfold dbyte wi
  exact put_byte _ (3 - j) S (by omega)
theorem put_dbyte' (s : St) (i j : Nat) (hj : j < 4) : wi (s.list[i]?.getD 0) / 2 ^ (24 - 8 * j) % 256 = ((dbyte s i j).toNat : Int) := by
  have h := put_dbyte s i j hj ((24 - 8 * j : Nat) : Int) (by omega)
  rw [IntKind.wrap_u8', Int.toNat_natCast, List.getD_eq_getElem?_getD] at h
  exact h
end Go.Proofs.Ytaobhkalnnmnhaa

namespace Go.Proofs.Ytaobhkalnnmnhaa
open Go.RowKit

/-- A piece of a block is stored anew. -/
theorem Box.mid {w : World} {g : Nat} {t : TypeId} (X Y Z vs : List Value) (h : Box w g t (X ++ (Y ++ Z)).toArray) (hl : vs.length = Y.length) : Box (w.setCells g X.length vs) g t (X ++ (vs ++ Z)).toArray := by
  obtain ⟨cs', hb, hs, h1, h2, h3⟩ := Box.cells_at vs X.length w _ h (by simp; omega)
  have e : cs' = (X ++ (vs ++ Z)).toArray := by
    apply Array.ext_getElem?
    intro j
    rcases Nat.lt_or_ge j X.length with hj | hj
    · rw [h1 j hj, List.getElem?_toArray, List.getElem?_toArray, List.getElem?_append_left hj, List.getElem?_append_left hj]
    · rcases Nat.lt_or_ge j (X.length + vs.length) with hk | hk
      · have := h2 (j - X.length) (by omega)
        rw [show X.length + (j - X.length) = j from by omega] at this
        rw [this, List.getElem?_toArray, List.getElem?_append_right hj, List.getElem?_append_left (by omega)]
      · rw [h3 j hk, List.getElem?_toArray, List.getElem?_toArray, List.getElem?_append_right hj, List.getElem?_append_right hj, List.getElem?_append_right (by omega), List.getElem?_append_right (by omega), hl]
  rw [e] at hb
  exact hb

def hashList (st : St) (blk : List UInt8) (used size : Nat) : List Value := st.list.map wv ++ (blk.map bv ++ [.int .i64 (used : Int), .int .u64 (size : Int)])
theorem hashList_length (st : St) (blk : List UInt8) (used size : Nat) (h : blk.length = 64) : (hashList st blk used size).length = 74 := by
  unfold hashList
  rw [List.length_append, List.length_append, List.length_map, List.length_map, h]
  rfl
theorem hashList_low (st : St) (blk : List UInt8) (used size : Nat) {j : Nat} (h : j < 8) : (hashList st blk used size)[j]? = (st.list.map wv)[j]? := by
  unfold hashList
  rw [List.getElem?_append_left (by rw [List.length_map]; exact h)]
theorem hashList_mid (st : St) (blk : List UInt8) (used size : Nat) {j : Nat} (hb : blk.length = 64) (h : j < 64) : (hashList st blk used size)[8 + j]? = (blk.map bv)[j]? := by
  have e : (st.list.map wv).length = 8 := rfl
  unfold hashList
  rw [List.getElem?_append_right (by omega), e, Nat.add_sub_cancel_left, List.getElem?_append_left (by rw [List.length_map]; omega)]
theorem hashList_used (st : St) (blk : List UInt8) (used size : Nat) (hb : blk.length = 64) : (hashList st blk used size)[72]? = some (.int .i64 (used : Int)) := by
  have e : (st.list.map wv).length = 8 := rfl
  unfold hashList
  rw [List.getElem?_append_right (by omega), e, List.getElem?_append_right (by rw [List.length_map]; omega), List.length_map, hb]
  rfl
theorem hashList_size (st : St) (blk : List UInt8) (used size : Nat) (hb : blk.length = 64) : (hashList st blk used size)[73]? = some (.int .u64 (size : Int)) := by
  have e : (st.list.map wv).length = 8 := rfl
  unfold hashList
  rw [List.getElem?_append_right (by omega), e, List.getElem?_append_right (by rw [List.length_map]; omega), List.length_map, hb]
  rfl

section
variable {w : World} {a : Nat} {st : St} {blk : List UInt8} {used size : Nat}
end
theorem only_setRow (w : World) (g : Nat) (cs : Array Value) : w.grownBy (w.setRow g cs) (some g) :=
  ⟨rfl, rfl, rfl, by simp [World.setRow], fun k _ hk => setRow_other w g k _ (fun e => hk (by rw [e]))⟩
end Go.Proofs.Ytaobhkalnnmnhaa
