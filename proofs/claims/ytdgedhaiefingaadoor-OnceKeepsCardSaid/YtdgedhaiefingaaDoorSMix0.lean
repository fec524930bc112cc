/-
  What the walks of a block's rounds need: the table of roots in memory, a state as cells, a sum of states while it is stored.
-/
import Derived.Test.YtdgedhaiefingaaDoorSWords
namespace Go.Proofs.YtdgedhaiefingaaDoor
open Go.RowKit

/-- The table of roots stands in block 0. -/
def Roots (w : World) : Prop := 0 < w.heap.size ∧ ∀ i, i < 64 → w.cell? ⟨0, i, none⟩ = some (.int .u32 (wi (roots.getD i 0)))
theorem Roots.below {w w' : World} {B : Nat} (h : Roots w) (hb : Below B w w') (hB : 0 < B) : Roots w' :=
  ⟨Nat.lt_of_lt_of_le h.1 (by
    have := hb.size
    rcases Nat.lt_or_ge w'.heap.size w.heap.size with hl | hl
    · have e := h.1
      have := hb.block 0 hB
      rcases Nat.eq_zero_or_pos w'.heap.size with hz | hz
      · rw [Array.getElem?_eq_none (by omega), Array.getElem?_eq_getElem e] at this
        cases this
      · omega
    · exact hl), fun i hi => (hb.cell (p := ⟨0, i, none⟩) hB).trans (h.2 i hi)⟩
theorem Roots.of_below {w w' : World} (h : Roots w) (hb : Below w.heap.size w w') : Roots w' := h.below hb h.1
theorem Roots.drew {w : World} (h : Roots w) : Roots w.drew := h
theorem Roots.drewN {w : World} (h : Roots w) (n : Nat) : Roots (w.drewN n) := h

/-- A state as cells. -/
abbrev St.vals (s : St) : Array Value := #[.int .u32 (wi s.a), .int .u32 (wi s.b), .int .u32 (wi s.c), .int .u32 (wi s.d), .int .u32 (wi s.e), .int .u32 (wi s.f), .int .u32 (wi s.g), .int .u32 (wi s.h)]
theorem vals_list (s : St) : s.vals = (s.list.map wv).toArray := rfl

/-- The sum of two lists of words, while it is stored over the first. -/
def cellsP (l m : List UInt32) (k : Nat) : Array Value := (((List.zipWith (· + ·) l m).take k ++ l.drop k).map wv).toArray
theorem cellsP_zero (l m : List UInt32) : cellsP l m 0 = (l.map wv).toArray := rfl
theorem cellsP_get (l m : List UInt32) {k : Nat} (hl : k < l.length) (hm : l.length = m.length) : (cellsP l m k)[k]? = some (.int .u32 (wi (l.getD k 0))) := by
  have ht : ((List.zipWith (· + ·) l m).take k).length = k := by rw [List.length_take, List.length_zipWith]; omega
  unfold cellsP
  rw [List.getElem?_toArray, List.getElem?_map, List.getElem?_append_right (by omega), ht, Nat.sub_self, List.getElem?_drop, Nat.add_zero, List.getElem?_eq_getElem hl, List.getD_eq_getElem?_getD, List.getElem?_eq_getElem hl]
  rfl
theorem cellsP_put (l m : List UInt32) {k : Nat} (hl : k < l.length) (hm : l.length = m.length) : (cellsP l m k).setIfInBounds k (.int .u32 (wi (l.getD k 0 + m.getD k 0))) = cellsP l m (k + 1) := by
  have hz : k < (List.zipWith (· + ·) l m).length := by rw [List.length_zipWith]; omega
  have ht : (((List.zipWith (· + ·) l m).take k).map wv).length = k := by rw [List.length_map, List.length_take]; omega
  unfold cellsP
  apply Array.ext'
  rw [Array.toList_setIfInBounds, List.drop_eq_getElem_cons hl, List.map_append, List.map_cons]
  show (_ ++ _ :: _ : List Value).set k _ = _
  rw [set_at _ _ _ _ _ ht, List.take_succ_eq_append_getElem hz, List.getElem_zipWith]
  simp only [List.map_append, List.map_cons, List.append_assoc, List.cons_append, List.nil_append]
  rw [List.getD_eq_getElem?_getD, List.getElem?_eq_getElem hl, List.getD_eq_getElem?_getD, List.getElem?_eq_getElem (by omega)]
  rfl
theorem cellsP_whole (s t : St) : cellsP s.list t.list 8 = (s.plus t).vals := rfl
theorem cellsP_size (l m : List UInt32) {k : Nat} (hl : k ≤ l.length) (hm : l.length = m.length) : (cellsP l m k).size = l.length := by
  unfold cellsP
  rw [List.size_toArray, List.length_map, List.length_append, List.length_take, List.length_zipWith, List.length_drop]
  omega
theorem list_get (t : St) {k : Nat} (hk : k < 8) : t.vals[k]? = some (.int .u32 (wi (t.list.getD k 0))) := by
  have : ∀ k : Fin 8, t.vals[k.val]? = some (.int .u32 (wi (t.list.getD k.val 0))) := by
    intro k
    match k with
    | ⟨0, _⟩ => rfl
    | ⟨1, _⟩ => rfl
    | ⟨2, _⟩ => rfl
    | ⟨3, _⟩ => rfl
    | ⟨4, _⟩ => rfl
    | ⟨5, _⟩ => rfl
    | ⟨6, _⟩ => rfl
    | ⟨7, _⟩ => rfl
  exact this ⟨k, hk⟩
end Go.Proofs.YtdgedhaiefingaaDoor
