/-
  Package tree: above.
  Package tree: Root, Leaf.
-/
import Derived.Test.YtapdnoellleimaaDoorTG
import Derived.Test.YtapdnoellleimaaDoorSD
import Derived.Test.YtapdnoellleimaaDoorSA
namespace Go.Proofs.YtapdnoellleimaaDoor
open Go.RowKit

attribute [local go_sem ↓] ldDigest_def stDigest_def

/-- What the walk of above carries of memory. -/
structure AbW (w0 : World) (g : Nat) (R : List (List UInt8)) (k : Nat) (w : World) : Prop where
  box : Box w g 89 ((R.take k).flatten.map bv ++ zerosD ((R.length - k) * 32)).toArray
  far : Below w0.heap.size w0 w
  high : w0.heap.size ≤ g
  low : g < w.heap.size
theorem AbW.drew {w0 w : World} {g k : Nat} {R : List (List UInt8)} (h : AbW w0 g R k w) : AbW w0 g R k w.drew := ⟨h.box, h.far.drew, h.high, h.low⟩
theorem AbW.call {w0 w w' : World} {g k : Nat} {R : List (List UInt8)} (h : AbW w0 g R k w) (hb : Below w.heap.size w w') : AbW w0 g R k w' := ⟨h.box.below hb h.low, h.far.trans (hb.mono h.far.size), h.high, Nat.lt_of_lt_of_le h.low hb.size⟩
theorem abw_size {k : Nat} {R : List (List UInt8)} (h : AllD R) (hk : k ≤ R.length) : ((R.take k).flatten.map bv ++ zerosD ((R.length - k) * 32)).toArray.size = R.length * 32 := by
  have := (h.take k).flat
  rw [List.length_take] at this
  unfold zerosD
  rw [List.size_toArray, List.length_append, List.length_map, List.length_replicate, this]
  omega
theorem AbW.put {w0 w : World} {g k : Nat} {R : List (List UInt8)} (h : AbW w0 g R k w) (ha : AllD R) (hk : k < R.length) : AbW w0 g R (k + 1) (w.setCells g (k * 32) ((R.getD k []).map bv)) := by
  have hf := (ha.take k).flat
  rw [List.length_take] at hf
  have hb := h.box
  have e : zerosD ((R.length - k) * 32) = zerosD 32 ++ zerosD ((R.length - (k + 1)) * 32) := by
    unfold zerosD
    rw [List.replicate_append_replicate]
    congr 1
    omega
  rw [e] at hb
  have hp := hb.put_mid (o := k * 32) (vs := (R.getD k []).map bv) (by rw [List.length_map, hf]; omega) (by rw [List.length_map, ha.get hk []]; unfold zerosD; rw [List.length_replicate])
  have e2 : (R.take k).flatten.map bv ++ ((R.getD k []).map bv ++ zerosD ((R.length - (k + 1)) * 32)) = (R.take (k + 1)).flatten.map bv ++ zerosD ((R.length - (k + 1)) * 32) := by
    rw [List.take_succ_eq_append_getElem hk, List.flatten_append, List.map_append, List.append_assoc, List.getD_eq_getElem?_getD, List.getElem?_eq_getElem hk]
    simp
  rw [e2] at hp
  have hh := h.high
  have hl := h.low
  have hg := only_cells (g := g) ((R.getD k []).map bv) (k * 32) w
  exact ⟨hp, below_cells h.far h.high h.far.size _ _, hh, Nat.lt_of_lt_of_le hl hg.size⟩

end Go.Proofs.YtapdnoellleimaaDoor

namespace Go.Proofs.YtapdnoellleimaaDoor
open Go.RowKit

attribute [local go_sem ↓] ldDigest_def stDigest_def

/-- The root of digests' rows. -/
def rootT (ds : List (List UInt8)) : List UInt8 := top pT (shaOf []) ds
theorem rootT_len : ∀ (N : Nat) (ds : List (List UInt8)), ds.length ≤ N → AllD ds → (rootT ds).length = 32
  | 0, ds, hN, _ => by
    unfold rootT
    rw [top_one pT _ (by omega), List.getD_eq_getElem?_getD, List.getElem?_eq_none (by omega)]
    rfl
  | N + 1, ds, hN, h => by
    unfold rootT
    by_cases hl : ds.length ≤ 1
    · rw [top_one pT _ hl]
      rcases Nat.lt_or_ge 0 ds.length with hp | hp
      · exact h.get hp _
      · rw [List.getD_eq_getElem?_getD, List.getElem?_eq_none hp]
        rfl
    · rw [top_up pT _ (by omega)]
      exact rootT_len N _ (by rw [up_length]; omega) h.up
theorem AllD.root {ds : List (List UInt8)} (h : AllD ds) : (rootT ds).length = 32 := rootT_len _ ds (Nat.le_refl _) h
end Go.Proofs.YtapdnoellleimaaDoor
