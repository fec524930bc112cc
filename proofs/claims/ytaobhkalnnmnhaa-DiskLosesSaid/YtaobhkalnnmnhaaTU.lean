/-
  Package tree: above.
  Package tree: Root, Leaf.
-/
import Derived.Test.YtaobhkalnnmnhaaTG
import Derived.Test.YtaobhkalnnmnhaaSD
import Derived.Test.YtaobhkalnnmnhaaSA
namespace Go.Proofs.Ytaobhkalnnmnhaa
open Go.RowKit

theorem abw_size {k : Nat} {R : List (List UInt8)} (h : AllD R) (hk : k ≤ R.length) : ((R.take k).flatten.map bv ++ zerosD ((R.length - k) * 32)).toArray.size = R.length * 32 := by
  have := (h.take k).flat
  rw [List.length_take] at this
  unfold zerosD
  rw [List.size_toArray, List.length_append, List.length_map, List.length_replicate, this]
  omega
end Go.Proofs.Ytaobhkalnnmnhaa

namespace Go.Proofs.Ytaobhkalnnmnhaa
open Go.RowKit

/-- The root of digests' rows. -/
def rootT (ds : List (List UInt8)) : List UInt8 := top pT (shaOf []) ds
theorem rootT_len : ∀ (N : Nat) (ds : List (List UInt8)), ds.length ≤ N → AllD ds → (rootT ds).length = 32
  | 0, ds, hN, _ => by
    unfold rootT
    rw [top_one pT _ (by omega), List.getD_eq_getElem?_getD, List.getElem?_eq_none (by omega)]
    rfl
  | N + 1, ds, hN, h => by
    unfold rootT
    by_cases hl : ds.length ≤ 1
    · rw [top_one pT _ hl]
      rcases Nat.lt_or_ge 0 ds.length with hp | hp
      · exact h.get hp _
      · rw [List.getD_eq_getElem?_getD, List.getElem?_eq_none hp]
        rfl
    · rw [top_up pT _ (by omega)]
      exact rootT_len N _ (by rw [up_length]; omega) h.up
theorem AllD.root {ds : List (List UInt8)} (h : AllD ds) : (rootT ds).length = 32 := rootT_len _ ds (Nat.le_refl _) h
end Go.Proofs.Ytaobhkalnnmnhaa
