/-
  A secret: once.secret.
  The document's secret and public half (wapentakeref04.Secret, Public).
-/
import Derived.Test.YtaobhkalnnmnhaaTG
import Derived.Test.YtaobhkalnnmnhaaSRef
import Derived.Test.YtaobhkalnnmnhaaSD
import Derived.Test.YtaobhkalnnmnhaaOB
import Derived.Test.YtaobhkalnnmnhaaWr
import Derived.Deep.RegionLawGrows
import Derived.Deep.RegionHeld3
import Derived.Test.YtaobhkalnnmnhaaOX
namespace Go.Proofs.Ytaobhkalnnmnhaa
open Go.RowKit

/-- What Bytes answers. -/
def BytesIs (w : World) (bs : List UInt8) (e : Ending) (w' : World) : Prop := ∃ A c, e = .returned (.slice A bs.length c) ∧ bs.length ≤ c ∧ c ≤ maxLen ∧ Sees w' w'.heap.size A (bs.map bv) ∧ Below w.heap.size w w'
theorem three_made {w : World} {t : TypeId} {b s bs : List UInt8} {g1 g2 c : Nat} {t1 t2 : TypeId} {A : Option Addr} (hb : Box w g1 t1 (b.map bv).toArray) (hs : Box w g2 t2 (s.map bv).toArray) (hbm : b.length ≤ 32) (hl : s.length = 32) (h : Sees w w.heap.size A (bs.map bv)) (hc : bs.length ≤ c) (hm : c ≤ maxLen) {n : Nat} (hn : w.heap.size = n) :
    Pieces (w.alloc (.cells #[.slice (some ⟨g1, 0, none⟩) b.length b.length, .slice (some ⟨g2, 0, none⟩) 32 32, .slice A bs.length c] t)) (w.alloc (.cells #[.slice (some ⟨g1, 0, none⟩) b.length b.length, .slice (some ⟨g2, 0, none⟩) 32 32, .slice A bs.length c] t)).heap.size (some ⟨n, 0, none⟩) [b, s, bs] := by
  subst hn
  have hF : Below w.heap.size w (w.alloc (.cells #[.slice (some ⟨g1, 0, none⟩) b.length b.length, .slice (some ⟨g2, 0, none⟩) 32 32, .slice A bs.length c] t)) := (Below.refl _ _).alloc (Nat.le_refl _) _
  have hB : Box (w.alloc (.cells #[.slice (some ⟨g1, 0, none⟩) b.length b.length, .slice (some ⟨g2, 0, none⟩) 32 32, .slice A bs.length c] t)) w.heap.size t #[.slice (some ⟨g1, 0, none⟩) b.length b.length, .slice (some ⟨g2, 0, none⟩) 32 32, .slice A bs.length c] := Box.made _ _ _
  exact Pieces.three (by rw [hl]; exact hB) hB.lt (Nat.le_refl _) (by unfold maxLen; omega) (Sees.of_box (hb.below hF hb.lt) (hb.below hF hb.lt).lt) (by omega) (by simp [maxLen]) (Sees.of_box (hs.below hF hs.lt) (hs.below hF hs.lt).lt) hc hm ((h.below hF).more hF.size)

end Go.Proofs.Ytaobhkalnnmnhaa

namespace Go.Proofs.Ytaobhkalnnmnhaa
open Go.RowKit

/-- The digests of the secrets ahead of k, one behind the other. -/
def rowT (seed : List UInt8) (leaf : Int) (k : Nat) : List UInt8 := (List.range k).flatMap fun j => shaOf (secT seed leaf j)
theorem rowT_succ (seed : List UInt8) (leaf : Int) (k : Nat) : rowT seed leaf (k + 1) = rowT seed leaf k ++ shaOf (secT seed leaf k) := by
  unfold rowT
  rw [List.range_succ, List.flatMap_append]
  simp
theorem rowT_len (seed : List UInt8) (leaf : Int) : ∀ k, (rowT seed leaf k).length = 32 * k
  | 0 => rfl
  | k + 1 => by
    rw [rowT_succ, List.length_append, rowT_len seed leaf k, sha_len]
    omega

end Go.Proofs.Ytaobhkalnnmnhaa
