/-
  A signature is made: once.Sign.
-/
import Derived.Test.YtbclepdcngaonaaGreatDoorOB
import Derived.Test.YtbclepdcngaonaaGreatDoorOC
import Derived.Deep.DeepCutAuto
namespace Go.Proofs.YtbclepdcngaonaaGreatDoor
open Go.RowKit

attribute [local go_sem ↓] ldDigest_def stDigest_def

theorem tri_made (w1 : World) (c1 c2 c3 : Array Value) (t1 t2 t3 : TypeId) : Box (((w1.alloc (.cells c1 t1)).alloc (.cells c2 t2)).alloc (.cells c3 t3)).drew w1.heap.size t1 c1 ∧ Box (((w1.alloc (.cells c1 t1)).alloc (.cells c2 t2)).alloc (.cells c3 t3)).drew (w1.heap.size + 1) t2 c2 ∧
    Box (((w1.alloc (.cells c1 t1)).alloc (.cells c2 t2)).alloc (.cells c3 t3)).drew (w1.heap.size + 1 + 1) t3 c3 ∧ Below w1.heap.size w1 (((w1.alloc (.cells c1 t1)).alloc (.cells c2 t2)).alloc (.cells c3 t3)).drew :=
  ⟨((Box.made w1 _ _).alloc _).alloc _, (Box.made_at (by simp) _ _).alloc _, Box.made_at (by simp) _ _, ((((Below.refl _ _).alloc (Nat.le_refl _) _).alloc (by simp) _).alloc (by simp; omega) _).drew⟩
theorem SgW.start {w1 w : World} {a g h : Nat} {X Y : List (List UInt8)} {Z : Array Value} (b1 : Box w a 70 (onceV g h 32 32)) (b2 : Box w g 29 Z) (b3 : Box w h 29 Z) (hB : Below w1.heap.size w1 w) (ha : w1.heap.size ≤ a) (hg : w1.heap.size ≤ g) (hh : w1.heap.size ≤ h) (hne : g ≠ h)
    (hX : X.length = 32) (hY : Y.length = 32) (hZ : (zerosD 1024).toArray = Z) : SgW w1 a g h X Y 0 0 w :=
  ⟨b1, by rw [fillD_zero, hX]; show Box _ _ _ (zerosD 1024).toArray; rw [hZ]; exact b2, by rw [fillD_zero, hY]; show Box _ _ _ (zerosD 1024).toArray; rw [hZ]; exact b3, hB, ha, hg, hh, hne⟩

end Go.Proofs.YtbclepdcngaonaaGreatDoor
