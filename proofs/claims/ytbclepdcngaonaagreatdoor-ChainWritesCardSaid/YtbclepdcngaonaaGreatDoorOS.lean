/-
  A signature is made: once.Sign.
  The document's signature (wapentakeref04.Sign).
-/
import Derived.Test.YtbclepdcngaonaaGreatDoorOB
import Derived.Test.YtbclepdcngaonaaGreatDoorOC
import Derived.Deep.DeepCutAuto
import Derived.Test.YtbclepdcngaonaaGreatDoorOX
import Derived.Test.YtbclepdcngaonaaGreatDoorTG
import Derived.Deep.AppendLies
import Derived.Deep.RegionHeld3
namespace Go.Proofs.YtbclepdcngaonaaGreatDoor
open Go.RowKit

attribute [local go_sem ↓] ldDigest_def stDigest_def

theorem SgW.start {w1 w : World} {a g h : Nat} {X Y : List (List UInt8)} {Z : Array Value} (b1 : Box w a 70 (onceV g h 32 32)) (b2 : Box w g 29 Z) (b3 : Box w h 29 Z) (hB : Below w1.heap.size w1 w) (ha : w1.heap.size ≤ a) (hg : w1.heap.size ≤ g) (hh : w1.heap.size ≤ h) (hne : g ≠ h)
    (hX : X.length = 32) (hY : Y.length = 32) (hZ : (zerosD 1024).toArray = Z) : SgW w1 a g h X Y 0 0 w :=
  ⟨b1, by rw [fillD_zero, hX]; show Box _ _ _ (zerosD 1024).toArray; rw [hZ]; exact b2, by rw [fillD_zero, hY]; show Box _ _ _ (zerosD 1024).toArray; rw [hZ]; exact b3, hB, ha, hg, hh, hne⟩

end Go.Proofs.YtbclepdcngaonaaGreatDoor

namespace Go.Proofs.YtbclepdcngaonaaGreatDoor
open Go.RowKit

attribute [local go_sem ↓] ldDigest_def bsAll_def apAll_def

/-- One digest more, as the frozen append answers, and where the row lies then. -/
theorem push_lies {w : World} {base n : Nat} {v : Value} {ps : List (List UInt8)} (hn : n = ps.length) (hown : w.ownsRow base 29 32 v n (ps.flatten.map bv)) {b : Nat} {t : TypeId} {x : List UInt8} (hx : x.length = 32) (hb : Box w b t (x.map bv).toArray) (hle : n + 1 ≤ 1099511627776) (hbase : base ≤ w.heap.size) :
    ∃ g cap w', (apAll #[68, 68] 68 #[v, .slice (some ⟨b, 0, none⟩) 1 1]).run Tryz.prog w = .ok (.slice (some ⟨g, 0, none⟩) (n + 1) cap) w' ∧ w'.ownsRow base 29 32 (.slice (some ⟨g, 0, none⟩) (n + 1) cap) (n + 1) ((ps ++ [x]).flatten.map bv) ∧ w.grownBy w' v.ownBlock ∧ (v.ownBlock = some g ∨ g = w.heap.size) := by
  obtain ⟨i0, hi0, hz0, hz1, hz2⟩ := info_parts dig_info3
  obtain ⟨g, cap, w', hr, ho, hg, hat, _⟩ := run_append_lies (P := Tryz.prog) w 68 68 base 29 i0 _ 32 32 Tryz.underlying68 hi0 hz0 hz1 hz2 rfl (by omega) v n _ hown ⟨b, 0, none⟩ 1 1 (x.map bv) (by rw [List.length_map, hx]) (fun j u hu => by rw [plain_add, Nat.zero_add, hb.cell, List.getElem?_toArray]; exact hu) (bv_one _) (by omega) (by unfold maxLen; omega) (by omega) hbase w.heap.size rfl
  refine ⟨g, cap, w', hr, ?_, hg, hat⟩
  rw [List.flatten_append, List.map_append]
  simpa using ho

/-- What the walk of the document's Sign carries of memory. -/
structure RsW (w1 : World) (a : Nat) (X Y : List (List UInt8)) (k l : Nat) (v u : Value) (w : World) : Prop where
  box : Box w a 70 #[v, u]
  op : w.ownsRow w1.heap.size 29 32 v k ((X.take k).flatten.map bv)
  sh : w.ownsRow w1.heap.size 29 32 u l ((Y.take l).flatten.map bv)
  far : Below w1.heap.size w1 w
  ha : w1.heap.size ≤ a
  ne : ∀ g, v.ownBlock = some g → u.ownBlock ≠ some g
theorem RsW.call {w1 w w' : World} {a : Nat} {X Y : List (List UInt8)} {k l : Nat} {v u : Value} (s : RsW w1 a X Y k l v u w) (hb : Below w.heap.size w w') : RsW w1 a X Y k l v u w' :=
  ⟨s.box.below hb s.box.lt, World.ownsRow.kept s.op (only_below hb none) (by cases v.ownBlock <;> simp), World.ownsRow.kept s.sh (only_below hb none) (by cases u.ownBlock <;> simp), s.far.trans (hb.mono s.far.size), s.ha, s.ne⟩
theorem RsW.cells {w1 w : World} {a : Nat} {X Y : List (List UInt8)} {k l : Nat} {v u : Value} (s : RsW w1 a X Y k l v u w) : w.cell? ⟨a, 0, none⟩ = some v ∧ w.cell? ⟨a, 1, none⟩ = some u := ⟨s.box.cell 0, s.box.cell 1⟩

end Go.Proofs.YtbclepdcngaonaaGreatDoor
