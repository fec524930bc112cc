/-
  Layer 2's memory: bytes and words as cells, the schedule's array while it is filled, regions that only read up to a forced end.
-/
import Derived.Test.YtdgedhaiefingaaDoorSTurn
import Derived.IntWalk
import Derived.StillTailTactics
import Derived.Deep.QuietTactic
import Derived.BigQuiet
import Derived.Laws.Rows
import Derived.Deep.DeepCutAuto
import Derived.Deep.CutBlock
namespace Go.Proofs.YtdgedhaiefingaaDoor
open Go.RowKit

theorem bytes_get {b : List UInt8} {i : Nat} (h : i < b.length) : (b.map bv).toArray[i]? = some (bv (b.getD i 0)) := by
  simp [List.getD_eq_getElem?_getD, h]
theorem oneB {w : World} {g : Nat} {t : TypeId} {b : List UInt8} (hw : Box w g t (b.map bv).toArray) (i : Nat) (h : i < b.length) : w.cell? ⟨g, i, none⟩ = some (.int .u8 ((b.getD i 0).toNat : Int)) := by
  rw [hw.cell, bytes_get h]
  rfl

theorem Box.made_at {w : World} {g : Nat} (h : w.heap.size = g) (t : TypeId) (cs : Array Value) : Box (w.alloc (.cells cs t)) g t cs := by
  subst h
  exact Box.made w t cs
def cellsW (b : List UInt8) (n : Nat) : Array Value := ((W b n ++ List.replicate (64 - n) 0).map wv).toArray
theorem cellsW_get (b : List UInt8) {n i : Nat} (h : i < n) : (cellsW b n)[i]? = some (.int .u32 (wi (wd b i))) := by
  unfold cellsW
  rw [List.getElem?_toArray, List.getElem?_map, List.getElem?_append_left (by rw [W_length]; exact h), W_get b n i h]
  rfl
theorem set_at {α : Type} (xs r : List α) (y z : α) (n : Nat) (h : xs.length = n) : (xs ++ y :: r).set n z = xs ++ z :: r := by
  subst h
  rw [List.set_append_right _ _ (Nat.le_refl _), Nat.sub_self, List.set_cons_zero]
theorem cellsW_put (b : List UInt8) {n : Nat} (h : n < 64) : (cellsW b n).setIfInBounds n (.int .u32 (wi (wd b n))) = cellsW b (n + 1) := by
  unfold cellsW
  have e : 64 - n = (64 - (n + 1)) + 1 := by omega
  apply Array.ext'
  rw [Array.toList_setIfInBounds, e, List.replicate_succ, W]
  simp only [List.map_append, List.map_cons, List.append_assoc, List.cons_append, List.nil_append]
  rw [set_at _ _ _ _ _ (by rw [List.length_map, W_length])]
  rfl
theorem cellsW_zero (b : List UInt8) : cellsW b 0 = (List.replicate 64 (Value.int .u32 0)).toArray := rfl

theorem wrap_u8_u32 (x : UInt8) : IntKind.u32.wrap (x.toNat : Int) = (x.toNat : Int) := by
  have := x.toNat_lt
  rw [IntKind.wrap_u32']
  omega
theorem put24 (x : UInt8) : IntKind.u32.wrap ((x.toNat : Int) * 16777216) = (x.toNat : Int) * 16777216 := by
  have := x.toNat_lt
  rw [IntKind.wrap_u32']
  omega
theorem put16 (x : UInt8) : IntKind.u32.wrap ((x.toNat : Int) * 65536) = (x.toNat : Int) * 65536 := by
  have := x.toNat_lt
  rw [IntKind.wrap_u32']
  omega
theorem put8 (x : UInt8) : IntKind.u32.wrap ((x.toNat : Int) * 256) = (x.toNat : Int) * 256 := by
  have := x.toNat_lt
  rw [IntKind.wrap_u32']
  omega
theorem or24 (x0 x1 : UInt8) : bits .or .u32 ((x0.toNat : Int) * 16777216) ((x1.toNat : Int) * 65536) = (x0.toNat : Int) * 16777216 + (x1.toNat : Int) * 65536 := by
  have h0 := x0.toNat_lt
  have h1 := x1.toNat_lt
  have e0 : (x0.toNat : Int) * 16777216 = ((x0.toNat * 16777216 : Nat) : Int) := by omega
  have e1 : (x1.toNat : Int) * 65536 = ((x1.toNat * 65536 : Nat) : Int) := by omega
  rw [e0, e1, u32_or_nat _ _ (by omega) (by omega), nat_join 24 _ _ (by omega) (by omega)]
  omega
theorem or16 (x0 x1 x2 : UInt8) : bits .or .u32 ((x0.toNat : Int) * 16777216 + (x1.toNat : Int) * 65536) ((x2.toNat : Int) * 256) = (x0.toNat : Int) * 16777216 + (x1.toNat : Int) * 65536 + (x2.toNat : Int) * 256 := by
  have h0 := x0.toNat_lt
  have h1 := x1.toNat_lt
  have h2 := x2.toNat_lt
  have e0 : (x0.toNat : Int) * 16777216 + (x1.toNat : Int) * 65536 = ((x0.toNat * 16777216 + x1.toNat * 65536 : Nat) : Int) := by omega
  have e1 : (x2.toNat : Int) * 256 = ((x2.toNat * 256 : Nat) : Int) := by omega
  rw [e0, e1, u32_or_nat _ _ (by omega) (by omega), nat_join 16 _ _ (by omega) (by omega)]
  omega
theorem or8 (x0 x1 x2 x3 : UInt8) : bits .or .u32 ((x0.toNat : Int) * 16777216 + (x1.toNat : Int) * 65536 + (x2.toNat : Int) * 256) (x3.toNat : Int) = wi (be32 x0 x1 x2 x3) := by
  have h0 := x0.toNat_lt
  have h1 := x1.toNat_lt
  have h2 := x2.toNat_lt
  have h3 := x3.toNat_lt
  have e0 : (x0.toNat : Int) * 16777216 + (x1.toNat : Int) * 65536 + (x2.toNat : Int) * 256 = ((x0.toNat * 16777216 + x1.toNat * 65536 + x2.toNat * 256 : Nat) : Int) := by omega
  rw [wi_be32, e0, u32_or_nat _ _ (by omega) (by omega), nat_join 8 _ _ (by omega) (by omega)]
  omega
theorem cellsW_size (b : List UInt8) {n : Nat} (h : n ≤ 64) : (cellsW b n).size = 64 := by
  unfold cellsW
  rw [List.size_toArray, List.length_map, List.length_append, W_length, List.length_replicate]
  omega
theorem cellsW_at (b : List UInt8) {n i : Nat} (h : n ≤ 64) (hi : i < 64) : ∃ v, (cellsW b n)[i]? = some v :=
  ⟨_, Array.getElem?_eq_getElem (by rw [cellsW_size b h]; exact hi)⟩

/-- A region whose operations only read, but for a forced tail, from one world that was drawn once. -/
theorem wp_still_tail {P : Program} {id : Nat} {Q : Exit → Act → World → Prop} {a : Act} {w : World} {l : List Oper} (n : Nat) (hm : P.follows .mixedOrders = true) (hB : Region.lexTailB .any l.toArray n = true)
    (h : ∀ w1, w1 = w.drew → wpStill P l.toArray w1 (fun a' => wpList P l.toArray Q (l.drop n) a' w1) (l.take n) a) : (Code.region id l.toArray true).wp P Q a w :=
  wp_region_still_tail n hm hB (h _ rfl)

theorem wv_one (l : List UInt32) : ∀ u ∈ l.map wv, u.oneCell' = true := by
  intro u hu
  obtain ⟨x, _, rfl⟩ := List.mem_map.1 hu
  rfl
theorem cellsW_one (b : List UInt8) (n : Nat) : ∀ v ∈ (cellsW b n).toList, v.oneCell' = true := wv_one _
theorem below_drewN {B : Nat} {w w' : World} (h : Below B w w') (n : Nat) : Below B w (w'.drewN n) := h.trans ⟨rfl, rfl, rfl, Nat.le_refl _, fun _ _ => rfl⟩
theorem wi_addw (x y : UInt32) : IntKind.u32.wrap (wi x + wi y) = wi (x + y) := by
  rw [IntKind.wrap_u32']
  exact wi_add x y
theorem shr3 (x : UInt32) : wi x / 8 = wi (shr x 3) := shr_div x 3
theorem shr10 (x : UInt32) : wi x / 1024 = wi (shr x 10) := shr_div x 10
end Go.Proofs.YtdgedhaiefingaaDoor
