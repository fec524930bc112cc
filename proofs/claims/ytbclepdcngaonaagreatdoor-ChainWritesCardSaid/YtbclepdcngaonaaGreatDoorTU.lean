/-
  Package tree: placed, beside, half, joined.
  Package tree: above.
  Package tree: Root, Leaf.
  Package tree: Leaf.
-/
import Derived.Test.YtbclepdcngaonaaGreatDoorTG
import Derived.Test.YtbclepdcngaonaaGreatDoorSD
namespace Go.Proofs.YtbclepdcngaonaaGreatDoor
open Go.RowKit

attribute [local go_sem ↓] ldDigest_def stDigest_def

set_option maxRecDepth 100000 in
theorem placed_any (x y : Int) (w : World) : Calls Tryz.prog 156 #[.int .i64 x, .int .i64 y] w fun e w' => e = .returned (.bool (decide (0 ≤ x) && decide (x < y))) ∧ w' = w := by
  by_cases h : 0 ≤ x
  · have h' : decide (0 ≤ x) = true := by simpa using h
    go_enter Tryz.func156, Tryz.ntmps156
    go_wp2
    go_ret
    exact ⟨by simp [h], rfl⟩
  · have h' : decide (0 ≤ x) = false := by simpa using h
    go_enter Tryz.func156, Tryz.ntmps156
    go_wp2
    go_ret
    exact ⟨by simp, rfl⟩

set_option maxRecDepth 100000 in
theorem beside_any (n : Nat) (hn : n < 9223372036854775808) (w : World) : Calls Tryz.prog 157 #[.int .i64 (n : Int)] w fun e w' => e = .returned (.int .i64 ((sib n : Nat) : Int)) ∧ w' = w := by
  have hx := xor_one n hn
  go_enter Tryz.func157, Tryz.ntmps157
  go_wp2
  go_ret
  exact ⟨rfl, rfl⟩

set_option maxRecDepth 100000 in
theorem half_any (n : Nat) (hn : n < 9223372036854775808) (w : World) : Calls Tryz.prog 159 #[.int .i64 (n : Int)] w fun e w' => e = .returned (.int .i64 (((n + 1) / 2 : Nat) : Int)) ∧ w' = w := by
  go_enter Tryz.func159, Tryz.ntmps159
  go_wp2
  go_ret
  exact ⟨ret_val (congrArg (Value.int .i64) (by omega)), rfl⟩

set_option maxRecDepth 100000 in
set_option maxHeartbeats 1000000 in
theorem tjoined_any (n : Nat) (a b : List UInt8) (ha : a.length = 32) (hb : b.length = 32) (w : World) (hR : Roots w) :
    Calls Tryz.prog 158 #[.int .i64 (n : Int), .agg (a.map bv).toArray, .agg (b.map bv).toArray] w fun e w' => e = .returned (.agg ((meet pT n a b).map bv).toArray) ∧ Below w.heap.size w w' := by
  have hF0 : Below w.heap.size w (((w.alloc (.cells (a.map bv).toArray 29)).alloc (.cells (b.map bv).toArray 29)).alloc (.cells (List.replicate 32 (Value.int .u8 0)).toArray 29)) := (((Below.refl _ _).alloc (Nat.le_refl _) _).alloc (by simp) _).alloc (by simp; omega) _
  have hA : Box (((w.alloc (.cells (a.map bv).toArray 29)).alloc (.cells (b.map bv).toArray 29)).alloc (.cells (List.replicate 32 (Value.int .u8 0)).toArray 29)) w.heap.size 29 (a.map bv).toArray := ((Box.made w _ _).alloc _).alloc _
  have hB : Box (((w.alloc (.cells (a.map bv).toArray 29)).alloc (.cells (b.map bv).toArray 29)).alloc (.cells (List.replicate 32 (Value.int .u8 0)).toArray 29)) (w.heap.size + 1) 29 (b.map bv).toArray := (Box.made_at (by simp) _ _).alloc _
  have hO : Box (((w.alloc (.cells (a.map bv).toArray 29)).alloc (.cells (b.map bv).toArray 29)).alloc (.cells (List.replicate 32 (Value.int .u8 0)).toArray 29)) (w.heap.size + 1 + 1) 29 (List.replicate 32 (Value.int .u8 0)).toArray := Box.made_at (by simp) _ _
  have HP := Lib.hid (pair_any 1 a b ha hb _ (hR.of_below hF0))
  have HP2 := Lib.hid (pair_any 1 b a hb ha _ (hR.of_below hF0))
  have lA := hA.load_digest ha
  have lB := hB.load_digest hb
  have HF := Lib.hid hF0
  have HO := Lib.hid hO
  clear hA hB hF0 hO
  go_enter Tryz.func158, Tryz.ntmps158
  go_upto_region 1 with fail
  change Code.wp _ _ _ _ (((w.alloc (.cells (a.map bv).toArray 29)).alloc (.cells (b.map bv).toArray 29)).alloc (.cells (List.replicate 32 (Value.int .u8 0)).toArray 29))
  generalize (((w.alloc (.cells (a.map bv).toArray 29)).alloc (.cells (b.map bv).toArray 29)).alloc (.cells (List.replicate 32 (Value.int .u8 0)).toArray 29)) = w1 at *
  by_cases h : n % 2 = 0
  · have h' : decide ((n : Int) % 2 = 0) = true := by simp; omega
    go_wp2_with (go_at_call 163; refine (HP.out).mono ?_; rintro e w2 ⟨rfl, hb1⟩; have HO1 := Lib.hid (HO.out.below hb1 HO.out.lt); have HF1 := Lib.hid (HF.out.trans (hb1.mono HF.out.size)); have sO := HO1.out.store_digest rfl (shaOf (1 :: (a ++ b))) rfl; clear hb1)
    refine bodyPost_ret (v := .agg ((shaOf (1 :: (a ++ b))).map bv).toArray) (results_cell_row rfl _ _ (w.heap.size + 1 + 1) 29 ((shaOf (1 :: (a ++ b))).map bv).toArray (0, 0) _ rfl (HO1.out.cells_all _ rfl) Tryz.underlying29 rfl (dig_size _ rfl)) rfl ⟨?_, below_cells HF1.out (by omega) HF1.out.size _ _⟩
    unfold meet
    rw [if_pos h]
    rfl
  · have h' : decide ((n : Int) % 2 = 0) = false := by simp; omega
    go_wp2_with (go_at_call 163; refine (HP2.out).mono ?_; rintro e w2 ⟨rfl, hb1⟩; have HO1 := Lib.hid (HO.out.below hb1 HO.out.lt); have HF1 := Lib.hid (HF.out.trans (hb1.mono HF.out.size)); have sO := HO1.out.store_digest rfl (shaOf (1 :: (b ++ a))) rfl; clear hb1)
    refine bodyPost_ret (v := .agg ((shaOf (1 :: (b ++ a))).map bv).toArray) (results_cell_row rfl _ _ (w.heap.size + 1 + 1) 29 ((shaOf (1 :: (b ++ a))).map bv).toArray (0, 0) _ rfl (HO1.out.cells_all _ rfl) Tryz.underlying29 rfl (dig_size _ rfl)) rfl ⟨?_, below_cells HF1.out (by omega) HF1.out.size _ _⟩
    unfold meet
    rw [if_neg h]
    rfl
end Go.Proofs.YtbclepdcngaonaaGreatDoor

namespace Go.Proofs.YtbclepdcngaonaaGreatDoor
open Go.RowKit

attribute [local go_sem ↓] ldDigest_def stDigest_def

/-- What the walk of above carries of memory. -/
structure AbW (w0 : World) (g : Nat) (R : List (List UInt8)) (k : Nat) (w : World) : Prop where
  box : Box w g 29 ((R.take k).flatten.map bv ++ zerosD ((R.length - k) * 32)).toArray
  far : Below w0.heap.size w0 w
  high : w0.heap.size ≤ g
  low : g < w.heap.size
theorem AbW.drew {w0 w : World} {g k : Nat} {R : List (List UInt8)} (h : AbW w0 g R k w) : AbW w0 g R k w.drew := ⟨h.box, h.far.drew, h.high, h.low⟩
theorem AbW.call {w0 w w' : World} {g k : Nat} {R : List (List UInt8)} (h : AbW w0 g R k w) (hb : Below w.heap.size w w') : AbW w0 g R k w' := ⟨h.box.below hb h.low, h.far.trans (hb.mono h.far.size), h.high, Nat.lt_of_lt_of_le h.low hb.size⟩
theorem AbW.put {w0 w : World} {g k : Nat} {R : List (List UInt8)} (h : AbW w0 g R k w) (ha : AllD R) (hk : k < R.length) : AbW w0 g R (k + 1) (w.setCells g (k * 32) ((R.getD k []).map bv)) := by
  have hf := (ha.take k).flat
  rw [List.length_take] at hf
  have hb := h.box
  have e : zerosD ((R.length - k) * 32) = zerosD 32 ++ zerosD ((R.length - (k + 1)) * 32) := by
    unfold zerosD
    rw [List.replicate_append_replicate]
    congr 1
    omega
  rw [e] at hb
  have hp := hb.put_mid (o := k * 32) (vs := (R.getD k []).map bv) (by rw [List.length_map, hf]; omega) (by rw [List.length_map, ha.get hk []]; unfold zerosD; rw [List.length_replicate])
  have e2 : (R.take k).flatten.map bv ++ ((R.getD k []).map bv ++ zerosD ((R.length - (k + 1)) * 32)) = (R.take (k + 1)).flatten.map bv ++ zerosD ((R.length - (k + 1)) * 32) := by
    rw [List.take_succ_eq_append_getElem hk, List.flatten_append, List.map_append, List.append_assoc, List.getD_eq_getElem?_getD, List.getElem?_eq_getElem hk]
    simp
  rw [e2] at hp
  have hh := h.high
  have hl := h.low
  have hg := only_cells (g := g) ((R.getD k []).map bv) (k * 32) w
  exact ⟨hp, below_cells h.far h.high h.far.size _ _, hh, Nat.lt_of_lt_of_le hl hg.size⟩

end Go.Proofs.YtbclepdcngaonaaGreatDoor

namespace Go.Proofs.YtbclepdcngaonaaGreatDoor
open Go.RowKit

attribute [local go_sem ↓] ldDigest_def stDigest_def

/-- The root of digests' rows. -/
def rootT (ds : List (List UInt8)) : List UInt8 := top pT (shaOf []) ds
theorem rootT_len : ∀ (N : Nat) (ds : List (List UInt8)), ds.length ≤ N → AllD ds → (rootT ds).length = 32
  | 0, ds, hN, _ => by
    unfold rootT
    rw [top_one pT _ (by omega), List.getD_eq_getElem?_getD, List.getElem?_eq_none (by omega)]
    rfl
  | N + 1, ds, hN, h => by
    unfold rootT
    by_cases hl : ds.length ≤ 1
    · rw [top_one pT _ hl]
      rcases Nat.lt_or_ge 0 ds.length with hp | hp
      · exact h.get hp _
      · rw [List.getD_eq_getElem?_getD, List.getElem?_eq_none hp]
        rfl
    · rw [top_up pT _ (by omega)]
      exact rootT_len N _ (by rw [up_length]; omega) h.up
theorem AllD.root {ds : List (List UInt8)} (h : AllD ds) : (rootT ds).length = 32 := rootT_len _ ds (Nat.le_refl _) h
end Go.Proofs.YtbclepdcngaonaaGreatDoor

namespace Go.Proofs.YtbclepdcngaonaaGreatDoor
open Go.RowKit

attribute [local go_sem ↓] ldDigest_def stDigest_def

set_option maxRecDepth 100000 in
set_option maxHeartbeats 1000000 in
theorem leaf_any (l : List UInt8) (A : Option Addr) (c : Nat) (w : World) (hS : Sees w w.heap.size A (l.map bv)) (hc : l.length ≤ c) (hm : c ≤ maxLen) (hl : l.length ≤ 1099511627776) (hR : Roots w) :
    Calls Tryz.prog 160 #[.slice A l.length c] w fun e w' => e = .returned (.agg ((shaOf (0 :: l)).map bv).toArray) ∧ Below w.heap.size w w' := by
  have hF0 : Below w.heap.size w (w.alloc (.cells (zerosD 32).toArray 29)) := (Below.refl _ _).alloc (Nat.le_refl _) _
  have HW0 : Hid (RtW w (w.alloc (.cells (zerosD 32).toArray 29))) := ⟨Box.made w _ _, hF0⟩
  have hS1 := (hS.below hF0).more hF0.size
  have hR1 := hR.of_below hF0
  go_enter Tryz.func160, Tryz.ntmps160
  go_upto_region 1 with fail
  change Code.wp _ _ _ _ (w.alloc (.cells (zerosD 32).toArray 29))
  generalize w.alloc (.cells (zerosD 32).toArray 29) = w1 at *
  have hB0 : Box ((w1.alloc (.cells #[bv 0] 5)).alloc (.cells #[.slice (some ⟨w1.heap.size, 0, none⟩) 1 1, .slice A l.length c] 45)) w1.heap.size 5 #[bv 0] := (Box.made w1 _ _).alloc _
  have hB1 : Box ((w1.alloc (.cells #[bv 0] 5)).alloc (.cells #[.slice (some ⟨w1.heap.size, 0, none⟩) 1 1, .slice A l.length c] 45)) (w1.heap.size + 1) 45 #[.slice (some ⟨w1.heap.size, 0, none⟩) 1 1, .slice A l.length c] := Box.made_at (by simp) _ _
  have hF2 : Below w1.heap.size w1 ((w1.alloc (.cells #[bv 0] 5)).alloc (.cells #[.slice (some ⟨w1.heap.size, 0, none⟩) 1 1, .slice A l.length c] 45)) := ((Below.refl _ _).alloc (Nat.le_refl _) _).alloc (by simp) _
  have hP := Pieces.two (p := [0]) (q := l) hB1 hB1.lt (Nat.le_refl 1) (by simp [maxLen]) (Sees.of_box hB0 hB0.lt) hc hm ((hS1.below hF2).more hF2.size)
  have hof := of_any [[0], l] (some ⟨w1.heap.size + 1, 0, none⟩) 2 _ hP (by simp) (by simp; omega) (hR1.of_below hF2)
  have hfl : ([[0], l] : List (List UInt8)).flatten = 0 :: l := by simp
  rw [hfl] at hof
  have HOF := Lib.hid hof
  have HF2 := Lib.hid hF2
  have hdl : (shaOf (0 :: l)).length = 32 := rfl
  generalize hd : shaOf (0 :: l) = d at *
  have HDE := Lib.hid hd
  clear hd hof hF2 hP hB0 hB1 hS hS1 hR hR1 hF0
  go_wp2_with (go_at_call 53; refine (HOF.out).mono ?_; rintro e w2 ⟨rfl, hb2⟩; have HW2 := Lib.hid (HW0.out.call (HF2.out.trans (hb2.mono HF2.out.size))); clear hb2; have hst := HW2.out.out.store_digest rfl d hdl)
  exact ret_dig rfl rfl rfl (HW2.out.out.cells_dig rfl hdl) hdl ⟨by rw [HDE.out], below_cells HW2.out.far (Nat.le_refl _) HW2.out.far.size _ _⟩
end Go.Proofs.YtbclepdcngaonaaGreatDoor
