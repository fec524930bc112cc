/-
  Signatures compared (wapentakeref04.Same), digests compared at a step of a drawn region.
  A secret: once.secret.
-/
import Derived.Test.YtbclepdcngaonaaGreatDoorTG
import Derived.Test.YtbclepdcngaonaaGreatDoorOB
import Derived.Test.YtbclepdcngaonaaGreatDoorWr
import Derived.Deep.RegionHeld3
namespace Go.Proofs.YtbclepdcngaonaaGreatDoor
open Go.RowKit

/-- Digests compared, kept whole while a region is walked. -/
noncomputable def eqDigest (a b : Value) : Sem Bool := Op.equalIn 10000 29 a b
theorem eqDigest_def (a b : Value) : Op.equalIn 10000 29 a b = eqDigest a b := rfl
theorem eq_digest (xs ys : List UInt8) (h1 : xs.length = 32) (h2 : ys.length = 32) (w : World) : (eqDigest (.agg (xs.map bv).toArray) (.agg (ys.map bv).toArray)).run Tryz.prog w = .ok (decide (xs = ys)) w := dig_eq xs ys h1 h2 w

section
attribute [local go_sem ↓] eqDigest_def
end

set_option maxRecDepth 100000 in
set_option maxHeartbeats 1000000 in
theorem rsame_any (xs ys xs' ys' : List (List UInt8)) (A B A' B' : Option Addr) (c d c' d' : Nat) (w : World) (hA : Digs w w.heap.size A xs) (hB : Digs w w.heap.size B ys) (hA' : Digs w w.heap.size A' xs') (hB' : Digs w w.heap.size B' ys') (hn : xs.length ≤ 1099511627776) (hm : ys.length ≤ 1099511627776) :
    Calls Tryz.prog 132 #[.agg #[.slice A xs.length c, .slice B ys.length d], .agg #[.slice A' xs'.length c', .slice B' ys'.length d']] w fun e w' => e = .returned (.bool (decide (xs = xs') && decide (ys = ys'))) ∧ Below w.heap.size w w' := by
  obtain ⟨w1, hw1⟩ : ∃ w1, w1 = (w.alloc (.cells #[.slice A xs.length c, .slice B ys.length d] 70)).alloc (.cells #[.slice A' xs'.length c', .slice B' ys'.length d'] 70) := ⟨_, rfl⟩
  have HX : Hid (Box w1 w.heap.size 70 #[.slice A xs.length c, .slice B ys.length d]) := by
    rw [hw1]
    exact (Box.made w _ _).alloc _
  have HY : Hid (Box w1 (w.heap.size + 1) 70 #[.slice A' xs'.length c', .slice B' ys'.length d']) := by
    rw [hw1]
    exact Box.made_at (by simp) _ _
  have HF : Hid (Below w.heap.size w w1) := by
    rw [hw1]
    exact ((Below.refl _ _).alloc (Nat.le_refl _) _).alloc (by simp) _
  have HS1 : Hid (∀ w', Below w1.heap.size w1 w' → Calls Tryz.prog 133 #[.slice A xs.length c, .slice A' xs'.length c'] w' fun e w'' => e = .returned (.bool (decide (xs = xs'))) ∧ Below w'.heap.size w' w'') := fun w' hb => same_any xs xs' A A' c c' w' ((hA.far HF.out).far hb) ((hA'.far HF.out).far hb) hn
  have HS2 : Hid (∀ w', Below w1.heap.size w1 w' → Calls Tryz.prog 133 #[.slice B ys.length d, .slice B' ys'.length d'] w' fun e w'' => e = .returned (.bool (decide (ys = ys'))) ∧ Below w'.heap.size w' w'') := fun w' hb => same_any ys ys' B B' d d' w' ((hB.far HF.out).far hb) ((hB'.far HF.out).far hb) hm
  have c0 := HX.out.cell 0
  have c2 := HY.out.cell 0
  simp only [List.getElem?_toArray, List.getElem?_cons_zero] at c0 c2
  clear hA hB hA' hB' hn hm
  generalize decide (xs = xs') = p at *
  generalize decide (ys = ys') = q at *
  go_enter Tryz.func132, Tryz.ntmps132
  go_upto_region 1 with fail
  change Code.wp _ _ _ _ ((w.alloc (.cells #[.slice A xs.length c, .slice B ys.length d] 70)).alloc (.cells #[.slice A' xs'.length c', .slice B' ys'.length d'] 70))
  rw [← hw1]
  clear hw1
  rcases p with _ | _
  · go_wp2_with (go_at_call 133; (with_reducible refine (HS1.out _ (Below.refl _ _)).mono ?_); rintro e w2 ⟨rfl, hb⟩; have HB2 := Lib.hid hb; clear hb)
    go_ret
    exact ⟨rfl, HF.out.trans (HB2.out.mono HF.out.size)⟩
  · go_wp2_with (first
      | (go_at_call 133; (with_reducible refine (HS1.out w1 (Below.refl _ _)).mono ?_); rintro e w2 ⟨rfl, hb⟩; have HB2 := Lib.hid hb; have c1 := (HX.out.below hb HX.out.lt).cell 1; have c3 := (HY.out.below hb HY.out.lt).cell 1; clear hb; simp only [List.getElem?_toArray, List.getElem?_cons_zero, List.getElem?_cons_succ] at c1 c3)
      | (go_at_call 133; (with_reducible refine (HS2.out _ HB2.out).mono ?_); rintro e w3 ⟨rfl, hb⟩; have HB3 := Lib.hid (HB2.out.trans (hb.mono HB2.out.size)); clear hb))
    go_ret
    exact ⟨rfl, HF.out.trans (HB3.out.mono HF.out.size)⟩
end Go.Proofs.YtbclepdcngaonaaGreatDoor

namespace Go.Proofs.YtbclepdcngaonaaGreatDoor
open Go.RowKit

attribute [local go_sem ↓] ldDigest_def stDigest_def

/-- What Bytes answers. -/
def BytesIs (w : World) (bs : List UInt8) (e : Ending) (w' : World) : Prop := ∃ A c, e = .returned (.slice A bs.length c) ∧ bs.length ≤ c ∧ c ≤ maxLen ∧ Sees w' w'.heap.size A (bs.map bv) ∧ Below w.heap.size w w'
theorem bytes_any (base a : Nat) (bs : List UInt8) (w : World) (h : Wr w base a bs) (hb : bs.length ≤ 70368744177664) :
    Calls Tryz.prog 14 #[.pointer (some ⟨a, 0, none⟩)] w (BytesIs w bs) :=
  (wbytes_any base a bs w h hb).mono fun e w' ⟨A, c, he, hc, ho, hB⟩ => by
    refine ⟨A, c, he, ?_, hc, ?_, hB⟩
    · rcases ho with rfl | ho
      · exact Nat.zero_le _
      · rcases ho.2 with ⟨h1, h2⟩ | ⟨g, cap, cur, h1, _, _, hn, _⟩
        · rw [h2]
          exact Nat.zero_le _
        · injection h1 with _ _ e3
          rw [e3]
          exact hn
    · rcases ho with rfl | ho
      · exact Sees.empty _ _ _
      · exact Sees.of_own ho
theorem wr_new {w : World} {base a : Nat} (ha : Box w a 48 #[.slice none 0 0]) (hba : base ≤ a) : Wr w base a [] :=
  ⟨hba, Nat.le_trans hba (Nat.le_of_lt ha.lt), .slice none 0 0, ha, rfl, .inl ⟨rfl, rfl⟩⟩

end Go.Proofs.YtbclepdcngaonaaGreatDoor
