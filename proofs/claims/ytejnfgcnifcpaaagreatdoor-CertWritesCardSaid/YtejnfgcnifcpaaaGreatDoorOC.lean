/-
  Signatures compared (wapentakeref04.Same), digests compared at a step of a drawn region.
  A secret: once.secret.
  The document's secret and public half (wapentakeref04.Secret, Public).
-/
import Derived.Test.YtejnfgcnifcpaaaGreatDoorTG
import Derived.Test.YtejnfgcnifcpaaaGreatDoorOB
import Derived.Test.YtejnfgcnifcpaaaGreatDoorWr
import Derived.Deep.RegionHeld3
import Derived.Test.YtejnfgcnifcpaaaGreatDoorOX
namespace Go.Proofs.YtejnfgcnifcpaaaGreatDoor
open Go.RowKit

/-- Digests compared, kept whole while a region is walked. -/
noncomputable def eqDigest (a b : Value) : Sem Bool := Op.equalIn 10000 26 a b
theorem eqDigest_def (a b : Value) : Op.equalIn 10000 26 a b = eqDigest a b := rfl
theorem eq_digest (xs ys : List UInt8) (h1 : xs.length = 32) (h2 : ys.length = 32) (w : World) : (eqDigest (.agg (xs.map bv).toArray) (.agg (ys.map bv).toArray)).run Tryz.prog w = .ok (decide (xs = ys)) w := dig_eq xs ys h1 h2 w

section
attribute [local go_sem ↓] eqDigest_def
set_option maxRecDepth 100000 in
/-- Two digests compared, at a step of a region that draws its order. -/
theorem step_eq_dig {ops : Array Oper} {o : Oper} {a : Act} {w : World} {K : Act → World → Prop} {Q : Exit → Act → World → Prop} {E : Prop} (hgd : o.guard = none) (x y : Operand) (ho : o.op = .binOp .eql 26 x y 26)
    (p q : List UInt8) (hx : a.eval x = .agg (p.map bv).toArray) (hy : a.eval y = .agg (q.map bv).toArray) (hp : p.length = 32) (hq : q.length = 32) (h : K (a.put o.dst (.bool (decide (p = q)))) w) :
    if Region.wanted o (yielded ops a.tmps) = true then Oper.wp Tryz.prog o a w K Q else E := by
  have hw : Region.wanted o (yielded ops a.tmps) = true := by simp [Region.wanted, hgd]
  rw [if_pos hw]
  have he := eq_digest p q hp hq w
  unfold Oper.wp execOp
  simp only [ho, hx, hy]
  go_simp
  exact h
set_option maxRecDepth 100000 in
/-- The same where the operation is guarded, and wanted. -/
theorem step_eq_dig_if {o : Oper} {a : Act} {w : World} {K : Act → World → Prop} {Q : Exit → Act → World → Prop} (x y : Operand) (ho : o.op = .binOp .eql 26 x y 26)
    (p q : List UInt8) (hx : a.eval x = .agg (p.map bv).toArray) (hy : a.eval y = .agg (q.map bv).toArray) (hp : p.length = 32) (hq : q.length = 32) (h : K (a.put o.dst (.bool (decide (p = q)))) w) :
    Oper.wp Tryz.prog o a w K Q := by
  have he := eq_digest p q hp hq w
  unfold Oper.wp execOp
  simp only [ho, hx, hy]
  go_simp
  exact h
end

set_option maxRecDepth 100000 in
set_option maxHeartbeats 1000000 in
theorem rsame_any (xs ys xs' ys' : List (List UInt8)) (A B A' B' : Option Addr) (c d c' d' : Nat) (w : World) (hA : Digs w w.heap.size A xs) (hB : Digs w w.heap.size B ys) (hA' : Digs w w.heap.size A' xs') (hB' : Digs w w.heap.size B' ys') (hn : xs.length ≤ 1099511627776) (hm : ys.length ≤ 1099511627776) :
    Calls Tryz.prog 117 #[.agg #[.slice A xs.length c, .slice B ys.length d], .agg #[.slice A' xs'.length c', .slice B' ys'.length d']] w fun e w' => e = .returned (.bool (decide (xs = xs') && decide (ys = ys'))) ∧ Below w.heap.size w w' := by
  obtain ⟨w1, hw1⟩ : ∃ w1, w1 = (w.alloc (.cells #[.slice A xs.length c, .slice B ys.length d] 65)).alloc (.cells #[.slice A' xs'.length c', .slice B' ys'.length d'] 65) := ⟨_, rfl⟩
  have HX : Hid (Box w1 w.heap.size 65 #[.slice A xs.length c, .slice B ys.length d]) := by
    rw [hw1]
    exact (Box.made w _ _).alloc _
  have HY : Hid (Box w1 (w.heap.size + 1) 65 #[.slice A' xs'.length c', .slice B' ys'.length d']) := by
    rw [hw1]
    exact Box.made_at (by simp) _ _
  have HF : Hid (Below w.heap.size w w1) := by
    rw [hw1]
    exact ((Below.refl _ _).alloc (Nat.le_refl _) _).alloc (by simp) _
  have HS1 : Hid (∀ w', Below w1.heap.size w1 w' → Calls Tryz.prog 118 #[.slice A xs.length c, .slice A' xs'.length c'] w' fun e w'' => e = .returned (.bool (decide (xs = xs'))) ∧ Below w'.heap.size w' w'') := fun w' hb => same_any xs xs' A A' c c' w' ((hA.far HF.out).far hb) ((hA'.far HF.out).far hb) hn
  have HS2 : Hid (∀ w', Below w1.heap.size w1 w' → Calls Tryz.prog 118 #[.slice B ys.length d, .slice B' ys'.length d'] w' fun e w'' => e = .returned (.bool (decide (ys = ys'))) ∧ Below w'.heap.size w' w'') := fun w' hb => same_any ys ys' B B' d d' w' ((hB.far HF.out).far hb) ((hB'.far HF.out).far hb) hm
  have c0 := HX.out.cell 0
  have c2 := HY.out.cell 0
  simp only [List.getElem?_toArray, List.getElem?_cons_zero] at c0 c2
  clear hA hB hA' hB' hn hm
  generalize decide (xs = xs') = p at *
  generalize decide (ys = ys') = q at *
  go_enter Tryz.func117, Tryz.ntmps117
  go_upto_region 1 with fail
  change Code.wp _ _ _ _ ((w.alloc (.cells #[.slice A xs.length c, .slice B ys.length d] 65)).alloc (.cells #[.slice A' xs'.length c', .slice B' ys'.length d'] 65))
  rw [← hw1]
  clear hw1
  rcases p with _ | _
  · go_wp2_with (go_at_call 118; (with_reducible refine (HS1.out _ (Below.refl _ _)).mono ?_); rintro e w2 ⟨rfl, hb⟩; have HB2 := Lib.hid hb; clear hb)
    go_ret
    exact ⟨rfl, HF.out.trans (HB2.out.mono HF.out.size)⟩
  · go_wp2_with (first
      | (go_at_call 118; (with_reducible refine (HS1.out w1 (Below.refl _ _)).mono ?_); rintro e w2 ⟨rfl, hb⟩; have HB2 := Lib.hid hb; have c1 := (HX.out.below hb HX.out.lt).cell 1; have c3 := (HY.out.below hb HY.out.lt).cell 1; clear hb; simp only [List.getElem?_toArray, List.getElem?_cons_zero, List.getElem?_cons_succ] at c1 c3)
      | (go_at_call 118; (with_reducible refine (HS2.out _ HB2.out).mono ?_); rintro e w3 ⟨rfl, hb⟩; have HB3 := Lib.hid (HB2.out.trans (hb.mono HB2.out.size)); clear hb))
    go_ret
    exact ⟨rfl, HF.out.trans (HB3.out.mono HF.out.size)⟩
end Go.Proofs.YtejnfgcnifcpaaaGreatDoor

namespace Go.Proofs.YtejnfgcnifcpaaaGreatDoor
open Go.RowKit

attribute [local go_sem ↓] ldDigest_def stDigest_def

/-- What Bytes answers. -/
def BytesIs (w : World) (bs : List UInt8) (e : Ending) (w' : World) : Prop := ∃ A c, e = .returned (.slice A bs.length c) ∧ bs.length ≤ c ∧ c ≤ maxLen ∧ Sees w' w'.heap.size A (bs.map bv) ∧ Below w.heap.size w w'
theorem bytes_any (base a : Nat) (bs : List UInt8) (w : World) (h : Wr w base a bs) (hb : bs.length ≤ 70368744177664) :
    Calls Tryz.prog 11 #[.pointer (some ⟨a, 0, none⟩)] w (BytesIs w bs) :=
  (wbytes_any base a bs w h hb).mono fun e w' ⟨A, c, he, hc, ho, hB⟩ => by
    refine ⟨A, c, he, ?_, hc, ?_, hB⟩
    · rcases ho with rfl | ho
      · exact Nat.zero_le _
      · rcases ho.2 with ⟨h1, h2⟩ | ⟨g, cap, cur, h1, _, _, hn, _⟩
        · rw [h2]
          exact Nat.zero_le _
        · injection h1 with _ _ e3
          rw [e3]
          exact hn
    · rcases ho with rfl | ho
      · exact Sees.empty _ _ _
      · exact Sees.of_own ho
theorem wr_new {w : World} {base a : Nat} (ha : Box w a 38 #[.slice none 0 0]) (hba : base ≤ a) : Wr w base a [] :=
  ⟨hba, Nat.le_trans hba (Nat.le_of_lt ha.lt), .slice none 0 0, ha, rfl, .inl ⟨rfl, rfl⟩⟩

theorem three_made {w : World} {t : TypeId} {b s bs : List UInt8} {g1 g2 c : Nat} {t1 t2 : TypeId} {A : Option Addr} (hb : Box w g1 t1 (b.map bv).toArray) (hs : Box w g2 t2 (s.map bv).toArray) (hbm : b.length ≤ 32) (hl : s.length = 32) (h : Sees w w.heap.size A (bs.map bv)) (hc : bs.length ≤ c) (hm : c ≤ maxLen) {n : Nat} (hn : w.heap.size = n) :
    Pieces (w.alloc (.cells #[.slice (some ⟨g1, 0, none⟩) b.length b.length, .slice (some ⟨g2, 0, none⟩) 32 32, .slice A bs.length c] t)) (w.alloc (.cells #[.slice (some ⟨g1, 0, none⟩) b.length b.length, .slice (some ⟨g2, 0, none⟩) 32 32, .slice A bs.length c] t)).heap.size (some ⟨n, 0, none⟩) [b, s, bs] := by
  subst hn
  have hF : Below w.heap.size w (w.alloc (.cells #[.slice (some ⟨g1, 0, none⟩) b.length b.length, .slice (some ⟨g2, 0, none⟩) 32 32, .slice A bs.length c] t)) := (Below.refl _ _).alloc (Nat.le_refl _) _
  have hB : Box (w.alloc (.cells #[.slice (some ⟨g1, 0, none⟩) b.length b.length, .slice (some ⟨g2, 0, none⟩) 32 32, .slice A bs.length c] t)) w.heap.size t #[.slice (some ⟨g1, 0, none⟩) b.length b.length, .slice (some ⟨g2, 0, none⟩) 32 32, .slice A bs.length c] := Box.made _ _ _
  exact Pieces.three (by rw [hl]; exact hB) hB.lt (Nat.le_refl _) (by unfold maxLen; omega) (Sees.of_box (hb.below hF hb.lt) (hb.below hF hb.lt).lt) (by omega) (by simp [maxLen]) (Sees.of_box (hs.below hF hs.lt) (hs.below hF hs.lt).lt) hc hm ((h.below hF).more hF.size)

set_option maxRecDepth 100000 in
set_option maxHeartbeats 1000000 in
theorem secret_any (seed : List UInt8) (hs : seed.length = 32) (leaf : Int) (i is : Nat) (hi : i < 32) (his : is < 2) (w : World) (hR : Roots w) :
    Calls Tryz.prog 95 #[.agg (seed.map bv).toArray, .int .i64 leaf, .int .i64 (i : Int), .int .i64 (is : Int)] w fun e w' => e = .returned (.agg ((secT seed leaf (2 * i + is)).map bv).toArray) ∧ Below w.heap.size w w' := by
  have hS : Box ((w.alloc (.cells (seed.map bv).toArray 26)).alloc (.cells zs32 26)) w.heap.size 26 (seed.map bv).toArray := (Box.made w _ _).alloc _
  have HO : Hid (Box ((w.alloc (.cells (seed.map bv).toArray 26)).alloc (.cells zs32 26)) (w.heap.size + 1) 26 zs32) := Box.made_at (by simp) _ _
  have HF : Hid (Below w.heap.size w ((w.alloc (.cells (seed.map bv).toArray 26)).alloc (.cells zs32 26))) := ((Below.refl _ _).alloc (Nat.le_refl _) _).alloc (by simp) _
  go_enter Tryz.func95, Tryz.ntmps95
  go_upto_region 1 with fail
  change Code.wp _ _ _ _ ((w.alloc (.cells (seed.map bv).toArray 26)).alloc (.cells zs32 26))
  generalize (w.alloc (.cells (seed.map bv).toArray 26)).alloc (.cells zs32 26) = w1 at *
  have HS := Lib.hid hS
  clear hS
  have hk : 2 * i + is < 64 := by omega
  have hW2 : Wr (w1.alloc (.cells #[.slice none 0 0] 38)) w1.heap.size w1.heap.size [] := wr_new (Box.made _ _ _) (Nat.le_refl _)
  have hB3 : Below w1.heap.size w1 ((w1.alloc (.cells #[.slice none 0 0] 38)).alloc (.cells #[.int .i64 leaf, .int .i64 (2 * (i : Int) + (is : Int))] 3)) := ((Below.refl _ _).alloc (Nat.le_refl _) _).alloc (by simp) _
  have hW3 := hW2.below_size ((Below.refl _ _).alloc (Nat.le_refl _) (.cells #[.int .i64 leaf, .int .i64 (2 * (i : Int) + (is : Int))] 3))
  have hx : Box ((w1.alloc (.cells #[.slice none 0 0] 38)).alloc (.cells #[.int .i64 leaf, .int .i64 (2 * (i : Int) + (is : Int))] 3)) (w1.heap.size + 1) 3 #[.int .i64 leaf, .int .i64 (2 * (i : Int) + (is : Int))] := Box.made_at (by simp) _ _
  have hN := wnum_any w1.heap.size w1.heap.size (some ⟨w1.heap.size + 1, 0, none⟩) [leaf, 2 * (i : Int) + (is : Int)] 2 _ _ hW3 (Src.of_box hW3 hx (by decide) (by decide)) (by simp)
  have hbs : ([] : List UInt8) ++ [leaf, 2 * (i : Int) + (is : Int)].flatMap numBytes = num8 leaf ++ num8 ((2 * i + is : Nat) : Int) := by
    rw [show (2 * (i : Int) + (is : Int)) = ((2 * i + is : Nat) : Int) by omega]
    simp [numBytes, num8]
  rw [hbs] at hN
  have HBL : Hid ((num8 leaf ++ num8 ((2 * i + is : Nat) : Int)).length = 16) := by
    show _ = _
    rw [List.length_append]
    unfold num8
    rw [beBytes_length, beBytes_length]
  have hfl : ([[2], seed, num8 leaf ++ num8 ((2 * i + is : Nat) : Int)] : List (List UInt8)).flatten = 2 :: (seed ++ (num8 leaf ++ num8 ((2 * i + is : Nat) : Int))) := by simp
  have HD : Hid (secT seed leaf (2 * i + is) = shaOf ([[2], seed, num8 leaf ++ num8 ((2 * i + is : Nat) : Int)] : List (List UInt8)).flatten) := by
    show _ = _
    rw [hfl]
    rfl
  have HLT : Hid (([[2], seed, num8 leaf ++ num8 ((2 * i + is : Nat) : Int)] : List (List UInt8)).flatten.length < 1152921504606846976) := by
    show _ < _
    rw [hfl, List.length_cons, List.length_append, hs, HBL.out]
    decide
  generalize num8 leaf ++ num8 ((2 * i + is : Nat) : Int) = bs at *
  have HN := Lib.hid hN
  have HB3 := Lib.hid hB3
  have HW3 := Lib.hid hW3
  clear hW2 hB3 hW3 hx hN hbs hfl
  go_wp2_with (go_at_call 40; refine (HN.out).mono ?_; rintro e w4 ⟨rfl, hW4, hF4⟩; have HW4 := Lib.hid hW4; have HB4 := Lib.hid (HB3.out.trans (hF4.below HW3.out)); clear hW4 hF4)
  clear HN HB3 HW3
  have HBY : Hid (∀ W', Below w4.heap.size w4 W' → Calls Tryz.prog 11 #[.pointer (some ⟨w1.heap.size, 0, none⟩)] W' (BytesIs W' bs)) := fun W' hb => bytes_any _ _ _ _ (HW4.out.below_size hb) (by rw [HBL.out]; decide)
  have HOF : Hid (∀ W' A, Below w4.heap.size w4 W' → Pieces W' W'.heap.size A [[2], seed, bs] → Calls Tryz.prog 55 #[.slice A 3 3] W' fun e w'' => e = .returned (.agg ((secT seed leaf (2 * i + is)).map bv).toArray) ∧ Below W'.heap.size W' w'') := fun W' A hb hp => by
    rw [HD.out]
    exact of_any [[2], seed, bs] A 3 W' hp (by simp) HLT.out (hR.of_below (HF.out.trans ((HB4.out.trans (hb.mono HB4.out.size)).mono HF.out.size)))
  have HDL : Hid ((secT seed leaf (2 * i + is)).length = 32) := Lib.hid rfl
  clear HD HLT
  generalize hd : secT seed leaf (2 * i + is) = d at *
  have HD := Lib.hid hd
  clear hd
  have HSL := Lib.hid hs
  have HFB : Hid (∀ W', Below w4.heap.size w4 W' → Below w.heap.size w W') := fun W' hb => HF.out.trans ((HB4.out.trans (hb.mono HB4.out.size)).mono HF.out.size)
  have HDR : Hid (Below w.heap.size w w4.drew) := HFB.out _ (Below.refl _ _).drew
  clear hs
  refine wp_region_held_drew (S := fun w' => Below w.heap.size w w') (by kernel_rfl) HDR.out (fun hS => ?_)
  (refine wpAnyH_take (i := 1) (v := .slice (some ⟨w.heap.size, 0, none⟩) 32 32) rfl (by kernel_rfl) (by kernel_rfl) (by kernel_rfl) (fun _ _ _ h => h) (Or.inl ⟨by kernel_rfl, fun w hSw => by go_simp⟩) hS ?_)
  (try simp only [Act.put])
  refine wpAnyH_ready (rs := [0, 2]) (by decide +kernel) (by simp) (AllReadyH.cons rfl (fun K hK => ?_) (AllReadyH.cons rfl (fun K hK => ?_) AllReadyH.nil))
  all_goals go_simp
  · have H2 : Hid (Box (w4.alloc (.cells #[.int .u8 2] 5)).drew w4.heap.size 5 (([2] : List UInt8).map bv).toArray) := (Box.made w4 _ _).drew
    have hHeld : Below w4.heap.size w4 (w4.alloc (.cells #[.int .u8 2] 5)).drew := ((Below.refl _ _).alloc (Nat.le_refl _) _).drew
    refine hK.out _ _ (HFB.out _ hHeld) (fun hS => ?_)
    clear hK K
    (try simp only [Act.put])
    refine wpAnyH_ready (rs := [2]) (by decide +kernel) (by simp) (AllReadyH.cons rfl (fun K hK => ?_) AllReadyH.nil)
    go_simp
    (go_at_call 11; (with_reducible refine (HBY.out _ hHeld).mono ?_); rintro e w5 ⟨A, c, rfl, hc1, hc2, hsee, hb5⟩)
    have hHeld := hHeld.trans (hb5.mono hHeld.size)
    have HP := Lib.hid (three_made (t := 35) (H2.out.below hb5 H2.out.lt) (HS.out.below (HB4.out.trans (hHeld.mono HB4.out.size)) HS.out.lt) (by decide) HSL.out hsee hc1 hc2 rfl)
    clear H2 hb5 hsee hc1 hc2
    refine hK.out _ _ (HFB.out _ hHeld) (fun hS => ?_)
    clear hK K
    (try simp only [Act.put])
    refine wpAnyH_ready (rs := [3]) (by decide +kernel) (by simp) (AllReadyH.cons rfl (fun K hK => ?_) AllReadyH.nil)
    go_simp
    have hHeld := hHeld.alloc hHeld.size (.cells #[.slice (some ⟨w4.heap.size, 0, none⟩) 1 1, .slice (some ⟨w.heap.size, 0, none⟩) 32 32, .slice A bs.length c] 35)
    refine hK.out _ _ (HFB.out _ hHeld) (fun hS => ?_)
    clear hK K
    (try simp only [Act.put])
    refine wpAnyH_ready (rs := [4]) (by decide +kernel) (by simp) (AllReadyH.cons rfl (fun K hK => ?_) AllReadyH.nil)
    go_simp
    (go_at_call 55; (with_reducible refine (HOF.out _ _ hHeld HP.out).mono ?_); rintro e w7 ⟨rfl, hb7⟩)
    have HF7 := Lib.hid (HB4.out.trans ((hHeld.trans (hb7.mono hHeld.size)).mono HB4.out.size))
    have hst := (HO.out.below HF7.out HO.out.lt).store_digest rfl d HDL.out
    refine hK.out _ _ (HFB.out _ (hHeld.trans (hb7.mono hHeld.size))) (fun hS => ?_)
    clear hK K hb7 HP
    (try simp only [Act.put])
    refine wpAnyH_ready (rs := [5]) (by decide +kernel) (by simp) (AllReadyH.cons rfl (fun K hK => ?_) AllReadyH.nil)
    go_simp
    have HB9 := Lib.hid ((HO.out.below HF7.out HO.out.lt).cells_dig rfl HDL.out)
    have HF9 : Hid (Below w.heap.size w (w7.setCells (w.heap.size + 1) 0 (d.map bv))) := below_cells hS (by omega) hS.size 0 _
    refine hK.out _ _ HF9.out (fun hS => ?_)
    clear hK K hst
    (try simp only [Act.put])
    refine wpAnyH_done (by kernel_rfl) ?_ _
    generalize w7.setCells (w.heap.size + 1) 0 (d.map bv) = w9 at *
    go_wp2
    exact ret_dig rfl rfl rfl HB9.out HDL.out ⟨by rw [HD.out], HF9.out⟩
  · have hHeld : Below w4.heap.size w4 w4.drew := (Below.refl _ _).drew
    (go_at_call 11; (with_reducible refine (HBY.out _ hHeld).mono ?_); rintro e w5 ⟨A, c, rfl, hc1, hc2, hsee, hb5⟩)
    have hHeld := hHeld.trans (hb5.mono hHeld.size)
    have HX := Lib.hid (And.intro hsee (And.intro hc1 hc2))
    clear hb5 hsee hc1 hc2
    refine hK.out _ _ (HFB.out _ hHeld) (fun hS => ?_)
    clear hK K
    (try simp only [Act.put])
    refine wpAnyH_ready (rs := [0]) (by decide +kernel) (by simp) (AllReadyH.cons rfl (fun K hK => ?_) AllReadyH.nil)
    go_simp
    have H2 : Hid (Box (w5.alloc (.cells #[.int .u8 2] 5)) w5.heap.size 5 (([2] : List UInt8).map bv).toArray) := Box.made w5 _ _
    have hF5 : Below w5.heap.size w5 (w5.alloc (.cells #[.int .u8 2] 5)) := (Below.refl _ _).alloc (Nat.le_refl _) _
    have hHeld := hHeld.trans (hF5.mono hHeld.size)
    have HP := Lib.hid (three_made (t := 35) H2.out (HS.out.below (HB4.out.trans (hHeld.mono HB4.out.size)) HS.out.lt) (by decide) HSL.out ((HX.out.1.below hF5).more hF5.size) HX.out.2.1 HX.out.2.2 (n := w5.heap.size + 1) (by simp))
    clear H2 HX hF5
    refine hK.out _ _ (HFB.out _ hHeld) (fun hS => ?_)
    clear hK K
    (try simp only [Act.put])
    refine wpAnyH_ready (rs := [3]) (by decide +kernel) (by simp) (AllReadyH.cons rfl (fun K hK => ?_) AllReadyH.nil)
    go_simp
    have hHeld := hHeld.alloc hHeld.size (.cells #[.slice (some ⟨w5.heap.size, 0, none⟩) 1 1, .slice (some ⟨w.heap.size, 0, none⟩) 32 32, .slice A bs.length c] 35)
    refine hK.out _ _ (HFB.out _ hHeld) (fun hS => ?_)
    clear hK K
    (try simp only [Act.put])
    refine wpAnyH_ready (rs := [4]) (by decide +kernel) (by simp) (AllReadyH.cons rfl (fun K hK => ?_) AllReadyH.nil)
    go_simp
    (go_at_call 55; (with_reducible refine (HOF.out _ _ hHeld HP.out).mono ?_); rintro e w7 ⟨rfl, hb7⟩)
    have HF7 := Lib.hid (HB4.out.trans ((hHeld.trans (hb7.mono hHeld.size)).mono HB4.out.size))
    have hst := (HO.out.below HF7.out HO.out.lt).store_digest rfl d HDL.out
    refine hK.out _ _ (HFB.out _ (hHeld.trans (hb7.mono hHeld.size))) (fun hS => ?_)
    clear hK K hb7 HP
    (try simp only [Act.put])
    refine wpAnyH_ready (rs := [5]) (by decide +kernel) (by simp) (AllReadyH.cons rfl (fun K hK => ?_) AllReadyH.nil)
    go_simp
    have HB9 := Lib.hid ((HO.out.below HF7.out HO.out.lt).cells_dig rfl HDL.out)
    have HF9 : Hid (Below w.heap.size w (w7.setCells (w.heap.size + 1) 0 (d.map bv))) := below_cells hS (by omega) hS.size 0 _
    refine hK.out _ _ HF9.out (fun hS => ?_)
    clear hK K hst
    (try simp only [Act.put])
    refine wpAnyH_done (by kernel_rfl) ?_ _
    generalize w7.setCells (w.heap.size + 1) 0 (d.map bv) = w9 at *
    go_wp2
    exact ret_dig rfl rfl rfl HB9.out HDL.out ⟨by rw [HD.out], HF9.out⟩
end Go.Proofs.YtejnfgcnifcpaaaGreatDoor

namespace Go.Proofs.YtejnfgcnifcpaaaGreatDoor
open Go.RowKit

/-- The digests of the secrets ahead of k, one behind the other. -/
def rowT (seed : List UInt8) (leaf : Int) (k : Nat) : List UInt8 := (List.range k).flatMap fun j => shaOf (secT seed leaf j)
theorem rowT_succ (seed : List UInt8) (leaf : Int) (k : Nat) : rowT seed leaf (k + 1) = rowT seed leaf k ++ shaOf (secT seed leaf k) := by
  unfold rowT
  rw [List.range_succ, List.flatMap_append]
  simp
theorem rowT_len (seed : List UInt8) (leaf : Int) : ∀ k, (rowT seed leaf k).length = 32 * k
  | 0 => rfl
  | k + 1 => by
    rw [rowT_succ, List.length_append, rowT_len seed leaf k, sha_len]
    omega

end Go.Proofs.YtejnfgcnifcpaaaGreatDoor
