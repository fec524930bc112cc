/-
  A secret: once.secret.
  The document's secret and public half (wapentakeref04.Secret, Public).
-/
import Derived.Test.YtojgmdagamdcfaaGreatDoorOB
import Derived.Test.YtojgmdagamdcfaaGreatDoorWr
import Derived.Deep.RegionHeld3
import Derived.Test.YtojgmdagamdcfaaGreatDoorOX
import Derived.Test.YtojgmdagamdcfaaGreatDoorTG
namespace Go.Proofs.YtojgmdagamdcfaaGreatDoor
open Go.RowKit

attribute [local go_sem ↓] ldDigest_def stDigest_def

/-- What Bytes answers. -/
def BytesIs (w : World) (bs : List UInt8) (e : Ending) (w' : World) : Prop := ∃ A c, e = .returned (.slice A bs.length c) ∧ bs.length ≤ c ∧ c ≤ maxLen ∧ Sees w' w'.heap.size A (bs.map bv) ∧ Below w.heap.size w w'
theorem bytes_any (base a : Nat) (bs : List UInt8) (w : World) (h : Wr w base a bs) (hb : bs.length ≤ 70368744177664) :
    Calls Tryz.prog 64 #[.pointer (some ⟨a, 0, none⟩)] w (BytesIs w bs) :=
  (wbytes_any base a bs w h hb).mono fun e w' ⟨A, c, he, hc, ho, hB⟩ => by
    refine ⟨A, c, he, ?_, hc, ?_, hB⟩
    · rcases ho with rfl | ho
      · exact Nat.zero_le _
      · rcases ho.2 with ⟨h1, h2⟩ | ⟨g, cap, cur, h1, _, _, hn, _⟩
        · rw [h2]
          exact Nat.zero_le _
        · injection h1 with _ _ e3
          rw [e3]
          exact hn
    · rcases ho with rfl | ho
      · exact Sees.empty _ _ _
      · exact Sees.of_own ho
theorem wr_new {w : World} {base a : Nat} (ha : Box w a 114 #[.slice none 0 0]) (hba : base ≤ a) : Wr w base a [] :=
  ⟨hba, Nat.le_trans hba (Nat.le_of_lt ha.lt), .slice none 0 0, ha, rfl, .inl ⟨rfl, rfl⟩⟩

theorem three_made {w : World} {t : TypeId} {b s bs : List UInt8} {g1 g2 c : Nat} {t1 t2 : TypeId} {A : Option Addr} (hb : Box w g1 t1 (b.map bv).toArray) (hs : Box w g2 t2 (s.map bv).toArray) (hbm : b.length ≤ 32) (hl : s.length = 32) (h : Sees w w.heap.size A (bs.map bv)) (hc : bs.length ≤ c) (hm : c ≤ maxLen) {n : Nat} (hn : w.heap.size = n) :
    Pieces (w.alloc (.cells #[.slice (some ⟨g1, 0, none⟩) b.length b.length, .slice (some ⟨g2, 0, none⟩) 32 32, .slice A bs.length c] t)) (w.alloc (.cells #[.slice (some ⟨g1, 0, none⟩) b.length b.length, .slice (some ⟨g2, 0, none⟩) 32 32, .slice A bs.length c] t)).heap.size (some ⟨n, 0, none⟩) [b, s, bs] := by
  subst hn
  have hF : Below w.heap.size w (w.alloc (.cells #[.slice (some ⟨g1, 0, none⟩) b.length b.length, .slice (some ⟨g2, 0, none⟩) 32 32, .slice A bs.length c] t)) := (Below.refl _ _).alloc (Nat.le_refl _) _
  have hB : Box (w.alloc (.cells #[.slice (some ⟨g1, 0, none⟩) b.length b.length, .slice (some ⟨g2, 0, none⟩) 32 32, .slice A bs.length c] t)) w.heap.size t #[.slice (some ⟨g1, 0, none⟩) b.length b.length, .slice (some ⟨g2, 0, none⟩) 32 32, .slice A bs.length c] := Box.made _ _ _
  exact Pieces.three (by rw [hl]; exact hB) hB.lt (Nat.le_refl _) (by unfold maxLen; omega) (Sees.of_box (hb.below hF hb.lt) (hb.below hF hb.lt).lt) (by omega) (by simp [maxLen]) (Sees.of_box (hs.below hF hs.lt) (hs.below hF hs.lt).lt) hc hm ((h.below hF).more hF.size)

set_option maxRecDepth 100000 in
set_option maxHeartbeats 1000000 in
theorem secret_any (seed : List UInt8) (hs : seed.length = 32) (leaf : Int) (i is : Nat) (hi : i < 32) (his : is < 2) (w : World) (hR : Roots w) :
    Calls Tryz.prog 70 #[.agg (seed.map bv).toArray, .int .i64 leaf, .int .i64 (i : Int), .int .i64 (is : Int)] w fun e w' => e = .returned (.agg ((secT seed leaf (2 * i + is)).map bv).toArray) ∧ Below w.heap.size w w' := by
  have hS : Box ((w.alloc (.cells (seed.map bv).toArray 33)).alloc (.cells zs32 33)) w.heap.size 33 (seed.map bv).toArray := (Box.made w _ _).alloc _
  have HO : Hid (Box ((w.alloc (.cells (seed.map bv).toArray 33)).alloc (.cells zs32 33)) (w.heap.size + 1) 33 zs32) := Box.made_at (by simp) _ _
  have HF : Hid (Below w.heap.size w ((w.alloc (.cells (seed.map bv).toArray 33)).alloc (.cells zs32 33))) := ((Below.refl _ _).alloc (Nat.le_refl _) _).alloc (by simp) _
  go_enter Tryz.func70, Tryz.ntmps70
  go_upto_region 1 with fail
  change Code.wp _ _ _ _ ((w.alloc (.cells (seed.map bv).toArray 33)).alloc (.cells zs32 33))
  generalize (w.alloc (.cells (seed.map bv).toArray 33)).alloc (.cells zs32 33) = w1 at *
  have HS := Lib.hid hS
  clear hS
  have hk : 2 * i + is < 64 := by omega
  have hW2 : Wr (w1.alloc (.cells #[.slice none 0 0] 114)) w1.heap.size w1.heap.size [] := wr_new (Box.made _ _ _) (Nat.le_refl _)
  have hB3 : Below w1.heap.size w1 ((w1.alloc (.cells #[.slice none 0 0] 114)).alloc (.cells #[.int .i64 leaf, .int .i64 (2 * (i : Int) + (is : Int))] 3)) := ((Below.refl _ _).alloc (Nat.le_refl _) _).alloc (by simp) _
  have hW3 := hW2.below_size ((Below.refl _ _).alloc (Nat.le_refl _) (.cells #[.int .i64 leaf, .int .i64 (2 * (i : Int) + (is : Int))] 3))
  have hx : Box ((w1.alloc (.cells #[.slice none 0 0] 114)).alloc (.cells #[.int .i64 leaf, .int .i64 (2 * (i : Int) + (is : Int))] 3)) (w1.heap.size + 1) 3 #[.int .i64 leaf, .int .i64 (2 * (i : Int) + (is : Int))] := Box.made_at (by simp) _ _
  have hN := wnum_any w1.heap.size w1.heap.size (some ⟨w1.heap.size + 1, 0, none⟩) [leaf, 2 * (i : Int) + (is : Int)] 2 _ _ hW3 (Src.of_box hW3 hx (by decide) (by decide)) (by simp)
  have hbs : ([] : List UInt8) ++ [leaf, 2 * (i : Int) + (is : Int)].flatMap numBytes = num8 leaf ++ num8 ((2 * i + is : Nat) : Int) := by
    rw [show (2 * (i : Int) + (is : Int)) = ((2 * i + is : Nat) : Int) by omega]
    simp [numBytes, num8]
  rw [hbs] at hN
  have HBL : Hid ((num8 leaf ++ num8 ((2 * i + is : Nat) : Int)).length = 16) := by
    show _ = _
    rw [List.length_append]
    unfold num8
    rw [beBytes_length, beBytes_length]
  have hfl : ([[2], seed, num8 leaf ++ num8 ((2 * i + is : Nat) : Int)] : List (List UInt8)).flatten = 2 :: (seed ++ (num8 leaf ++ num8 ((2 * i + is : Nat) : Int))) := by simp
  have HD : Hid (secT seed leaf (2 * i + is) = shaOf ([[2], seed, num8 leaf ++ num8 ((2 * i + is : Nat) : Int)] : List (List UInt8)).flatten) := by
    show _ = _
    rw [hfl]
    rfl
  have HLT : Hid (([[2], seed, num8 leaf ++ num8 ((2 * i + is : Nat) : Int)] : List (List UInt8)).flatten.length < 1152921504606846976) := by
    show _ < _
    rw [hfl, List.length_cons, List.length_append, hs, HBL.out]
    decide
  generalize num8 leaf ++ num8 ((2 * i + is : Nat) : Int) = bs at *
  have HN := Lib.hid hN
  have HB3 := Lib.hid hB3
  have HW3 := Lib.hid hW3
  clear hW2 hB3 hW3 hx hN hbs hfl
  go_wp2_with (go_at_call 93; refine (HN.out).mono ?_; rintro e w4 ⟨rfl, hW4, hF4⟩; have HW4 := Lib.hid hW4; have HB4 := Lib.hid (HB3.out.trans (hF4.below HW3.out)); clear hW4 hF4)
  clear HN HB3 HW3
  have HBY : Hid (∀ W', Below w4.heap.size w4 W' → Calls Tryz.prog 64 #[.pointer (some ⟨w1.heap.size, 0, none⟩)] W' (BytesIs W' bs)) := fun W' hb => bytes_any _ _ _ _ (HW4.out.below_size hb) (by rw [HBL.out]; decide)
  have HOF : Hid (∀ W' A, Below w4.heap.size w4 W' → Pieces W' W'.heap.size A [[2], seed, bs] → Calls Tryz.prog 63 #[.slice A 3 3] W' fun e w'' => e = .returned (.agg ((secT seed leaf (2 * i + is)).map bv).toArray) ∧ Below W'.heap.size W' w'') := fun W' A hb hp => by
    rw [HD.out]
    exact of_any [[2], seed, bs] A 3 W' hp (by simp) HLT.out (hR.of_below (HF.out.trans ((HB4.out.trans (hb.mono HB4.out.size)).mono HF.out.size)))
  have HDL : Hid ((secT seed leaf (2 * i + is)).length = 32) := Lib.hid rfl
  clear HD HLT
  generalize hd : secT seed leaf (2 * i + is) = d at *
  have HD := Lib.hid hd
  clear hd
  have HSL := Lib.hid hs
  have HFB : Hid (∀ W', Below w4.heap.size w4 W' → Below w.heap.size w W') := fun W' hb => HF.out.trans ((HB4.out.trans (hb.mono HB4.out.size)).mono HF.out.size)
  have HDR : Hid (Below w.heap.size w w4.drew) := HFB.out _ (Below.refl _ _).drew
  clear hs
  refine wp_region_held_drew (S := fun w' => Below w.heap.size w w') (by kernel_rfl) HDR.out (fun hS => ?_)
  (refine wpAnyH_take (i := 1) (v := .slice (some ⟨w.heap.size, 0, none⟩) 32 32) rfl (by kernel_rfl) (by kernel_rfl) (by kernel_rfl) (fun _ _ _ h => h) (Or.inl ⟨by kernel_rfl, fun w hSw => by go_simp⟩) hS ?_)
  (try simp only [Act.put])
  refine wpAnyH_ready (rs := [0, 2]) (by decide +kernel) (by simp) (AllReadyH.cons rfl (fun K hK => ?_) (AllReadyH.cons rfl (fun K hK => ?_) AllReadyH.nil))
  all_goals go_simp
  · have H2 : Hid (Box (w4.alloc (.cells #[.int .u8 2] 5)).drew w4.heap.size 5 (([2] : List UInt8).map bv).toArray) := (Box.made w4 _ _).drew
    have hHeld : Below w4.heap.size w4 (w4.alloc (.cells #[.int .u8 2] 5)).drew := ((Below.refl _ _).alloc (Nat.le_refl _) _).drew
    refine hK.out _ _ (HFB.out _ hHeld) (fun hS => ?_)
    clear hK K
    (try simp only [Act.put])
    refine wpAnyH_ready (rs := [2]) (by decide +kernel) (by simp) (AllReadyH.cons rfl (fun K hK => ?_) AllReadyH.nil)
    go_simp
    (go_at_call 64; (with_reducible refine (HBY.out _ hHeld).mono ?_); rintro e w5 ⟨A, c, rfl, hc1, hc2, hsee, hb5⟩)
    have hHeld := hHeld.trans (hb5.mono hHeld.size)
    have HP := Lib.hid (three_made (t := 111) (H2.out.below hb5 H2.out.lt) (HS.out.below (HB4.out.trans (hHeld.mono HB4.out.size)) HS.out.lt) (by decide) HSL.out hsee hc1 hc2 rfl)
    clear H2 hb5 hsee hc1 hc2
    refine hK.out _ _ (HFB.out _ hHeld) (fun hS => ?_)
    clear hK K
    (try simp only [Act.put])
    refine wpAnyH_ready (rs := [3]) (by decide +kernel) (by simp) (AllReadyH.cons rfl (fun K hK => ?_) AllReadyH.nil)
    go_simp
    have hHeld := hHeld.alloc hHeld.size (.cells #[.slice (some ⟨w4.heap.size, 0, none⟩) 1 1, .slice (some ⟨w.heap.size, 0, none⟩) 32 32, .slice A bs.length c] 111)
    refine hK.out _ _ (HFB.out _ hHeld) (fun hS => ?_)
    clear hK K
    (try simp only [Act.put])
    refine wpAnyH_ready (rs := [4]) (by decide +kernel) (by simp) (AllReadyH.cons rfl (fun K hK => ?_) AllReadyH.nil)
    go_simp
    (go_at_call 63; (with_reducible refine (HOF.out _ _ hHeld HP.out).mono ?_); rintro e w7 ⟨rfl, hb7⟩)
    have HF7 := Lib.hid (HB4.out.trans ((hHeld.trans (hb7.mono hHeld.size)).mono HB4.out.size))
    have hst := (HO.out.below HF7.out HO.out.lt).store_digest rfl d HDL.out
    refine hK.out _ _ (HFB.out _ (hHeld.trans (hb7.mono hHeld.size))) (fun hS => ?_)
    clear hK K hb7 HP
    (try simp only [Act.put])
    refine wpAnyH_ready (rs := [5]) (by decide +kernel) (by simp) (AllReadyH.cons rfl (fun K hK => ?_) AllReadyH.nil)
    go_simp
    have HB9 := Lib.hid ((HO.out.below HF7.out HO.out.lt).cells_dig rfl HDL.out)
    have HF9 : Hid (Below w.heap.size w (w7.setCells (w.heap.size + 1) 0 (d.map bv))) := below_cells hS (by omega) hS.size 0 _
    refine hK.out _ _ HF9.out (fun hS => ?_)
    clear hK K hst
    (try simp only [Act.put])
    refine wpAnyH_done (by kernel_rfl) ?_ _
    generalize w7.setCells (w.heap.size + 1) 0 (d.map bv) = w9 at *
    go_wp2
    exact ret_dig rfl rfl rfl HB9.out HDL.out ⟨by rw [HD.out], HF9.out⟩
  · have hHeld : Below w4.heap.size w4 w4.drew := (Below.refl _ _).drew
    (go_at_call 64; (with_reducible refine (HBY.out _ hHeld).mono ?_); rintro e w5 ⟨A, c, rfl, hc1, hc2, hsee, hb5⟩)
    have hHeld := hHeld.trans (hb5.mono hHeld.size)
    have HX := Lib.hid (And.intro hsee (And.intro hc1 hc2))
    clear hb5 hsee hc1 hc2
    refine hK.out _ _ (HFB.out _ hHeld) (fun hS => ?_)
    clear hK K
    (try simp only [Act.put])
    refine wpAnyH_ready (rs := [0]) (by decide +kernel) (by simp) (AllReadyH.cons rfl (fun K hK => ?_) AllReadyH.nil)
    go_simp
    have H2 : Hid (Box (w5.alloc (.cells #[.int .u8 2] 5)) w5.heap.size 5 (([2] : List UInt8).map bv).toArray) := Box.made w5 _ _
    have hF5 : Below w5.heap.size w5 (w5.alloc (.cells #[.int .u8 2] 5)) := (Below.refl _ _).alloc (Nat.le_refl _) _
    have hHeld := hHeld.trans (hF5.mono hHeld.size)
    have HP := Lib.hid (three_made (t := 111) H2.out (HS.out.below (HB4.out.trans (hHeld.mono HB4.out.size)) HS.out.lt) (by decide) HSL.out ((HX.out.1.below hF5).more hF5.size) HX.out.2.1 HX.out.2.2 (n := w5.heap.size + 1) (by simp))
    clear H2 HX hF5
    refine hK.out _ _ (HFB.out _ hHeld) (fun hS => ?_)
    clear hK K
    (try simp only [Act.put])
    refine wpAnyH_ready (rs := [3]) (by decide +kernel) (by simp) (AllReadyH.cons rfl (fun K hK => ?_) AllReadyH.nil)
    go_simp
    have hHeld := hHeld.alloc hHeld.size (.cells #[.slice (some ⟨w5.heap.size, 0, none⟩) 1 1, .slice (some ⟨w.heap.size, 0, none⟩) 32 32, .slice A bs.length c] 111)
    refine hK.out _ _ (HFB.out _ hHeld) (fun hS => ?_)
    clear hK K
    (try simp only [Act.put])
    refine wpAnyH_ready (rs := [4]) (by decide +kernel) (by simp) (AllReadyH.cons rfl (fun K hK => ?_) AllReadyH.nil)
    go_simp
    (go_at_call 63; (with_reducible refine (HOF.out _ _ hHeld HP.out).mono ?_); rintro e w7 ⟨rfl, hb7⟩)
    have HF7 := Lib.hid (HB4.out.trans ((hHeld.trans (hb7.mono hHeld.size)).mono HB4.out.size))
    have hst := (HO.out.below HF7.out HO.out.lt).store_digest rfl d HDL.out
    refine hK.out _ _ (HFB.out _ (hHeld.trans (hb7.mono hHeld.size))) (fun hS => ?_)
    clear hK K hb7 HP
    (try simp only [Act.put])
    refine wpAnyH_ready (rs := [5]) (by decide +kernel) (by simp) (AllReadyH.cons rfl (fun K hK => ?_) AllReadyH.nil)
    go_simp
    have HB9 := Lib.hid ((HO.out.below HF7.out HO.out.lt).cells_dig rfl HDL.out)
    have HF9 : Hid (Below w.heap.size w (w7.setCells (w.heap.size + 1) 0 (d.map bv))) := below_cells hS (by omega) hS.size 0 _
    refine hK.out _ _ HF9.out (fun hS => ?_)
    clear hK K hst
    (try simp only [Act.put])
    refine wpAnyH_done (by kernel_rfl) ?_ _
    generalize w7.setCells (w.heap.size + 1) 0 (d.map bv) = w9 at *
    go_wp2
    exact ret_dig rfl rfl rfl HB9.out HDL.out ⟨by rw [HD.out], HF9.out⟩
end Go.Proofs.YtojgmdagamdcfaaGreatDoor

namespace Go.Proofs.YtojgmdagamdcfaaGreatDoor
open Go.RowKit

set_option maxRecDepth 100000 in
set_option maxHeartbeats 1000000 in
theorem rsecret_any (seed : List UInt8) (hs : seed.length = 32) (leaf : Int) (hl1 : -9223372036854775808 ≤ leaf) (hl2 : leaf ≤ 9223372036854775807) (i is : Nat) (hi : i < 32) (his : is < 2) (w : World) :
    Calls Tryz.prog 75 #[.agg (seed.map bv).toArray, .int .i64 leaf, .int .i64 (i : Int), .int .i64 (is : Int)] w fun e w' => e = .returned (.agg ((secT seed leaf (2 * i + is)).map bv).toArray) ∧ Below w.heap.size w w' := by
  have HS : Hid (Box ((w.alloc (.cells (seed.map bv).toArray 33)).alloc (.cells zs32 33)) w.heap.size 33 (seed.map bv).toArray) := (Box.made w _ _).alloc _
  have HO : Hid (Box ((w.alloc (.cells (seed.map bv).toArray 33)).alloc (.cells zs32 33)) (w.heap.size + 1) 33 zs32) := Box.made_at (by simp) _ _
  have HF : Hid (Below w.heap.size w ((w.alloc (.cells (seed.map bv).toArray 33)).alloc (.cells zs32 33))) := ((Below.refl _ _).alloc (Nat.le_refl _) _).alloc (by simp) _
  have hk : 2 * i + is < 64 := by omega
  have HK : Hid (numBytes (2 * (i : Int) + (is : Int)) = num8 ((2 * i + is : Nat) : Int)) := by
    show _ = _
    rw [show (2 * (i : Int) + (is : Int)) = ((2 * i + is : Nat) : Int) by omega]
    rfl
  have HL1 : Hid ((num8 leaf).length = 8) := beBytes_length _ _
  have HL2 : Hid ((num8 ((2 * i + is : Nat) : Int)).length = 8) := beBytes_length _ _
  have HDL : Hid ((secT seed leaf (2 * i + is)).length = 32) := Lib.hid rfl
  have HD : Hid (secT seed leaf (2 * i + is) = shaOf (2 :: (seed ++ (num8 leaf ++ num8 ((2 * i + is : Nat) : Int))))) := Lib.hid rfl
  have HN1 : Hid (∀ w', Calls Tryz.prog 96 #[.int .i64 leaf] w' fun e w'' => e = .returned (str (num8 leaf)) ∧ Below w'.heap.size w' w'') := fun w' => refnum_any leaf hl1 hl2 w'
  have HN2 : Hid (∀ w', Calls Tryz.prog 96 #[.int .i64 (2 * (i : Int) + (is : Int))] w' fun e w'' => e = .returned (str (num8 ((2 * i + is : Nat) : Int))) ∧ Below w'.heap.size w' w'') := fun w' => by
    have h := refnum_any (2 * (i : Int) + (is : Int)) (by omega) (by omega) w'
    rw [HK.out] at h
    exact h
  generalize secT seed leaf (2 * i + is) = d at *
  generalize num8 leaf = n1 at *
  generalize num8 ((2 * i + is : Nat) : Int) = n2 at *
  have HT : Hid (∀ w', Calls Tryz.prog 72 #[.string ⟨(2 :: (seed ++ (n1 ++ n2))).toArray⟩] w' fun e w'' => e = .returned (.agg (d.map bv).toArray) ∧ Below w'.heap.size w' w'') := fun w' => by
    rw [HD.out]
    exact text_any _ (by rw [List.length_cons, List.length_append, List.length_append, HL1.out, HL2.out, hs]; decide) w'
  obtain ⟨X1, hX1⟩ : ∃ X : ByteArray, X = ⟨(2 :: seed).toArray⟩ := ⟨_, rfl⟩
  obtain ⟨X2, hX2⟩ : ∃ X : ByteArray, X = ⟨(2 :: (seed ++ n1)).toArray⟩ := ⟨_, rfl⟩
  obtain ⟨X3, hX3⟩ : ∃ X : ByteArray, X = ⟨(2 :: (seed ++ (n1 ++ n2))).toArray⟩ := ⟨_, rfl⟩
  have hc1 : ({ data := #[2] } : ByteArray) ++ { data := seed.toArray } = X1 := (bytes_cat [2] seed).trans hX1.symm
  have hc2 : X1 ++ { data := n1.toArray } = X2 := by rw [hX1, hX2]; exact bytes_cat (2 :: seed) n1
  have hc3 : X2 ++ { data := n2.toArray } = X3 := by rw [hX2, hX3, bytes_cat]; simp
  rw [← hX3] at HT
  have HDS : Hid (∀ w', Calls Tryz.prog 48 #[.agg (seed.map bv).toArray] w' fun e w'' => e = .returned (str seed) ∧ Below w'.heap.size w' w'') := fun w' => digstr_any seed hs w'
  have HSM := Lib.hid (dig_same d HDL.out)
  have HSZ := Lib.hid (dig_size d HDL.out)
  have HLD := Lib.hid (dig_size seed hs)
  have hz0 : seed.length ≤ 32 := by omega
  have hz1 : n1.length ≤ 8 := by have := HL1.out; omega
  have hz2 : n2.length ≤ 8 := by have := HL2.out; omega
  have hx1 : X1.size ≤ 33 := by rw [hX1]; show (2 :: seed).toArray.size ≤ 33; rw [List.size_toArray, List.length_cons]; omega
  have hx2 : X2.size ≤ 41 := by rw [hX2]; show (2 :: (seed ++ n1)).toArray.size ≤ 41; rw [List.size_toArray, List.length_cons, List.length_append]; omega
  clear hX1 hX2 hX3 hk hs
  go_enter Tryz.func75, Tryz.ntmps75
  go_upto_region 1 with fail
  change Code.wp _ _ _ _ ((w.alloc (.cells (seed.map bv).toArray 33)).alloc (.cells zs32 33))
  generalize (w.alloc (.cells (seed.map bv).toArray 33)).alloc (.cells zs32 33) = w1 at *
  go_wp2_with (first
    | ((with_reducible show wpList _ _ _ ((⟨some 9, _, _, _, _, _⟩ : Oper) :: _) _ _); refine wpList_load_mid rfl 33 (.tmp 4) rfl w.heap.size 0 rfl (seed.map bv) _ HS.out.range Tryz.underlying33 rfl HLD.out ?_)
    | (go_at_call 48; refine (HDS.out _).mono ?_; rintro e w2 ⟨rfl, hb⟩; have HF2 := Lib.hid hb; clear hb)
    | (go_at_call 96; (with_reducible refine (HN1.out w2).mono ?_); rintro e w3 ⟨rfl, hb⟩; have HF3 := Lib.hid (HF2.out.trans (hb.mono HF2.out.size)); clear hb)
    | (go_at_call 96; (with_reducible refine (HN2.out w3).mono ?_); rintro e w4 ⟨rfl, hb⟩; have HF4 := Lib.hid (HF3.out.trans (hb.mono HF3.out.size)); clear hb)
    | (go_at_call 72; (with_reducible refine (HT.out w4).mono ?_); rintro e w6 ⟨rfl, hb⟩; have HB6 := Lib.hid (HF4.out.trans (hb.mono HF4.out.size)); clear hb)
    | (((with_reducible show wpList _ _ _ ((⟨none, Op.store _ (.tmp 8) (.tmp 21), _, _, _, _⟩ : Oper) :: _) _ _)); refine wpList_store_box rfl 33 (.tmp 8) (.tmp 21) rfl (w.heap.size + 1) (d.map bv).toArray rfl rfl 33 zs32 (HO.out.below HB6.out HO.out.lt) HSM.out HSZ.out (bv_one _) ?_; intro w7 hb7 hg7))
  exact ret_dig rfl rfl rfl hb7 HDL.out ⟨rfl, (HF.out.trans (HB6.out.mono HF.out.size)).trans (below_only hg7 (by omega) (HF.out.trans (HB6.out.mono HF.out.size)).size)⟩

/-- The digests of the secrets ahead of k, one behind the other. -/
def rowT (seed : List UInt8) (leaf : Int) (k : Nat) : List UInt8 := (List.range k).flatMap fun j => shaOf (secT seed leaf j)
theorem rowT_succ (seed : List UInt8) (leaf : Int) (k : Nat) : rowT seed leaf (k + 1) = rowT seed leaf k ++ shaOf (secT seed leaf k) := by
  unfold rowT
  rw [List.range_succ, List.flatMap_append]
  simp
theorem rowT_len (seed : List UInt8) (leaf : Int) : ∀ k, (rowT seed leaf k).length = 32 * k
  | 0 => rfl
  | k + 1 => by
    rw [rowT_succ, List.length_append, rowT_len seed leaf k, sha_len]
    omega

set_option maxRecDepth 100000 in
set_option maxHeartbeats 1000000 in
theorem rpublic_any (seed : List UInt8) (hs : seed.length = 32) (leaf : Int) (hl1 : -9223372036854775808 ≤ leaf) (hl2 : leaf ≤ 9223372036854775807) (w : World) :
    Calls Tryz.prog 49 #[.agg (seed.map bv).toArray, .int .i64 leaf] w fun e w' => e = .returned (.agg ((pubT seed leaf).map bv).toArray) ∧ Below w.heap.size w w' := by
  have HS : Hid (Box ((w.alloc (.cells (seed.map bv).toArray 33)).alloc (.cells zs32 33)) w.heap.size 33 (seed.map bv).toArray) := (Box.made w _ _).alloc _
  have HO : Hid (Box ((w.alloc (.cells (seed.map bv).toArray 33)).alloc (.cells zs32 33)) (w.heap.size + 1) 33 zs32) := Box.made_at (by simp) _ _
  have HF : Hid (Below w.heap.size w ((w.alloc (.cells (seed.map bv).toArray 33)).alloc (.cells zs32 33))) := ((Below.refl _ _).alloc (Nat.le_refl _) _).alloc (by simp) _
  have HDL : Hid ((pubT seed leaf).length = 32) := Lib.hid rfl
  have HD : Hid (pubT seed leaf = shaOf (rowT seed leaf 64)) := Lib.hid rfl
  generalize pubT seed leaf = d at *
  have HSM := Lib.hid (dig_same d HDL.out)
  have HSZ := Lib.hid (dig_size d HDL.out)
  have HLD := Lib.hid (dig_size seed hs)
  have HSL := Lib.hid hs
  clear hs
  go_enter Tryz.func49, Tryz.ntmps49
  go_upto_region 1 with fail
  change Code.wp _ _ _ _ ((w.alloc (.cells (seed.map bv).toArray 33)).alloc (.cells zs32 33))
  generalize (w.alloc (.cells (seed.map bv).toArray 33)).alloc (.cells zs32 33) = w1 at *
  go_upto_region 3 with fail
  go_loopw [5, 6] (fun s i wr => ∃ (k : Nat) (X : ByteArray), k ≤ 64 ∧ s = .string X ∧ X.size ≤ 2048 ∧ i = .int .i64 (k : Int) ∧ Hid (X = ⟨(rowT seed leaf k).toArray⟩) ∧ Hid (Below w1.heap.size w1 wr)) (fun _ i _ => 64 - (intOf i).toNat)
  case atStart => exact ⟨0, _, Nat.zero_le _, rfl, (by decide), rfl, by exact Lib.hid rfl, Below.refl _ _⟩
  case round =>
    obtain ⟨k, X, hk, rfl, hX, rfl, HX, HW⟩ := hrel
    by_cases hlt : k < 64
    · have HSC : Hid (∀ w', Calls Tryz.prog 75 #[.agg (seed.map bv).toArray, .int .i64 leaf, .int .i64 ((k : Int) / 2), .int .i64 ((k : Int) % 2)] w' fun e w'' => e = .returned (.agg ((secT seed leaf k).map bv).toArray) ∧ Below w'.heap.size w' w'') := fun w' => by
        have h := rsecret_any seed HSL.out leaf hl1 hl2 (k / 2) (k % 2) (by omega) (by omega) w'
        rw [show 2 * (k / 2) + k % 2 = k by omega, show ((k / 2 : Nat) : Int) = (k : Int) / 2 by omega, show ((k % 2 : Nat) : Int) = (k : Int) % 2 by omega] at h
        exact h
      have HSH : Hid (∀ w', Calls Tryz.prog 74 #[.agg ((secT seed leaf k).map bv).toArray] w' fun e w'' => e = .returned (.agg ((shaOf (secT seed leaf k)).map bv).toArray) ∧ Below w'.heap.size w' w'') := fun w' => rshut_any _ rfl w'
      have HDG : Hid (∀ w', Calls Tryz.prog 48 #[.agg ((shaOf (secT seed leaf k)).map bv).toArray] w' fun e w'' => e = .returned (str (shaOf (secT seed leaf k))) ∧ Below w'.heap.size w' w'') := fun w' => digstr_any _ rfl w'
      have HX2 : Hid (X ++ ⟨(shaOf (secT seed leaf k)).toArray⟩ = ⟨(rowT seed leaf (k + 1)).toArray⟩) := by
        show _ = _
        rw [HX.out, bytes_cat, rowT_succ]
      have HXL : Hid ((⟨(rowT seed leaf (k + 1)).toArray⟩ : ByteArray).size ≤ 2048) := by
        show (rowT seed leaf (k + 1)).toArray.size ≤ 2048
        rw [List.size_toArray, rowT_len]
        omega
      have hzl : (shaOf (secT seed leaf k)).length ≤ 32 := Nat.le_refl _
      generalize shaOf (secT seed leaf k) = ss at *
      generalize secT seed leaf k = sc at *
      obtain ⟨Y, hY⟩ : ∃ Y : ByteArray, Y = ⟨(rowT seed leaf (k + 1)).toArray⟩ := ⟨_, rfl⟩
      rw [← hY] at HX2 HXL
      have hx2 := HX2.out
      have HY := Lib.hid hY
      have hw0 := HW.out.size
      have HS2 := Lib.hid (HS.out.below HW.out HS.out.lt)
      clear HX hY HX2 hw0
      go_wp2_with (first
        | ((with_reducible show wpList _ _ _ ((⟨some 12, _, _, _, _, _⟩ : Oper) :: _) _ _); refine wpList_load_mid rfl 33 (.tmp 2) rfl w.heap.size 0 rfl (seed.map bv) _ HS2.out.range Tryz.underlying33 rfl HLD.out ?_)
        | (go_at_call 75; (with_reducible refine (HSC.out _).mono ?_); rintro e w2 ⟨rfl, hb⟩; have HW2 := Lib.hid (HW.out.trans (hb.mono HW.out.size)); clear hb)
        | (go_at_call 74; (with_reducible refine (HSH.out _).mono ?_); rintro e w3 ⟨rfl, hb⟩; have HW3 := Lib.hid (HW2.out.trans (hb.mono HW2.out.size)); clear hb)
        | (go_at_call 48; (with_reducible refine (HDG.out _).mono ?_); rintro e w4 ⟨rfl, hb⟩; have HW4 := Lib.hid (HW3.out.trans (hb.mono HW3.out.size)); clear hb))
      go_roundw
      case rel => exact ⟨k + 1, Y, hlt, rfl, HXL.out, by go_num, HY, HW4⟩
      case measure => simp [intOf]; omega
    · obtain rfl : k = 64 := by omega
      have HT : Hid (∀ w', Calls Tryz.prog 72 #[.string X] w' fun e w'' => e = .returned (.agg (d.map bv).toArray) ∧ Below w'.heap.size w' w'') := fun w' => by
        rw [HX.out, HD.out]
        exact text_any _ (by rw [rowT_len]; decide) w'
      clear HX
      go_wp2_with (first
        | (go_at_call 72; (with_reducible refine (HT.out _).mono ?_); rintro e w6 ⟨rfl, hb⟩; have HB6 := Lib.hid (HW.out.trans (hb.mono HW.out.size)); clear hb)
        | (((with_reducible show wpList _ _ _ ((⟨none, Op.store _ (.tmp 4) (.tmp 23), _, _, _, _⟩ : Oper) :: _) _ _)); refine wpList_store_box rfl 33 (.tmp 4) (.tmp 23) rfl (w.heap.size + 1) (d.map bv).toArray rfl rfl 33 zs32 (HO.out.below HB6.out HO.out.lt) HSM.out HSZ.out (bv_one _) ?_; intro w7 hb7 hg7))
      exact ret_dig rfl rfl rfl hb7 HDL.out ⟨rfl, (HF.out.trans (HB6.out.mono HF.out.size)).trans (below_only hg7 (by omega) (HF.out.trans (HB6.out.mono HF.out.size)).size)⟩
end Go.Proofs.YtojgmdagamdcfaaGreatDoor
