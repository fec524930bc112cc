/-
  OnceFits, the walk: for every input the law returns true, and nothing that was there is turned.
-/
import Derived.Test.YtdgedhaiefingaaDoorOAlive
import Derived.Test.YtdgedhaiefingaaDoorOSame
import Derived.Deep.RegionHeld3
namespace Go.Proofs.YtdgedhaiefingaaDoor
open Go.RowKit

attribute [local go_sem ↓] ldDigest_def

/-- Two signatures that were made, of digests with the same first four bytes: the same. -/
theorem same_two (seed : List UInt8) (leaf : Int) (d : List UInt8) (g h g' h' : Nat) (a b c c' : Nat) (w : World) (b1 : Box w g 23 ((openT seed leaf d).flatten.map bv).toArray) (b2 : Box w h 23 ((shutT seed leaf d).flatten.map bv).toArray)
    (b3 : Box w g' 23 ((openT seed leaf d).flatten.map bv).toArray) (b4 : Box w h' 23 ((shutT seed leaf d).flatten.map bv).toArray) :
    Calls Tryd.prog 9 #[.agg (onceV g h a b), .agg (onceV g' h' c c')] w fun e w' => e = .returned (.bool true) ∧ Below w.heap.size w w' := by
  obtain ⟨h1, h2⟩ := sign_lens seed leaf d
  have hA : Digs w w.heap.size (some ⟨g, 0, none⟩) (openT seed leaf d) := ⟨open_all seed leaf d, Sees.of_box b1 b1.lt⟩
  have hB : Digs w w.heap.size (some ⟨h, 0, none⟩) (shutT seed leaf d) := ⟨shut_all seed leaf d, Sees.of_box b2 b2.lt⟩
  have hA' : Digs w w.heap.size (some ⟨g', 0, none⟩) (openT seed leaf d) := ⟨open_all seed leaf d, Sees.of_box b3 b3.lt⟩
  have hB' : Digs w w.heap.size (some ⟨h', 0, none⟩) (shutT seed leaf d) := ⟨shut_all seed leaf d, Sees.of_box b4 b4.lt⟩
  have h := rsame_any (openT seed leaf d) (shutT seed leaf d) (openT seed leaf d) (shutT seed leaf d) (some ⟨g, 0, none⟩) (some ⟨h, 0, none⟩) (some ⟨g', 0, none⟩) (some ⟨h', 0, none⟩) a b c c' w hA hB hA' hB' (by omega) (by omega)
  rw [h1, h2, decide_eq_true rfl, decide_eq_true rfl] at h
  exact h
/-- A signature in memory: under what it is right for its own digest. -/
theorem of_made (seed : List UInt8) (leaf : Int) (d : List UInt8) (hd : d.length = 32) (g h : Nat) (c c' : Nat) (w : World) (b1 : Box w g 23 ((openT seed leaf d).flatten.map bv).toArray) (b2 : Box w h 23 ((shutT seed leaf d).flatten.map bv).toArray) (hR : Roots w) :
    Calls Tryd.prog 14 #[.agg (d.map bv).toArray, .agg (onceV g h c c')] w fun e w' => e = .returned (.tuple #[.agg ((pubT seed leaf).map bv).toArray, .bool true]) ∧ Below w.heap.size w w' := by
  obtain ⟨h1, h2⟩ := sign_lens seed leaf d
  have hA : Digs w w.heap.size (some ⟨g, 0, none⟩) (openT seed leaf d) := ⟨open_all seed leaf d, Sees.of_box b1 b1.lt⟩
  have hB : Digs w w.heap.size (some ⟨h, 0, none⟩) (shutT seed leaf d) := ⟨shut_all seed leaf d, Sees.of_box b2 b2.lt⟩
  have h := of_any' d hd (openT seed leaf d) (shutT seed leaf d) (some ⟨g, 0, none⟩) (some ⟨h, 0, none⟩) c c' h1 h2 w hA hB hR
  rw [of_sign] at h
  exact h

/-- The first k bytes of one digest, and the others of another one. -/
def mixD (d e : List UInt8) (k : Nat) : List UInt8 := d.take k ++ e.drop k
theorem mixD_len {d e : List UInt8} (hd : d.length = 32) (he : e.length = 32) {k : Nat} (hk : k ≤ 32) : (mixD d e k).length = 32 := by
  unfold mixD
  rw [List.length_append, List.length_take, List.length_drop]
  omega
theorem mixD_put {d e : List UInt8} (hd : d.length = 32) (he : e.length = 32) {k : Nat} (hk : k < 32) : ((mixD d e k).map bv).toArray.setIfInBounds k (bv (d.getD k 0)) = ((mixD d e (k + 1)).map bv).toArray := by
  unfold mixD
  rw [List.setIfInBounds_toArray]
  congr 1
  have h1 : (d.take k).length = k := by rw [List.length_take]; omega
  rw [List.drop_eq_getElem_cons (by omega), List.map_append, List.map_cons, List.set_append_right _ _ (by rw [List.length_map, h1]; exact Nat.le_refl _), List.length_map, h1, Nat.sub_self, List.set_cons_zero, List.take_succ_eq_append_getElem (by omega), List.getD_eq_getElem?_getD, List.getElem?_eq_getElem (by omega)]
  simp only [List.map_append, List.append_assoc, List.map_cons, List.cons_append, List.nil_append, Option.getD_some]
theorem mixD_same {d e : List UInt8} (hd : d.length = 32) : ∀ j, j < 4 → d.getD j 0 = (mixD d e 4).getD j 0 := by
  intro j hj
  unfold mixD
  rw [List.getD_eq_getElem?_getD, List.getD_eq_getElem?_getD, List.getElem?_append_left (by rw [List.length_take]; omega), List.getElem?_take, if_pos hj]

/-- Three digests in blocks of their own. -/
structure TrioW (w0 : World) (x y z : Array Value) (w : World) : Prop where
  x : Box w w0.heap.size 23 x
  y : Box w (w0.heap.size + 1) 23 y
  z : Box w (w0.heap.size + 1 + 1) 23 z
  far : Below w0.heap.size w0 w
theorem TrioW.call {w0 w w' : World} {x y z : Array Value} (h : TrioW w0 x y z w) (hb : Below w.heap.size w w') : TrioW w0 x y z w' := ⟨h.x.below hb h.x.lt, h.y.below hb h.y.lt, h.z.below hb h.z.lt, h.far.trans (hb.mono h.far.size)⟩
/-- What the last statement reads of memory. -/
structure FitW (w0 : World) (e o q : Nat) (s z p : List UInt8) (g h : Nat) (w : World) : Prop where
  s : Box w w0.heap.size 23 (s.map bv).toArray
  e : Box w e 23 (z.map bv).toArray
  o : Box w o 29 (onceV g h 32 32)
  p : Box w q 23 (p.map bv).toArray
  far : Below w0.heap.size w0 w
theorem FitW.call {w0 w w' : World} {e o q g h : Nat} {s z p : List UInt8} (k : FitW w0 e o q s z p g h w) (hb : Below w.heap.size w w') : FitW w0 e o q s z p g h w' :=
  ⟨k.s.below hb k.s.lt, k.e.below hb k.e.lt, k.o.below hb k.o.lt, k.p.below hb k.p.lt, k.far.trans (hb.mono k.far.size)⟩

set_option maxRecDepth 100000 in
set_option maxHeartbeats 2000000 in
theorem fits_walk (seed : List UInt8) (leaf : Int) (d tail : List UInt8) (w : World) (hs : seed.length = 32) (hd : d.length = 32) (ht : tail.length = 32) (hR : Roots w) :
    Calls Tryd.prog 5 #[.agg (seed.map bv).toArray, .int .i64 leaf, .agg (d.map bv).toArray, .agg (tail.map bv).toArray] w fun e w' => e = .returned (.bool true) ∧ Below w.heap.size w w' := by
  obtain ⟨w1, hw1⟩ : ∃ w1, w1 = ((w.alloc (.cells (seed.map bv).toArray 23)).alloc (.cells (d.map bv).toArray 23)).alloc (.cells (tail.map bv).toArray 23) := ⟨_, rfl⟩
  have HW1 : Hid (TrioW w (seed.map bv).toArray (d.map bv).toArray (tail.map bv).toArray w1) := by
    rw [hw1]
    exact ⟨((Box.made w _ _).alloc _).alloc _, (Box.made_at (by simp) _ _).alloc _, Box.made_at (by simp) _ _, (((Below.refl _ _).alloc (Nat.le_refl _) _).alloc (by simp) _).alloc (by simp; omega) _⟩
  have HAL := Lib.hid (alive_any w1 (hR.of_below HW1.out.far))
  have HE : Hid ((mixD d tail 4).length = 32) := mixD_len hd ht (by decide)
  obtain ⟨he1, he2⟩ := sign_same (mixD_same (e := tail) hd) seed leaf
  have HP : Hid (∀ w', Below w.heap.size w w' → Calls Tryd.prog 7 #[.agg (seed.map bv).toArray, .int .i64 leaf] w' fun e w'' => e = .returned (.agg ((pubT seed leaf).map bv).toArray) ∧ Below w'.heap.size w' w'') := fun w' hb => public_any seed hs leaf w' (hR.of_below hb)
  have HSG : Hid (∀ w', Below w.heap.size w w' → Calls Tryd.prog 10 #[.agg (seed.map bv).toArray, .int .i64 leaf, .agg (d.map bv).toArray] w' (SignIs w' (openT seed leaf d) (shutT seed leaf d))) := fun w' hb => sign_any seed hs leaf d hd w' (hR.of_below hb)
  have HSE : Hid (∀ w', Below w.heap.size w w' → Calls Tryd.prog 10 #[.agg (seed.map bv).toArray, .int .i64 leaf, .agg ((mixD d tail 4).map bv).toArray] w' (SignIs w' (openT seed leaf d) (shutT seed leaf d))) := fun w' hb => by
    rw [he1, he2]
    exact sign_any seed hs leaf _ HE.out w' (hR.of_below hb)
  have HOF : Hid (∀ w' g h, Below w.heap.size w w' → Box w' g 23 ((openT seed leaf d).flatten.map bv).toArray → Box w' h 23 ((shutT seed leaf d).flatten.map bv).toArray → Calls Tryd.prog 14 #[.agg (d.map bv).toArray, .agg (onceV g h 32 32)] w' fun e w'' => e = .returned (.tuple #[.agg ((pubT seed leaf).map bv).toArray, .bool true]) ∧ Below w'.heap.size w' w'') := fun w' g h hb b1 b2 => of_made seed leaf d hd g h 32 32 w' b1 b2 (hR.of_below hb)
  have HSM : Hid (∀ w' g h g' h', Box w' g 23 ((openT seed leaf d).flatten.map bv).toArray → Box w' h 23 ((shutT seed leaf d).flatten.map bv).toArray → Box w' g' 23 ((openT seed leaf d).flatten.map bv).toArray → Box w' h' 23 ((shutT seed leaf d).flatten.map bv).toArray →
      Calls Tryd.prog 9 #[.agg (onceV g h 32 32), .agg (onceV g' h' 32 32)] w' fun e w'' => e = .returned (.bool true) ∧ Below w'.heap.size w' w'') := fun w' g h g' h' b1 b2 b3 b4 => same_two seed leaf d g h g' h' 32 32 32 32 w' b1 b2 b3 b4
  have HPL : Hid ((pubT seed leaf).length = 32) := Lib.hid rfl
  have HMP : Hid (∀ k, k < 32 → ((mixD d tail k).map bv).toArray.setIfInBounds k (bv (d.getD k 0)) = ((mixD d tail (k + 1)).map bv).toArray) := Lib.hid (fun k hk => mixD_put hd ht hk)
  have HM0 : Hid (mixD d tail 0 = tail) := Lib.hid (by unfold mixD; simp)
  have HML : Hid (∀ k, k ≤ 32 → (mixD d tail k).length = 32) := Lib.hid (fun k hk => mixD_len hd ht hk)
  have hn1 := dig_list seed hs
  have HDS := Lib.hid (dig_size seed hs)
  have HDD := Lib.hid (dig_size d hd)
  have HDT := Lib.hid (dig_size tail ht)
  have HST := Lib.hid (dig_same tail ht)
  have HDL := Lib.hid hd
  have HLD0 := Lib.hid (dig_list d hd)
  have HLT := Lib.hid (dig_list tail ht)
  have HSO := Lib.hid (once_size)
  clear hs hd ht hR he1 he2
  generalize pubT seed leaf = pk at *
  generalize openT seed leaf d = X at *
  generalize shutT seed leaf d = Y at *
  go_enter Tryd.func5, Tryd.ntmps5
  go_upto_region 1 with fail
  change Code.wp _ _ _ _ (((w.alloc (.cells (seed.map bv).toArray 23)).alloc (.cells (d.map bv).toArray 23)).alloc (.cells (tail.map bv).toArray 23))
  rw [← hw1]
  clear hw1
  go_upto_region 5 with (first
    | (go_at_call 6; (with_reducible refine (HAL.out).mono ?_); rintro e w2 ⟨rfl, hb⟩; have HW2 := Lib.hid (HW1.out.call hb); clear hb)
    | ((with_reducible show wpList _ _ _ ((⟨some 16, _, _, _, _, _⟩ : Oper) :: _) _ _); refine wpList_load_mid rfl 23 (.tmp 7) rfl (w.heap.size + 1 + 1) 0 rfl (tail.map bv) _ HW2.out.z.range Tryd.underlying23 rfl HLT.out ?_)
    | (((with_reducible show wpList _ _ _ ((⟨none, Op.store _ (.tmp 9) (.tmp 16), _, _, _, _⟩ : Oper) :: _) _ _)); refine wpList_store_box rfl 23 (.tmp 9) (.tmp 16) rfl w2.heap.size (tail.map bv).toArray rfl rfl 23 zs32 (Box.made w2 _ _) HST.out HDT.out (bv_one _) ?_; intro w3 hb3 hg3; have HX3 := Lib.hid hb3; have hbl := ((Below.refl w2.heap.size w2).alloc (Nat.le_refl _) (.cells zs32 23)).trans (below_only hg3 (Nat.le_refl _) (by simp)); have HW3 := Lib.hid (HW2.out.call hbl); have HBL3 := Lib.hid hbl; clear hb3 hg3 hbl))
  clear HAL HW1
  have HB3 : Hid (Below w2.heap.size w2 w3) := HBL3
  go_loopw [10] (fun i wr => ∃ k : Nat, k ≤ 4 ∧ i = .int .i64 (k : Int) ∧ Hid (Box wr w2.heap.size 23 ((mixD d tail k).map bv).toArray) ∧ Hid (Below w2.heap.size w2 wr)) (fun i _ => 4 - (intOf i).toNat)
  case atStart => exact ⟨0, Nat.zero_le _, rfl, (by first | exact Lib.hid trivial | (rw [HM0.out]; first | exact HX3 | exact Lib.hid trivial)), HB3⟩
  case round =>
    clear HX3 HW3 HB3 HBL3
    obtain ⟨k, hk, rfl, HX, HB⟩ := hrel
    have HT := Lib.hid (HW2.out.call HB.out)
    by_cases hlt : k < 4
    · have hc : wr.cell? ⟨w.heap.size + 1, k, none⟩ = some (.int .u8 ((d.getD k 0).toNat : Int)) := by
        rw [HT.out.y.cell, List.getElem?_toArray, List.getElem?_map, List.getElem?_eq_getElem (by have := HDL.out; omega), List.getD_eq_getElem?_getD, List.getElem?_eq_getElem (by have := HDL.out; omega)]
        rfl
      obtain ⟨v, hv⟩ : ∃ v, wr.cell? ⟨w2.heap.size, k, none⟩ = some v := by
        rw [HX.out.cell, List.getElem?_toArray, List.getElem?_map, List.getElem?_eq_getElem (by have := HML.out k (by omega); omega)]
        exact ⟨_, rfl⟩
      have hf := HX.out.free k
      have HX2 : Hid (Box (wr.setCell ⟨w2.heap.size, k, none⟩ (.int .u8 ((d.getD k 0).toNat : Int))) w2.heap.size 23 ((mixD d tail (k + 1)).map bv).toArray) := by
        have h := HX.out.put k (bv (d.getD k 0))
        rw [HMP.out k (by omega)] at h
        exact h
      have HB2 : Hid (Below w2.heap.size w2 (wr.setCell ⟨w2.heap.size, k, none⟩ (.int .u8 ((d.getD k 0).toNat : Int)))) := HB.out.setCell (p := ⟨w2.heap.size, k, none⟩) (Nat.le_refl _) _
      generalize (d.getD k 0).toNat = b at *
      have i0 : (0 : Int) ≤ (k : Int) := by omega
      have i1 : (k : Int) < 32 := by omega
      clear HX HB HT
      go_wp2
      go_roundw
      case rel => exact ⟨k + 1, hlt, by go_num, HX2, HB2⟩
      case measure => simp [intOf]; omega
    · obtain rfl : k = 4 := by omega
      have HLS : Hid ((Tryd.prog.info? 23).map (·.size) = some (seed.map bv).length) := hn1
      have HLD : Hid ((Tryd.prog.info? 23).map (·.size) = some (d.map bv).length) := HLD0.out
      have HBX : Hid (Below w.heap.size w wr) := HT.out.far
      have HFT : Hid (∀ W, Below wr.heap.size wr W → TrioW w (seed.map bv).toArray (d.map bv).toArray (tail.map bv).toArray W) := Lib.hid (fun W hb => HT.out.call hb)
      clear HW2 HB HT
      go_upto_region 9 with (first
        | ((with_reducible show wpList _ _ _ ((⟨some 26, _, _, _, _, _⟩ : Oper) :: _) _ _); refine wpList_load_mid rfl 23 (.tmp 4) rfl w.heap.size 0 rfl (seed.map bv) _ (HFT.out wr (Below.refl _ _)).x.range Tryd.underlying23 rfl HLS.out ?_)
        | ((with_reducible show wpList _ _ _ ((⟨some 28, _, _, _, _, _⟩ : Oper) :: _) _ _); refine wpList_load_mid rfl 23 (.tmp 6) rfl (w.heap.size + 1) 0 rfl (d.map bv) _ (HFT.out wr (Below.refl _ _)).y.range Tryd.underlying23 rfl HLD.out ?_)
        | (go_at_call 10; (with_reducible refine (HSG.out _ HBX.out).mono ?_); rintro e w4 ⟨g, h, rfl, b1, b2, _, _, _, hb⟩; have HS4 := Lib.hid (And.intro b1 b2); have HB4 := Lib.hid hb; clear b1 b2 hb)
        | (((with_reducible show wpList _ _ _ ((⟨none, Op.store _ (.tmp 11) (.tmp 29), _, _, _, _⟩ : Oper) :: _) _ _)); refine wpList_store_box rfl 29 (.tmp 11) (.tmp 29) rfl w4.heap.size (onceV g h 32 32) rfl rfl 29 #[.slice none 0 0, .slice none 0 0] (Box.made w4 _ _) rfl (HSO.out g h 32 32) (once_one g h 32 32) ?_; intro w5 hb5 hg5; have HO5 := Lib.hid hb5; have hbl := ((Below.refl w4.heap.size w4).alloc (Nat.le_refl _) (.cells #[.slice none 0 0, .slice none 0 0] 29)).trans (below_only hg5 (Nat.le_refl _) (by simp)); have HS5 := Lib.hid (And.intro (HS4.out.1.below hbl HS4.out.1.lt) (HS4.out.2.below hbl HS4.out.2.lt)); have HB5 := Lib.hid (HB4.out.trans (hbl.mono HB4.out.size)); clear hb5 hg5 hbl))
      clear HS4 HB4
      have HSB : Hid (∀ W, TrioW w (seed.map bv).toArray (d.map bv).toArray (tail.map bv).toArray W → W.rangeAt (w.heap.size + 1) 0 (d.map bv)) := Lib.hid (fun W h => h.y.range)
      have HT5 := Lib.hid (HFT.out w5 HB5.out)
      have HX5 := Lib.hid (HX.out.below HB5.out HX.out.lt)
      have HLO := Lib.hid (once_list g h 32 32)
      have HSMp := Lib.hid (dig_same pk HPL.out)
      have HSZp := Lib.hid (dig_size pk HPL.out)
      clear HX HB5 HFT HBX HSB
      go_upto_region 10 with (first
        | ((with_reducible show wpList _ _ _ ((⟨some 31, _, _, _, _, _⟩ : Oper) :: _) _ _); refine wpList_load_mid rfl 23 (.tmp 6) rfl (w.heap.size + 1) 0 rfl (d.map bv) _ HT5.out.y.range Tryd.underlying23 rfl HLD.out ?_)
        | ((with_reducible show wpList _ _ _ ((⟨some 32, _, _, _, _, _⟩ : Oper) :: _) _ _); refine wpList_load_mid rfl 29 (.tmp 11) rfl w4.heap.size 0 rfl (onceV g h 32 32).toList _ (Box.range HO5.out) Tryd.underlying29 rfl HLO.out ?_)
        | (go_at_call 14; (with_reducible refine (HOF.out _ _ _ HT5.out.far HS5.out.1 HS5.out.2).mono ?_); rintro e w6 ⟨rfl, hb⟩; have HT6 := Lib.hid (HT5.out.call hb); have HO6 := Lib.hid (HO5.out.below hb HO5.out.lt); have HX6 := Lib.hid (HX5.out.below hb HX5.out.lt); have HS6 := Lib.hid (And.intro (HS5.out.1.below hb HS5.out.1.lt) (HS5.out.2.below hb HS5.out.2.lt)); clear hb)
        | (((with_reducible show wpList _ _ _ ((⟨none, Op.store _ (.tmp 12) (.tmp 34), _, _, _, _⟩ : Oper) :: _) _ _)); refine wpList_store_box rfl 23 (.tmp 12) (.tmp 34) rfl w6.heap.size (pk.map bv).toArray rfl rfl 23 zs32 (Box.made w6 _ _) HSMp.out HSZp.out (bv_one _) ?_; intro w7 hb7 hg7; have hbl := ((Below.refl w6.heap.size w6).alloc (Nat.le_refl _) (.cells zs32 23)).trans (below_only hg7 (Nat.le_refl _) (by simp)); have HFW : Hid (FitW w w2.heap.size w4.heap.size w6.heap.size seed (mixD d tail 4) pk g h w7) := ⟨HT6.out.x.below hbl HT6.out.x.lt, HX6.out.below hbl HX6.out.lt, HO6.out.below hbl HO6.out.lt, hb7, HT6.out.far.trans (hbl.mono HT6.out.far.size)⟩; have HS7 := Lib.hid (And.intro (HS6.out.1.below hbl HS6.out.1.lt) (HS6.out.2.below hbl HS6.out.2.lt)); clear hb7 hg7 hbl))
      try simp only [Act.put]
      clear HT5 HT6 HO5 HO6 HX5 HX6 HS5 HS6 HSG HOF HSMp HSZp
      have HLE := Lib.hid (dig_list (mixD d tail 4) HE.out)
      have HLP := Lib.hid (dig_list pk HPL.out)
      generalize mixD d tail 4 = z at *
      have hund := Tryd.underlying23
      have hund2 := Tryd.underlying29
      obtain ⟨w8, hw8⟩ : ∃ W, W = w7.drew := ⟨_, rfl⟩
      have HS0 : Hid (FitW w w2.heap.size w4.heap.size w6.heap.size seed z pk g h w7.drew) := HFW.out.call (Below.refl _ _).drew
      have HS8 : Hid (Box w8 g 23 (X.flatten.map bv).toArray ∧ Box w8 h 23 (Y.flatten.map bv).toArray) := by rw [hw8]; exact ⟨HS7.out.1.drew, HS7.out.2.drew⟩
      refine wp_region_held_drew (S := FitW w w2.heap.size w4.heap.size w6.heap.size seed z pk g h) (by kernel_rfl) HS0.out (fun hS => ?_)
      rw [← hw8]
      rw [← hw8] at hS
      clear HS0 hw8 HS7 HFW
      refine wpAnyH_ready (rs := [0]) (by decide +kernel) (by simp) (AllReadyH.cons rfl (fun K hK => ?_) AllReadyH.nil)
      go_simp
      refine hK.out _ _ (hS) (fun hS => ?_)
      clear hK K
      (try simp only [Act.put])
      refine wpAnyH_ready (rs := [1]) (by decide +kernel) (by simp) (AllReadyH.cons rfl (fun K hK => ?_) AllReadyH.nil)
      go_simp
      refine hK.out _ _ (hS) (fun hS => ?_)
      clear hK K
      (try simp only [Act.put])
      (refine wpAnyH_take (i := 2) (v := .agg (pk.map bv).toArray) rfl (by kernel_rfl) (by kernel_rfl) (by kernel_rfl) (fun _ _ _ h => h) (yieldsIf_load_mid (by kernel_rfl) 23 (.tmp 12) rfl w6.heap.size (0) (by kernel_rfl) (pk.map bv) _ (fun w h => h.p.range) hund rfl HLP.out) hS ?_)
      (try simp only [Act.put])
      (refine wpAnyH_take (i := 3) (v := .agg (seed.map bv).toArray) rfl (by kernel_rfl) (by kernel_rfl) (by kernel_rfl) (fun _ _ _ h => h) (yieldsIf_load_mid (by kernel_rfl) 23 (.tmp 4) rfl w.heap.size (0) (by kernel_rfl) (seed.map bv) _ (fun w h => h.s.range) hund rfl hn1) hS ?_)
      (try simp only [Act.put])
      (refine wpAnyH_take (i := 4) (v := .int .i64 leaf) rfl (by kernel_rfl) (by kernel_rfl) (by kernel_rfl) (fun _ _ _ h => h) (Or.inl ⟨by kernel_rfl, fun w hSw => by go_simp⟩) hS ?_)
      (try simp only [Act.put])
      refine wpAnyH_ready (rs := [5]) (by decide +kernel) (by simp) (AllReadyH.cons rfl (fun K hK => ?_) AllReadyH.nil)
      go_simp
      (go_at_call 7; (with_reducible refine (HP.out _ hS.far).mono ?_); rintro e w9 ⟨rfl, hb⟩)
      have HS9 := Lib.hid (And.intro (HS8.out.1.below hb HS8.out.1.lt) (HS8.out.2.below hb HS8.out.2.lt))
      refine hK.out _ _ (hS.call hb) (fun hS => ?_)
      clear hK K
      (try simp only [Act.put])
      clear hb
      refine wpAnyH_ready (rs := [6]) (by decide +kernel) (by simp) (AllReadyH.cons rfl (fun K hK => ?_) AllReadyH.nil)
      rw [if_pos (by kernel_rfl)]
      refine step_eq_dig_if (.tmp 38) (.tmp 41) rfl pk pk rfl rfl HPL.out HPL.out ?_
      rw [decide_eq_true (rfl : pk = pk)]
      simp only [Act.put]
      refine hK.out _ _ (hS) (fun hS => ?_)
      clear hK K
      (try simp only [Act.put])
      refine wpAnyH_ready (rs := [7]) (by decide +kernel) (by simp) (AllReadyH.cons rfl (fun K hK => ?_) AllReadyH.nil)
      go_simp
      refine hK.out _ _ (hS) (fun hS => ?_)
      clear hK K
      (try simp only [Act.put])
      refine wpAnyH_ready (rs := [8]) (by decide +kernel) (by simp) (AllReadyH.cons rfl (fun K hK => ?_) AllReadyH.nil)
      go_simp
      refine hK.out _ _ (hS) (fun hS => ?_)
      clear hK K
      (try simp only [Act.put])
      (refine wpAnyH_take (i := 9) (v := .agg (onceV g h 32 32)) rfl (by kernel_rfl) (by kernel_rfl) (by kernel_rfl) (fun _ _ _ h => h) (yieldsIf_load_mid (by kernel_rfl) 29 (.tmp 11) rfl w4.heap.size (0) (by kernel_rfl) ((onceV g h 32 32).toList) _ (fun w h => Box.range h.o) hund2 rfl HLO.out) hS ?_)
      (try simp only [Act.put])
      (refine wpAnyH_take (i := 10) (v := .agg (seed.map bv).toArray) rfl (by kernel_rfl) (by kernel_rfl) (by kernel_rfl) (fun _ _ _ h => h) (yieldsIf_load_mid (by kernel_rfl) 23 (.tmp 4) rfl w.heap.size (0) (by kernel_rfl) (seed.map bv) _ (fun w h => h.s.range) hund rfl hn1) hS ?_)
      (try simp only [Act.put])
      (refine wpAnyH_take (i := 11) (v := .int .i64 leaf) rfl (by kernel_rfl) (by kernel_rfl) (by kernel_rfl) (fun _ _ _ h => h) (Or.inl ⟨by kernel_rfl, fun w hSw => by go_simp⟩) hS ?_)
      (try simp only [Act.put])
      (refine wpAnyH_take (i := 12) (v := .agg (z.map bv).toArray) rfl (by kernel_rfl) (by kernel_rfl) (by kernel_rfl) (fun _ _ _ h => h) (yieldsIf_load_mid (by kernel_rfl) 23 (.tmp 9) rfl w2.heap.size (0) (by kernel_rfl) (z.map bv) _ (fun w h => h.e.range) hund rfl HLE.out) hS ?_)
      (try simp only [Act.put])
      refine wpAnyH_ready (rs := [13]) (by decide +kernel) (by simp) (AllReadyH.cons rfl (fun K hK => ?_) AllReadyH.nil)
      go_simp
      (go_at_call 10; (with_reducible refine (HSE.out _ hS.far).mono ?_); rintro e w10 ⟨g2, h2, rfl, b1, b2, _, _, _, hb⟩)
      have HS10 := Lib.hid (HSM.out w10 g h g2 h2 (HS9.out.1.below hb HS9.out.1.lt) (HS9.out.2.below hb HS9.out.2.lt) b1 b2)
      refine hK.out _ _ (hS.call hb) (fun hS => ?_)
      clear hK K
      (try simp only [Act.put])
      clear hb b1 b2
      refine wpAnyH_ready (rs := [14]) (by decide +kernel) (by simp) (AllReadyH.cons rfl (fun K hK => ?_) AllReadyH.nil)
      go_simp
      (go_at_call 9; (with_reducible refine (HS10.out).mono ?_); rintro e w11 ⟨rfl, hb⟩)
      refine hK.out _ _ (hS.call hb) (fun hS => ?_)
      clear hK K
      (try simp only [Act.put])
      clear hb
      refine wpAnyH_ready (rs := [15]) (by decide +kernel) (by simp) (AllReadyH.cons rfl (fun K hK => ?_) AllReadyH.nil)
      go_simp
      refine hK.out _ _ (hS) (fun hS => ?_)
      clear hK K
      (try simp only [Act.put])
      refine wpAnyH_ready (rs := [16]) (by decide +kernel) (by simp) (AllReadyH.cons rfl (fun K hK => ?_) AllReadyH.nil)
      go_simp
      refine hK.out _ _ (hS) (fun hS => ?_)
      clear hK K
      (try simp only [Act.put])
      refine wpAnyH_done (by kernel_rfl) ?_ _
      have HF := Lib.hid hS.far
      clear hS hund hund2 HS10
      go_wp2
      go_ret
      exact ⟨rfl, HF.out⟩
end Go.Proofs.YtdgedhaiefingaaDoor
