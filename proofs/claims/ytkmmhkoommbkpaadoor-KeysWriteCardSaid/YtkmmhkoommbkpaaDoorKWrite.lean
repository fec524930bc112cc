/-
  Signatures written: keys.full, keys.Write.
-/
import Derived.Test.YtkmmhkoommbkpaaDoorKTree
import Derived.Test.YtkmmhkoommbkpaaDoorKRdPlain
import Derived.Test.YtkmmhkoommbkpaaDoorWr
namespace Go.Proofs.YtkmmhkoommbkpaaDoor
open Go.RowKit

set_option maxRecDepth 100000 in
set_option maxHeartbeats 1000000 in
theorem kfull_two (g x y a b : Nat) (A B : Option Addr) (w : World) (h : Box w g 26 #[.slice A x a, .slice B y b]) :
    Calls Tryd.prog 47 #[.slice (some ⟨g, 0, none⟩) 2 2] w fun e w' => e = .returned (.bool (decide (x = 32) && decide (y = 32))) ∧ w' = w := by
  have c0 := h.cell 0
  have c1 := h.cell 1
  simp only [List.getElem?_toArray, List.getElem?_cons_zero, List.getElem?_cons_succ] at c0 c1
  clear h
  go_enter Tryd.func47, Tryd.ntmps47
  go_upto_region 2 with fail
  go_loopw [4, 7] (fun _ i wr => ∃ k : Nat, k ≤ 2 ∧ i = .int .i64 (k : Int) ∧ Hid (0 < k → x = 32) ∧ Hid (1 < k → y = 32) ∧ wr = w) (fun _ i _ => 2 - (intOf i).toNat)
  case atStart => exact ⟨0, by omega, rfl, by exact Lib.hid (fun h => by omega), by exact Lib.hid (fun h => by omega), rfl⟩
  case round =>
    obtain ⟨k, hk, rfl, HX, HY, rfl⟩ := hrel
    have hk3 : k = 0 ∨ k = 1 ∨ k = 2 := by omega
    rcases hk3 with rfl | rfl | rfl
    · by_cases hx : x = 32
      · have e1 : ((x : Int) == 32) = true := by rw [beq_iff_eq]; omega
        have e2 : ((x : Int) != 32) = false := by rw [bne_eq_false_iff_eq]; omega
        have HX1 : Hid (x = 32) := hx
        clear hx
        go_wp2
        go_roundw
        case rel => exact ⟨1, by omega, rfl, by exact Lib.hid (fun _ => HX1.out), by exact Lib.hid (fun h => by omega), by first | rfl | trivial⟩
        case measure => simp [intOf]
      · have e1 : ((x : Int) == 32) = false := by rw [beq_eq_false_iff_ne]; omega
        have e2 : ((x : Int) != 32) = true := by rw [bne_iff_ne]; omega
        go_wp2
        go_ret
        exact ⟨ret_val (by rw [decide_eq_false hx]; rfl), rfl⟩
    · have HX1 := Lib.hid (HX.out (by omega))
      by_cases hy : y = 32
      · have e1 : ((y : Int) == 32) = true := by rw [beq_iff_eq]; omega
        have e2 : ((y : Int) != 32) = false := by rw [bne_eq_false_iff_eq]; omega
        have HY1 : Hid (y = 32) := hy
        clear hy
        go_wp2
        go_roundw
        case rel => exact ⟨2, by omega, rfl, by exact Lib.hid (fun _ => HX1.out), by exact Lib.hid (fun _ => HY1.out), by first | rfl | trivial⟩
        case measure => simp [intOf]
      · have e1 : ((y : Int) == 32) = false := by rw [beq_eq_false_iff_ne]; omega
        have e2 : ((y : Int) != 32) = true := by rw [bne_iff_ne]; omega
        go_wp2
        go_ret
        exact ⟨ret_val (by rw [decide_eq_false hy, decide_eq_true HX1.out]; rfl), rfl⟩
    · have HX1 := Lib.hid (HX.out (by omega))
      have HY1 := Lib.hid (HY.out (by omega))
      go_wp2
      go_ret
      exact ⟨ret_val (by rw [decide_eq_true HY1.out, decide_eq_true HX1.out]; rfl), rfl⟩

/-- What Write does to a writer. -/
def KWriteIs (base a : Nat) (bs : List UInt8) (n : Int) (X Y P : List (List UInt8)) (w : World) (e : Ending) (w' : World) : Prop :=
  e = .returned (.bool (fitsT X Y P)) ∧ Wr w' base a (bs ++ (if fitsT X Y P = true then sigBytes n X Y P else [])) ∧ Below base w w'

theorem WF.box {w w' : World} {base a g : Nat} {bs : List UInt8} {t : TypeId} {cs : Array Value} (h : WF a w w') (hw : Wr w base a bs) (hb : Box w g t cs) (h1 : t ≠ 5) (h2 : t ≠ 49) : Box w' g t cs := (h.block g hb.lt (hw.not_mine hb h1 h2)).trans hb

theorem wdig_any (base a : Nat) (bs : List UInt8) (D : Option Addr) (ds : List (List UInt8)) (c : Nat) (w : World) (h : Wr w base a bs) (hD : Digs w base D ds) (hl : bs.length + 32 * ds.length ≤ 70368744177664) :
    Calls Tryd.prog 49 #[.pointer (some ⟨a, 0, none⟩), .slice D ds.length c] w fun e w' => e = .returned (.tuple #[]) ∧ Wr w' base a (bs ++ ds.flatten) ∧ Below base w w' ∧ ∀ j cs, Box w j 30 cs → Box w' j 30 cs := by
  have e : ds.flatMap id = ds.flatten := by simp
  have hs : Src w a D ((ds.flatMap id).map bv) := by
    rw [e]
    exact Src.of_sees h hD.sees
  refine (wdigest_any base a D ds hD.all c bs w h hs hl).mono ?_
  rintro e' w' ⟨he, hw, hf⟩
  rw [e] at hw
  exact ⟨he, hw, hf.below h, fun j cs hj => hf.box h hj (by decide) (by decide)⟩
theorem wnum_two (base a g : Nat) (bs : List UInt8) (n m : Int) (w : World) (h : Wr w base a bs) (hg : Box w g 3 #[.int .i64 n, .int .i64 m]) (hl : bs.length + 16 ≤ 70368744177664) :
    Calls Tryd.prog 48 #[.pointer (some ⟨a, 0, none⟩), .slice (some ⟨g, 0, none⟩) 2 2] w fun e w' => e = .returned (.tuple #[]) ∧ Wr w' base a (bs ++ (numBytes n ++ numBytes m)) ∧ Below base w w' ∧ ∀ j cs, Box w j 30 cs → Box w' j 30 cs := by
  have hs : Src w a (some ⟨g, 0, none⟩) ([n, m].map (Value.int .i64)) := Src.of_box h hg (by decide) (by decide)
  refine (wnum_any base a (some ⟨g, 0, none⟩) [n, m] 2 bs w h hs (by simpa using hl)).mono ?_
  rintro e' w' ⟨he, hw, hf⟩
  have e : [n, m].flatMap numBytes = numBytes n ++ numBytes m := by simp
  rw [e] at hw
  exact ⟨he, hw, hf.below h, fun j cs hj => hf.box h hj (by decide) (by decide)⟩

set_option maxRecDepth 100000 in
set_option maxHeartbeats 2000000 in
theorem kwrite_any (base a : Nat) (bs : List UInt8) (n : Int) (X Y P : List (List UInt8)) (A B C : Option Addr) (x y z : Nat) (hbs : bs.length ≤ 1099511627776) (w : World) (h : Wr w base a bs) (hA : Digs w base A X) (hB : Digs w base B Y) (hC : Digs w base C P) :
    Calls Tryd.prog 18 #[.pointer (some ⟨a, 0, none⟩), .agg (sigV n A X.length x B Y.length y C P.length z)] w (KWriteIs base a bs n X Y P w) := by
  have hF1 : Below w.heap.size w (w.alloc (.cells (sigV n A X.length x B Y.length y C P.length z) 30)) := (Below.refl _ _).alloc (Nat.le_refl _) _
  have HG : Hid (Box (w.alloc (.cells (sigV n A X.length x B Y.length y C P.length z) 30)) w.heap.size 30 (sigV n A X.length x B Y.length y C P.length z)) := Box.made _ _ _
  have HW1 := Lib.hid (h.below_size hF1)
  have HBS : Hid (base ≤ w.heap.size) := h.2.1
  have HF := Lib.hid (hF1.mono HBS.out)
  have HDA := Lib.hid (hA.below HF.out)
  have HDB := Lib.hid (hB.below HF.out)
  have HDC := Lib.hid (hC.below HF.out)
  have HL := Lib.hid hbs
  clear hF1 hA hB hC h hbs
  go_enter Tryd.func18, Tryd.ntmps18
  go_upto_region 1 with fail
  change Code.wp _ _ _ _ (w.alloc (.cells (sigV n A X.length x B Y.length y C P.length z) 30))
  generalize w.alloc (.cells (sigV n A X.length x B Y.length y C P.length z) 30) = w1 at *
  have s1 := HG.out.cell 1
  have s2 := HG.out.cell 2
  have s3 := HG.out.cell 3
  simp only [List.getElem?_toArray, List.getElem?_cons_zero, List.getElem?_cons_succ] at s1 s2 s3
  have HW1s : Hid (base ≤ w1.heap.size) := HW1.out.2.1
  have hF2 : Below w1.heap.size w1 (w1.alloc (.cells #[.slice A X.length x, .slice B Y.length y] 26)) := (Below.refl _ _).alloc (Nat.le_refl _) _
  have HFL := Lib.hid (kfull_two w1.heap.size X.length Y.length x y A B (w1.alloc (.cells #[.slice A X.length x, .slice B Y.length y] 26)) (Box.made _ _ _))
  have HW2 := Lib.hid (HW1.out.below_size hF2)
  have HG2 := Lib.hid (HG.out.below hF2 HG.out.lt)
  have HF2 := Lib.hid (HF.out.trans (hF2.mono HW1s.out))
  have HB12 := Lib.hid (hF2.mono HW1s.out)
  clear hF2
  obtain ⟨fl, hfl⟩ : ∃ fl, (decide (X.length = 32) && decide (Y.length = 32)) = fl := ⟨_, rfl⟩
  rw [hfl] at HFL
  obtain ⟨ft, hft⟩ : ∃ ft, fitsT X Y P = ft := ⟨_, rfl⟩
  have HFT : Hid (fitsT X Y P = ft) := hft
  have HFE : Hid (ft = (fl && decide (P.length ≤ 6))) := by
    show _ = _
    rw [← hft, ← hfl]
    unfold fitsT
    rw [Bool.eq_iff_iff]
    simp
    omega
  rcases fl with _ | _
  · have HFF : Hid (fitsT X Y P = false) := by
      show _ = _
      rw [HFT.out, HFE.out]
      rfl
    clear hfl hft HFE HFT
    go_wp2_with (go_at_call 47; (with_reducible refine (HFL.out).mono ?_); rintro e w2 ⟨rfl, rfl⟩)
    go_ret
    refine ⟨ret_val (congrArg Value.bool HFF.out.symm), ?_, HF2.out⟩
    rw [HFF.out, if_neg (by simp), List.append_nil]
    exact HW2.out
  have HXY : Hid (X.length = 32 ∧ Y.length = 32) := by
    show _ ∧ _
    simpa using hfl
  clear hfl hft
  by_cases hp : P.length ≤ 6
  · have e6 : decide ((6 : Int) < (P.length : Int)) = false := decide_eq_false (by omega)
    have HFF : Hid (fitsT X Y P = true) := by
      show _ = _
      rw [HFT.out, HFE.out, decide_eq_true hp]
      rfl
    have HP6 : Hid (P.length ≤ 6) := hp
    clear HFE HFT hp
    go_upto_region 3 with (go_at_call 47; (with_reducible refine (HFL.out).mono ?_); rintro e w2 ⟨rfl, rfl⟩; have s23 := HG2.out.cell 3; simp only [List.getElem?_toArray, List.getElem?_cons_zero, List.getElem?_cons_succ] at s23)
    have HDA2 := Lib.hid (HDA.out.below HB12.out)
    have HDB2 := Lib.hid (HDB.out.below HB12.out)
    have HDC2 := Lib.hid (HDC.out.below HB12.out)
    have s20 := HG2.out.cell 0
    simp only [List.getElem?_toArray, List.getElem?_cons_zero] at s20
    clear s1 s2 s3 HW1 HFL HDA HDB HDC HG HF HB12
    generalize w1.alloc (.cells #[.slice A X.length x, .slice B Y.length y] 26) = w2 at *
    have HW2s : Hid (base ≤ w2.heap.size) := HW2.out.2.1
    have hF3 : Below w2.heap.size w2 (w2.alloc (.cells #[.int .i64 n, .int .i64 (P.length : Int)] 3)) := (Below.refl _ _).alloc (Nat.le_refl _) _
    have hF3b := hF3.mono HW2s.out
    have HNM := Lib.hid (wnum_two base a w2.heap.size bs n (P.length : Int) _ (HW2.out.below_size hF3) (Box.made _ _ _) (by have := HL.out; omega))
    have HG3 := Lib.hid (HG2.out.below hF3 HG2.out.lt)
    have HB23 := Lib.hid hF3b
    clear hF3 hF3b
    go_upto_region 4 with (go_at_call 48; (with_reducible refine (HNM.out).mono ?_); rintro e w4 ⟨rfl, hw, hb, hk⟩; have HW4 := Lib.hid hw; have HB4 := Lib.hid (HB23.out.trans hb); have HG4 := Lib.hid (hk _ _ HG3.out); clear hw hb hk)
    have HD1 := Lib.hid (wdig_any base a _ A X x w4 HW4.out (HDA2.out.below HB4.out) (by have := HL.out; have := HXY.out; rw [List.length_append, List.length_append, numBytes_len, numBytes_len]; omega))
    have t1 := HG4.out.cell 1
    simp only [List.getElem?_toArray, List.getElem?_cons_zero, List.getElem?_cons_succ] at t1
    clear s20 s23 HNM HG3 HB23
    go_upto_region 5 with (go_at_call 49; (with_reducible refine (HD1.out).mono ?_); rintro e w5 ⟨rfl, hw, hb, hk⟩; have HW5 := Lib.hid hw; have HB5 := Lib.hid (HB4.out.trans hb); have HG5 := Lib.hid (hk _ _ HG4.out); clear hw hb hk)
    have HD2 := Lib.hid (wdig_any base a _ B Y y w5 HW5.out (HDB2.out.below HB5.out) (by have := HL.out; have := HXY.out; have := HDA2.out.all.flat; rw [List.length_append, List.length_append, List.length_append, numBytes_len, numBytes_len]; omega))
    have t2 := HG5.out.cell 2
    simp only [List.getElem?_toArray, List.getElem?_cons_zero, List.getElem?_cons_succ] at t2
    clear t1 HD1 HW4 HG4 HB4
    go_upto_region 6 with (go_at_call 49; (with_reducible refine (HD2.out).mono ?_); rintro e w6 ⟨rfl, hw, hb, hk⟩; have HW6 := Lib.hid hw; have HB6 := Lib.hid (HB5.out.trans hb); have HG6 := Lib.hid (hk _ _ HG5.out); clear hw hb hk)
    have HD3 := Lib.hid (wdig_any base a _ C P z w6 HW6.out (HDC2.out.below HB6.out) (by have := HL.out; have := HXY.out; have := HP6.out; have := HDA2.out.all.flat; have := HDB2.out.all.flat; rw [List.length_append, List.length_append, List.length_append, List.length_append, numBytes_len, numBytes_len]; omega))
    have t3 := HG6.out.cell 3
    simp only [List.getElem?_toArray, List.getElem?_cons_zero, List.getElem?_cons_succ] at t3
    clear t2 HD2 HW5 HG5 HB5
    go_wp2_with (go_at_call 49; (with_reducible refine (HD3.out).mono ?_); rintro e w7 ⟨rfl, hw, hb, hk⟩; have HW7 := Lib.hid hw; have HB7 := Lib.hid (HB6.out.trans hb); clear hw hb hk)
    go_ret
    refine ⟨ret_val (congrArg Value.bool HFF.out.symm), ?_, HF2.out.trans HB7.out⟩
    rw [HFF.out, if_pos rfl]
    have h7 := HW7.out
    unfold sigBytes
    simpa only [List.append_assoc] using h7
  · have e6 : decide ((6 : Int) < (P.length : Int)) = true := decide_eq_true (by omega)
    have HFF : Hid (fitsT X Y P = false) := by
      show _ = _
      rw [HFT.out, HFE.out, decide_eq_false hp]
      rfl
    clear HFE HFT hp
    go_wp2_with (go_at_call 47; (with_reducible refine (HFL.out).mono ?_); rintro e w2 ⟨rfl, rfl⟩; have s23 := HG2.out.cell 3; simp only [List.getElem?_toArray, List.getElem?_cons_zero, List.getElem?_cons_succ] at s23)
    go_ret
    refine ⟨ret_val (congrArg Value.bool HFF.out.symm), ?_, HF2.out⟩
    rw [HFF.out, if_neg (by simp), List.append_nil]
    exact HW2.out
end Go.Proofs.YtkmmhkoommbkpaaDoor
