/-
  Votes written: keys.Write, vote.writes, vote.writeHead, vote.Write, with a writer and without; cert.refused. Written by gen_cewr.py.
  Words written: slices.ContainsFunc by cert.refused, cert.Write.
  A vote's and a word's bytes, by the document: wapentakeref13.Bytes, wapentakeref14.Bytes.
-/
import Derived.Test.YtbclepdcngaonaaGreatDoorKW
import Derived.Test.YtbclepdcngaonaaGreatDoorVD
import Derived.Test.YtbclepdcngaonaaGreatDoorED
import Derived.Test.YtbclepdcngaonaaGreatDoorEA
import Derived.Test.YtbclepdcngaonaaGreatDoorEJ
import Derived.BigQuiet
import Derived.Lib.QuietBelow
namespace Go.Proofs.YtbclepdcngaonaaGreatDoor
open Go.RowKit Go.Maps Go.Sort

/-! ### Without a writer -/
set_option maxRecDepth 100000 in
set_option maxHeartbeats 2000000 in
theorem kwrite_nil14 (s : SgM) (w : World) :
    Calls Tryz.prog 100 #[.pointer none, .agg s.cells] w fun e w' => e = .returned (.bool (fitsT s.X s.Y s.P)) ∧ Below w.heap.size w w' := by
  obtain ⟨n, X, Y, P, A, x, B, y, C, z⟩ := s
  show Calls _ _ #[.pointer none, .agg (sigV n A X.length x B Y.length y C P.length z)] w fun e w' => e = .returned (.bool (fitsT X Y P)) ∧ Below w.heap.size w w'
  have HF : Hid (Below w.heap.size w (w.alloc (.cells (sigV n A X.length x B Y.length y C P.length z) 72))) := (Below.refl _ _).alloc (Nat.le_refl _) _
  have HG : Hid (Box (w.alloc (.cells (sigV n A X.length x B Y.length y C P.length z) 72)) w.heap.size 72 (sigV n A X.length x B Y.length y C P.length z)) := Box.made _ _ _
  go_enter Tryz.func100, Tryz.ntmps100
  go_upto_region 1 with fail
  change Code.wp _ _ _ _ (w.alloc (.cells (sigV n A X.length x B Y.length y C P.length z) 72))
  generalize w.alloc (.cells (sigV n A X.length x B Y.length y C P.length z) 72) = w1 at *
  have s1 := HG.out.cell 1
  have s2 := HG.out.cell 2
  have s3 := HG.out.cell 3
  simp only [List.getElem?_toArray, List.getElem?_cons_zero, List.getElem?_cons_succ] at s1 s2 s3
  have hF2 : Below w1.heap.size w1 (w1.alloc (.cells #[.slice A X.length x, .slice B Y.length y] 68)) := (Below.refl _ _).alloc (Nat.le_refl _) _
  have HFL := Lib.hid (kfull_two w1.heap.size X.length Y.length x y A B (w1.alloc (.cells #[.slice A X.length x, .slice B Y.length y] 68)) (Box.made _ _ _))
  have HG2 := Lib.hid (HG.out.below hF2 HG.out.lt)
  have HF2 := Lib.hid (HF.out.trans (hF2.mono HF.out.size))
  clear hF2
  obtain ⟨fl, hfl⟩ : ∃ fl, (decide (X.length = 32) && decide (Y.length = 32)) = fl := ⟨_, rfl⟩
  rw [hfl] at HFL
  obtain ⟨ft, hft⟩ : ∃ ft, fitsT X Y P = ft := ⟨_, rfl⟩
  have HFT : Hid (fitsT X Y P = ft) := hft
  have HFE : Hid (ft = (fl && decide (P.length ≤ 6))) := by
    show _ = _
    rw [← hft, ← hfl]
    unfold fitsT
    rw [Bool.eq_iff_iff]
    simp
    omega
  rcases fl with _ | _
  · have HFF : Hid (fitsT X Y P = false) := by
      show _ = _
      rw [HFT.out, HFE.out]
      rfl
    clear hfl hft HFE HFT
    go_wp2_with (go_at_call 131; (with_reducible refine (HFL.out).mono ?_); rintro e w2 ⟨rfl, rfl⟩)
    go_ret
    exact ⟨ret_val (congrArg Value.bool HFF.out.symm), HF2.out⟩
  clear hfl hft
  by_cases hp : P.length ≤ 6
  · have e6 : decide ((6 : Int) < (P.length : Int)) = false := decide_eq_false (by omega)
    have HFF : Hid (fitsT X Y P = true) := by
      show _ = _
      rw [HFT.out, HFE.out, decide_eq_true hp]
      rfl
    clear HFE HFT hp
    go_upto_region 3 with (go_at_call 131; (with_reducible refine (HFL.out).mono ?_); rintro e w2 ⟨rfl, rfl⟩; have s23 := HG2.out.cell 3; simp only [List.getElem?_toArray, List.getElem?_cons_zero, List.getElem?_cons_succ] at s23)
    have s20 := HG2.out.cell 0
    have s21 := HG2.out.cell 1
    have s22 := HG2.out.cell 2
    simp only [List.getElem?_toArray, List.getElem?_cons_zero, List.getElem?_cons_succ] at s20 s21 s22
    clear s1 s2 s3 HFL HG HF
    generalize w1.alloc (.cells #[.slice A X.length x, .slice B Y.length y] 68) = w2 at *
    have hF3 : Below w2.heap.size w2 (w2.alloc (.cells #[.int .i64 n, .int .i64 (P.length : Int)] 3)) := (Below.refl _ _).alloc (Nat.le_refl _) _
    have HF3 := Lib.hid (HF2.out.trans (hF3.mono HF2.out.size))
    have h3 := HG2.out.below hF3 HG2.out.lt
    have t1 := h3.cell 1
    have t2 := h3.cell 2
    have t3 := h3.cell 3
    simp only [List.getElem?_toArray, List.getElem?_cons_zero, List.getElem?_cons_succ] at t1 t2 t3
    clear hF3 h3
    go_wp2_with (first
      | (go_at_call 62; (with_reducible refine (wnum_nil _ _).mono ?_); rintro e w4 ⟨rfl, rfl⟩)
      | (go_at_call 64; (with_reducible refine (wdigest_nil _ _).mono ?_); rintro e w5 ⟨rfl, rfl⟩))
    go_ret
    exact ⟨ret_val (congrArg Value.bool HFF.out.symm), HF3.out⟩
  · have e6 : decide ((6 : Int) < (P.length : Int)) = true := decide_eq_true (by omega)
    have HFF : Hid (fitsT X Y P = false) := by
      show _ = _
      rw [HFT.out, HFE.out, decide_eq_false hp]
      rfl
    clear HFE HFT hp
    go_wp2_with (go_at_call 131; (with_reducible refine (HFL.out).mono ?_); rintro e w2 ⟨rfl, rfl⟩; have s23 := HG2.out.cell 3; simp only [List.getElem?_toArray, List.getElem?_cons_zero, List.getElem?_cons_succ] at s23)
    go_ret
    exact ⟨ret_val (congrArg Value.bool HFF.out.symm), HF2.out⟩

section
attribute [local go_sem ↓] ldSg_def ldVt_def ldDigest_def bsAll_def
set_option maxRecDepth 100000 in
set_option maxHeartbeats 2000000 in
theorem vwrites_any14 (s : SgM) (w : World) : Calls Tryz.prog 98 #[.agg s.cells] w fun e w' => e = .returned (.bool (fitsT s.X s.Y s.P)) ∧ Below w.heap.size w w' := by
  obtain ⟨w1, hw1⟩ : ∃ w1, w1 = w.alloc (.cells s.cells 72) := ⟨_, rfl⟩
  have HF : Hid (Below w.heap.size w w1) := by rw [hw1]; exact (Below.refl _ _).alloc (Nat.le_refl _) _
  have hG : Box w1 w.heap.size 72 s.cells := by rw [hw1]; exact Box.made _ _ _
  have ls : (ldSg (.pointer (some ⟨w.heap.size, 0, none⟩))).run Tryz.prog w1 = .ok (.agg s.cells) w1 := range_sg hG.range
  have HK := Lib.hid (kwrite_nil14 s w1)
  clear hG
  generalize fitsT s.X s.Y s.P = f at *
  generalize s.cells = SC at *
  go_enter Tryz.func98, Tryz.ntmps98
  go_upto_region 1 with fail
  change Code.wp _ _ _ _ (w.alloc (.cells SC 72))
  rw [← hw1]
  clear hw1
  go_wp2_with (go_at_call 100; (with_reducible refine (HK.out).mono ?_); rintro e w2 ⟨rfl, hb⟩; have HB := Lib.hid (HF.out.trans (hb.mono HF.out.size)); clear hb)
  go_ret
  exact ⟨rfl, HB.out⟩

set_option maxRecDepth 100000 in
set_option maxHeartbeats 4000000 in
theorem whead_nil14 (m : VtM) (w : World) : Calls Tryz.prog 99 #[.pointer none, .agg m.cells.toArray] w fun e w' => e = .returned (.tuple #[]) ∧ Below w.heap.size w w' := by
  obtain ⟨w1, hw1⟩ : ∃ w1, w1 = w.alloc (.cells m.cells.toArray 74) := ⟨_, rfl⟩
  have HF : Hid (Below w.heap.size w w1) := by rw [hw1]; exact (Below.refl _ _).alloc (Nat.le_refl _) _
  have HB1 : Hid (Box w1 w.heap.size 74 m.cells.toArray) := by rw [hw1]; exact Box.made _ _ _
  have c0 : w1.cell? ⟨w.heap.size, 0, none⟩ = some (.int .i64 m.x.kind) := HB1.out.vt_0
  have c1 : w1.cell? ⟨w.heap.size, 1, none⟩ = some (.int .i64 m.x.epoch) := HB1.out.vt_1
  have c2 : w1.cell? ⟨w.heap.size, 2, none⟩ = some (.int .i64 m.x.height) := HB1.out.vt_2
  have c3 : w1.cell? ⟨w.heap.size, 3, none⟩ = some (.int .i64 m.x.round) := HB1.out.vt_3
  have c36 : w1.cell? ⟨w.heap.size, 36, none⟩ = some (.int .i64 m.x.frm) := HB1.out.vt_36 m.x.len
  obtain ⟨w2, hw2⟩ : ∃ w2, w2 = w1.alloc (.cells #[.int .i64 m.x.kind, .int .i64 m.x.epoch, .int .i64 m.x.height, .int .i64 m.x.round, .int .i64 m.x.frm] 3) := ⟨_, rfl⟩
  have hb2 : Below w1.heap.size w1 w2 := by rw [hw2]; exact (Below.refl _ _).alloc (Nat.le_refl _) _
  have HF2 := Lib.hid (HF.out.trans (hb2.mono HF.out.size))
  have ld : (ldDigest (.pointer (some ⟨w.heap.size, 4, none⟩))).run Tryz.prog w2 = .ok (.agg (m.x.dig.map bv).toArray) w2 := range_load (HB1.out.below hb2 HB1.out.lt).vt_dig m.x.len
  have hD1 : ∀ d ∈ [m.x.dig], d.length = 32 := by
    intro d hd
    rw [List.mem_singleton.1 hd]
    exact m.x.len
  have hbd : (bsAll 1 #[(0, .agg (m.x.dig.map bv).toArray)]).run Tryz.prog w2 = .ok (.slice (some ⟨w2.heap.size, 0, none⟩) 1 1) (w2.alloc (.cells ([m.x.dig].flatten.map bv).toArray 29)) := build_digs [m.x.dig] hD1 (by simp) (by simp) w2
  have HF3 : Hid (Below w.heap.size w (w2.alloc (.cells ([m.x.dig].flatten.map bv).toArray 29))) := Lib.hid (HF2.out.alloc HF2.out.size _)
  clear hb2 hD1 HB1
  generalize m.cells.toArray = cs at *
  generalize ([m.x.dig].flatten.map bv).toArray = FD at *
  generalize (m.x.dig.map bv).toArray = P1 at *
  go_enter Tryz.func99, Tryz.ntmps99
  go_upto_region 1 with fail
  change Code.wp _ _ _ _ (w.alloc (.cells cs 74))
  rw [← hw1]
  clear hw1
  go_upto_region 2 with (go_at_call 62; (with_reducible refine (wnum_nil _ _).mono ?_); rintro e w4 ⟨rfl, rfl⟩)
  change Code.wp _ _ _ _ (w1.alloc (.cells #[.int .i64 m.x.kind, .int .i64 m.x.epoch, .int .i64 m.x.height, .int .i64 m.x.round, .int .i64 m.x.frm] 3))
  rw [← hw2]
  clear hw2 c0 c1 c2 c3 c36
  go_wp2_with (go_at_call 64; (with_reducible refine (wdigest_nil _ _).mono ?_); rintro e w5 ⟨rfl, rfl⟩)
  go_end0
  exact ⟨rfl, HF3.out⟩

set_option maxRecDepth 100000 in
set_option maxHeartbeats 4000000 in
theorem vwrite_nil14 (m : VtM) (w : World) : Calls Tryz.prog 63 #[.pointer none, .agg m.cells.toArray] w fun e w' => e = .returned (.bool (vFits m.x)) ∧ Below w.heap.size w w' := by
  obtain ⟨w1, hw1⟩ : ∃ w1, w1 = w.alloc (.cells m.cells.toArray 74) := ⟨_, rfl⟩
  have HF : Hid (Below w.heap.size w w1) := by rw [hw1]; exact (Below.refl _ _).alloc (Nat.le_refl _) _
  have HX : Hid (Box w1 w.heap.size 74 m.cells.toArray) := by rw [hw1]; exact Box.made _ _ _
  have HC : Hid (∀ w', Below w1.heap.size w1 w' → (ldSg (.pointer (some ⟨w.heap.size, 37, none⟩))).run Tryz.prog w' = .ok (.agg m.sg.cells) w' ∧ (ldVt (.pointer (some ⟨w.heap.size, 0, none⟩))).run Tryz.prog w' = .ok (.agg m.cells.toArray) w') := Lib.hid (fun w' hb => by
    have h := HX.out.below hb HX.out.lt
    exact ⟨h.ld_vsg, h.ld_vt⟩)
  have HW := Lib.hid (vwrites_any14 m.sg w1)
  have HH : Hid (∀ w', Calls Tryz.prog 99 #[.pointer none, .agg m.cells.toArray] w' fun e w'' => e = .returned (.tuple #[]) ∧ Below w'.heap.size w' w'') := Lib.hid (fun w' => whead_nil14 m w')
  have HK : Hid (∀ w', Calls Tryz.prog 100 #[.pointer none, .agg m.sg.cells] w' fun e w'' => e = .returned (.bool (fitsT m.sg.X m.sg.Y m.sg.P)) ∧ Below w'.heap.size w' w'') := Lib.hid (fun w' => kwrite_nil14 m.sg w')
  have HE : Hid (vFits m.x = fitsT m.sg.X m.sg.Y m.sg.P) := Lib.hid rfl
  have k0 := (HC.out w1 (Below.refl _ _)).1
  clear HX
  generalize vFits m.x = f at *
  generalize fitsT m.sg.X m.sg.Y m.sg.P = f2 at *
  have hf : f = f2 := HE.out
  subst hf
  clear HE
  generalize m.cells.toArray = MC at *
  generalize m.sg.cells = SC at *
  go_enter Tryz.func63, Tryz.ntmps63
  go_upto_region 1 with fail
  change Code.wp _ _ _ _ (w.alloc (.cells MC 74))
  rw [← hw1]
  clear hw1
  cases f with
  | false =>
    go_wp2_with (go_at_call 98; (with_reducible refine (HW.out).mono ?_); rintro e w2 ⟨rfl, hb⟩; have HB := Lib.hid (HF.out.trans (hb.mono HF.out.size)); clear hb)
    go_ret
    exact ⟨rfl, HB.out⟩
  | true =>
    go_wp2_with (first
      | (go_at_call 98; (with_reducible refine (HW.out).mono ?_); rintro e w2 ⟨rfl, hb⟩; have HB2 := Lib.hid hb; have k1 := (HC.out w2 hb).2; clear hb)
      | (go_at_call 99; (with_reducible refine (HH.out _).mono ?_); rintro e w3 ⟨rfl, hb⟩; have HB3 := Lib.hid (HB2.out.trans (hb.mono HB2.out.size)); have k2 := (HC.out w3 HB3.out).1; clear hb)
      | (go_at_call 100; (with_reducible refine (HK.out _).mono ?_); rintro e w4 ⟨rfl, hb⟩; have HB4 := Lib.hid (HB3.out.trans (hb.mono HB3.out.size)); clear hb))
    go_ret
    exact ⟨rfl, HF.out.trans (HB4.out.mono HF.out.size)⟩

set_option maxRecDepth 100000 in
set_option maxHeartbeats 2000000 in
theorem refused_any14 (m : VtM) (w : World) : Calls Tryz.prog 61 #[.agg m.cells.toArray] w fun e w' => e = .returned (.bool (!vFits m.x)) ∧ Below w.heap.size w w' := by
  obtain ⟨w1, hw1⟩ : ∃ w1, w1 = w.alloc (.cells m.cells.toArray 74) := ⟨_, rfl⟩
  have HF : Hid (Below w.heap.size w w1) := by rw [hw1]; exact (Below.refl _ _).alloc (Nat.le_refl _) _
  have hX : Box w1 w.heap.size 74 m.cells.toArray := by rw [hw1]; exact Box.made _ _ _
  have lv := hX.ld_vt
  have HW := Lib.hid (vwrite_nil14 m w1)
  clear hX
  generalize vFits m.x = f at *
  generalize m.cells.toArray = MC at *
  go_enter Tryz.func61, Tryz.ntmps61
  go_upto_region 1 with fail
  change Code.wp _ _ _ _ (w.alloc (.cells MC 74))
  rw [← hw1]
  clear hw1
  go_wp2_with (go_at_call 63; (with_reducible refine (HW.out).mono ?_); rintro e w2 ⟨rfl, hb⟩; have HB := Lib.hid (HF.out.trans (hb.mono HF.out.size)); clear hb)
  go_ret
  exact ⟨rfl, HB.out⟩
end

/-! ### With a writer, told by frames -/
set_option maxRecDepth 100000 in
theorem wdig_wf14 (base a : Nat) (bs : List UInt8) (D : Option Addr) (ds : List (List UInt8)) (c : Nat) (w : World) (h : Wr w base a bs) (hD : Digs w base D ds) (hl : bs.length + 32 * ds.length ≤ 70368744177664) :
    Calls Tryz.prog 64 #[.pointer (some ⟨a, 0, none⟩), .slice D ds.length c] w fun e w' => e = .returned (.tuple #[]) ∧ Wr w' base a (bs ++ ds.flatten) ∧ WF a w w' := by
  have e : ds.flatMap id = ds.flatten := by simp
  have hs : Src w a D ((ds.flatMap id).map bv) := by
    rw [e]
    exact Src.of_sees h hD.sees
  refine (wdigest_any base a D ds hD.all c bs w h hs hl).mono ?_
  rintro e' w' ⟨he, hw, hf⟩
  rw [e] at hw
  exact ⟨he, hw, hf⟩
set_option maxRecDepth 100000 in
theorem wnum_wf14 (base a g : Nat) (bs : List UInt8) (n m : Int) (w : World) (h : Wr w base a bs) (hg : Box w g 3 #[.int .i64 n, .int .i64 m]) (hl : bs.length + 16 ≤ 70368744177664) :
    Calls Tryz.prog 62 #[.pointer (some ⟨a, 0, none⟩), .slice (some ⟨g, 0, none⟩) 2 2] w fun e w' => e = .returned (.tuple #[]) ∧ Wr w' base a (bs ++ (numBytes n ++ numBytes m)) ∧ WF a w w' := by
  have hs : Src w a (some ⟨g, 0, none⟩) ([n, m].map (Value.int .i64)) := Src.of_box h hg (by decide) (by decide)
  refine (wnum_any base a (some ⟨g, 0, none⟩) [n, m] 2 bs w h hs (by simpa using hl)).mono ?_
  rintro e' w' ⟨he, hw, hf⟩
  have e : [n, m].flatMap numBytes = numBytes n ++ numBytes m := by simp
  rw [e] at hw
  exact ⟨he, hw, hf⟩
set_option maxRecDepth 100000 in
set_option maxHeartbeats 2000000 in
theorem kwrite_wf14 (base a : Nat) (bs : List UInt8) (n : Int) (X Y P : List (List UInt8)) (A B C : Option Addr) (x y z : Nat) (hbs : bs.length ≤ 1099511627776) (hfit : fitsT X Y P = true) (w : World) (h : Wr w base a bs) (hA : Digs w base A X) (hB : Digs w base B Y) (hC : Digs w base C P) :
    Calls Tryz.prog 100 #[.pointer (some ⟨a, 0, none⟩), .agg (sigV n A X.length x B Y.length y C P.length z)] w fun e w' => e = .returned (.bool true) ∧ Wr w' base a (bs ++ sigBytes n X Y P) ∧ WF a w w' := by
  have hF1 : Below w.heap.size w (w.alloc (.cells (sigV n A X.length x B Y.length y C P.length z) 72)) := (Below.refl _ _).alloc (Nat.le_refl _) _
  have HG : Hid (Box (w.alloc (.cells (sigV n A X.length x B Y.length y C P.length z) 72)) w.heap.size 72 (sigV n A X.length x B Y.length y C P.length z)) := Box.made _ _ _
  have HW1 := Lib.hid (h.below_size hF1)
  have HBS : Hid (base ≤ w.heap.size) := h.2.1
  have HF := Lib.hid (hF1.mono HBS.out)
  have HA1 := Lib.hid (WF.of_below hF1 h.lt)
  have HDA := Lib.hid (hA.below HF.out)
  have HDB := Lib.hid (hB.below HF.out)
  have HDC := Lib.hid (hC.below HF.out)
  have HL := Lib.hid hbs
  have HXY : Hid (X.length = 32 ∧ Y.length = 32 ∧ P.length ≤ 6) := Lib.hid (by unfold fitsT at hfit; exact of_decide_eq_true hfit)
  clear hF1 hA hB hC h hbs hfit
  go_enter Tryz.func100, Tryz.ntmps100
  go_upto_region 1 with fail
  change Code.wp _ _ _ _ (w.alloc (.cells (sigV n A X.length x B Y.length y C P.length z) 72))
  generalize w.alloc (.cells (sigV n A X.length x B Y.length y C P.length z) 72) = w1 at *
  have s1 := HG.out.cell 1
  have s2 := HG.out.cell 2
  have s3 := HG.out.cell 3
  simp only [List.getElem?_toArray, List.getElem?_cons_zero, List.getElem?_cons_succ] at s1 s2 s3
  have HW1s : Hid (base ≤ w1.heap.size) := HW1.out.2.1
  have hF2 : Below w1.heap.size w1 (w1.alloc (.cells #[.slice A X.length x, .slice B Y.length y] 68)) := (Below.refl _ _).alloc (Nat.le_refl _) _
  have hfl := kfull_two w1.heap.size X.length Y.length x y A B (w1.alloc (.cells #[.slice A X.length x, .slice B Y.length y] 68)) (Box.made _ _ _)
  rw [decide_eq_true HXY.out.1, decide_eq_true HXY.out.2.1] at hfl
  have HFL := Lib.hid hfl
  have HW2 := Lib.hid (HW1.out.below_size hF2)
  have HG2 := Lib.hid (HG.out.below hF2 HG.out.lt)
  have HA2 := Lib.hid (HA1.out.trans (WF.of_below hF2 HW1.out.lt))
  have HB12 := Lib.hid (hF2.mono HW1s.out)
  clear hF2 hfl
  have e6 : decide ((6 : Int) < (P.length : Int)) = false := decide_eq_false (by have := HXY.out.2.2; omega)
  go_upto_region 3 with (go_at_call 131; (with_reducible refine (HFL.out).mono ?_); rintro e w2 ⟨rfl, rfl⟩; have s23 := HG2.out.cell 3; simp only [List.getElem?_toArray, List.getElem?_cons_zero, List.getElem?_cons_succ] at s23)
  have HDA2 := Lib.hid (HDA.out.below HB12.out)
  have HDB2 := Lib.hid (HDB.out.below HB12.out)
  have HDC2 := Lib.hid (HDC.out.below HB12.out)
  have s20 := HG2.out.cell 0
  simp only [List.getElem?_toArray, List.getElem?_cons_zero] at s20
  clear s1 s2 s3 HW1 HFL HDA HDB HDC HG HF HB12 HA1
  generalize w1.alloc (.cells #[.slice A X.length x, .slice B Y.length y] 68) = w2 at *
  have HW2s : Hid (base ≤ w2.heap.size) := HW2.out.2.1
  have hF3 : Below w2.heap.size w2 (w2.alloc (.cells #[.int .i64 n, .int .i64 (P.length : Int)] 3)) := (Below.refl _ _).alloc (Nat.le_refl _) _
  have hF3b := hF3.mono HW2s.out
  have HW3 := Lib.hid (HW2.out.below_size hF3)
  have HNM := Lib.hid (wnum_wf14 base a w2.heap.size bs n (P.length : Int) _ HW3.out (Box.made _ _ _) (by have := HL.out; omega))
  have HG3 := Lib.hid (HG2.out.below hF3 HG2.out.lt)
  have HB23 := Lib.hid hF3b
  have HA3 := Lib.hid (HA2.out.trans (WF.of_below hF3 HW2.out.lt))
  clear hF3 hF3b HA2
  go_upto_region 4 with (go_at_call 62; (with_reducible refine (HNM.out).mono ?_); rintro e w4 ⟨rfl, hw, hf⟩; have HW4 := Lib.hid hw; have HB4 := Lib.hid (HB23.out.trans (hf.below HW3.out)); have HG4 := Lib.hid (hf.box HW3.out HG3.out (by decide) (by decide)); have HA4 := Lib.hid (HA3.out.trans hf); clear hw hf)
  have HD1 := Lib.hid (wdig_wf14 base a _ A X x w4 HW4.out (HDA2.out.below HB4.out) (by have := HL.out; have := HXY.out; rw [List.length_append, List.length_append, numBytes_len, numBytes_len]; omega))
  have t1 := HG4.out.cell 1
  simp only [List.getElem?_toArray, List.getElem?_cons_zero, List.getElem?_cons_succ] at t1
  clear s20 s23 HNM HG3 HB23 HA3 HW3
  go_upto_region 5 with (go_at_call 64; (with_reducible refine (HD1.out).mono ?_); rintro e w5 ⟨rfl, hw, hf⟩; have HW5 := Lib.hid hw; have HB5 := Lib.hid (HB4.out.trans (hf.below HW4.out)); have HG5 := Lib.hid (hf.box HW4.out HG4.out (by decide) (by decide)); have HA5 := Lib.hid (HA4.out.trans hf); clear hw hf)
  have HD2 := Lib.hid (wdig_wf14 base a _ B Y y w5 HW5.out (HDB2.out.below HB5.out) (by have := HL.out; have := HXY.out; have := HDA2.out.all.flat; rw [List.length_append, List.length_append, List.length_append, numBytes_len, numBytes_len]; omega))
  have t2 := HG5.out.cell 2
  simp only [List.getElem?_toArray, List.getElem?_cons_zero, List.getElem?_cons_succ] at t2
  clear t1 HD1 HW4 HG4 HB4 HA4
  go_upto_region 6 with (go_at_call 64; (with_reducible refine (HD2.out).mono ?_); rintro e w6 ⟨rfl, hw, hf⟩; have HW6 := Lib.hid hw; have HB6 := Lib.hid (HB5.out.trans (hf.below HW5.out)); have HG6 := Lib.hid (hf.box HW5.out HG5.out (by decide) (by decide)); have HA6 := Lib.hid (HA5.out.trans hf); clear hw hf)
  have HD3 := Lib.hid (wdig_wf14 base a _ C P z w6 HW6.out (HDC2.out.below HB6.out) (by have := HL.out; have := HXY.out; have := HDA2.out.all.flat; have := HDB2.out.all.flat; rw [List.length_append, List.length_append, List.length_append, List.length_append, numBytes_len, numBytes_len]; omega))
  have t3 := HG6.out.cell 3
  simp only [List.getElem?_toArray, List.getElem?_cons_zero, List.getElem?_cons_succ] at t3
  clear t2 HD2 HW5 HG5 HB5 HA5
  go_wp2_with (go_at_call 64; (with_reducible refine (HD3.out).mono ?_); rintro e w7 ⟨rfl, hw, hf⟩; have HW7 := Lib.hid hw; have HA7 := Lib.hid (HA6.out.trans hf); clear hw hf)
  go_ret
  refine ⟨rfl, ?_, HA7.out⟩
  have h7 := HW7.out
  unfold sigBytes
  simpa only [List.append_assoc] using h7

section
attribute [local go_sem ↓] ldSg_def ldVt_def
set_option maxRecDepth 100000 in
set_option maxHeartbeats 4000000 in
theorem vwrite_any14 (base a : Nat) (bs : List UInt8) (m : VtM) (hbs : bs.length ≤ 4294967296) (hfit : vFits m.x = true) (w : World) (h : Wr w base a bs) (hA : Digs w base m.A m.x.opn) (hB : Digs w base m.B m.x.sht) (hC : Digs w base m.C m.x.pth) :
    Calls Tryz.prog 63 #[.pointer (some ⟨a, 0, none⟩), .agg m.cells.toArray] w fun e w' => e = .returned (.bool true) ∧ Wr w' base a (bs ++ voteB m.x) ∧ WF a w w' := by
  obtain ⟨w1, hw1⟩ : ∃ w1, w1 = w.alloc (.cells m.cells.toArray 74) := ⟨_, rfl⟩
  have hF : Below w.heap.size w w1 := by rw [hw1]; exact (Below.refl _ _).alloc (Nat.le_refl _) _
  have HX : Hid (Box w1 w.heap.size 74 m.cells.toArray) := by rw [hw1]; exact Box.made _ _ _
  have HBS : Hid (base ≤ w.heap.size) := h.2.1
  have HW1 := Lib.hid (h.below_size hF)
  have HA1 := Lib.hid (WF.of_below hF h.lt)
  have HB1 := Lib.hid (hF.mono HBS.out)
  have HDG : Hid (∀ w', Below base w w' → Digs w' base m.A m.x.opn ∧ Digs w' base m.B m.x.sht ∧ Digs w' base m.C m.x.pth) := Lib.hid (fun w' hb => ⟨hA.below hb, hB.below hb, hC.below hb⟩)
  have k0 : (ldSg (.pointer (some ⟨w.heap.size, 37, none⟩))).run Tryz.prog w1 = .ok (.agg m.sg.cells) w1 := HX.out.ld_vsg
  have hw := vwrites_any14 m.sg w1
  have HFT : Hid (fitsT m.sg.X m.sg.Y m.sg.P = true) := Lib.hid hfit
  rw [HFT.out] at hw
  have HWS := Lib.hid hw
  have HL := Lib.hid hbs
  clear hF h hA hB hC hw hbs hfit
  have HSC : Hid (m.sg.cells = sigV m.x.leaf m.A m.x.opn.length m.a m.B m.x.sht.length m.b m.C m.x.pth.length m.c) := Lib.hid rfl
  have HLS : Hid (∀ w', Box w' w.heap.size 74 m.cells.toArray → (ldSg (.pointer (some ⟨w.heap.size, 37, none⟩))).run Tryz.prog w' = .ok (.agg m.sg.cells) w' ∧ (ldVt (.pointer (some ⟨w.heap.size, 0, none⟩))).run Tryz.prog w' = .ok (.agg m.cells.toArray) w') := Lib.hid (fun w' h => ⟨h.ld_vsg, h.ld_vt⟩)
  have HVB : Hid (voteB m.x = headB m.x ++ sigBytes m.x.leaf m.x.opn m.x.sht m.x.pth) := Lib.hid rfl
  have HHL := Lib.hid (headB_len m.x)
  generalize voteB m.x = VB at *
  generalize hsc : m.sg.cells = SC at *
  clear hsc
  generalize hmc : m.cells.toArray = MC at *
  have HMC := Lib.hid hmc
  clear hmc
  go_enter Tryz.func63, Tryz.ntmps63
  go_upto_region 1 with fail
  change Code.wp _ _ _ _ (w.alloc (.cells MC 74))
  rw [← hw1]
  clear hw1
  go_upto_region 3 with (go_at_call 98; (with_reducible refine (HWS.out).mono ?_); rintro e w2 ⟨rfl, hb⟩; have HW2 := Lib.hid (HW1.out.below_size hb); have HX2 := Lib.hid (HX.out.below hb HX.out.lt); have HA2 := Lib.hid (HA1.out.trans (WF.of_below hb HW1.out.lt)); have HB2 := Lib.hid (HB1.out.trans (hb.mono HW1.out.2.1)); clear hb)
  clear k0 HWS HX HW1 HA1 HB1
  obtain ⟨_, l2⟩ := HLS.out w2 HX2.out
  have HH := Lib.hid (whead_any base a bs m w2 HW2.out HL.out)
  rw [HMC.out] at HH
  go_upto_region 4 with (go_at_call 99; (with_reducible refine (HH.out).mono ?_); rintro e w3 ⟨rfl, hw, hf⟩; have HW3 := Lib.hid hw; have HX3 := Lib.hid (hf.box HW2.out HX2.out (by decide) (by decide)); have HA3 := Lib.hid (HA2.out.trans hf); have HB3 := Lib.hid (HB2.out.trans (hf.below HW2.out)); clear hw hf)
  clear l2 HH HX2 HA2 HW2 HB2
  obtain ⟨l3, _⟩ := HLS.out w3 HX3.out
  obtain ⟨d1, d2, d3⟩ := HDG.out w3 HB3.out
  have HK := Lib.hid (kwrite_wf14 base a (bs ++ headB m.x) m.x.leaf m.x.opn m.x.sht m.x.pth m.A m.B m.C m.a m.b m.c (by have := HL.out; rw [List.length_append, HHL.out]; omega) HFT.out w3 HW3.out d1 d2 d3)
  rw [← HSC.out] at HK
  clear d1 d2 d3 HDG
  go_wp2_with (go_at_call 100; (with_reducible refine (HK.out).mono ?_); rintro e w4 ⟨rfl, hw, hf⟩; have HW4 := Lib.hid hw; have HA4 := Lib.hid (HA3.out.trans hf); clear hw hf)
  go_ret
  refine ⟨rfl, ?_, HA4.out⟩
  rw [HVB.out, ← List.append_assoc]
  exact HW4.out
end

end Go.Proofs.YtbclepdcngaonaaGreatDoor

namespace Go.Proofs.YtbclepdcngaonaaGreatDoor
open Go.RowKit Go.Maps Go.Sort

/-! ### Is there one that can't be written? -/
def noFit (m : VtM) : Bool := !vFits m.x
def posR (ms : List VtM) : Nat := ms.findIdx noFit
def posRI (ms : List VtM) : Int := if posR ms < ms.length then (posR ms : Int) else -1
set_option maxRecDepth 100000 in
theorem posR_ne {ms : List VtM} {j : Nat} (h : j < posR ms) (hj : j < ms.length) : noFit (ms[j]'hj) = false := by
  have := List.not_of_lt_findIdx h
  simpa using this
set_option maxRecDepth 100000 in
theorem posR_eq {ms : List VtM} (h : posR ms < ms.length) : noFit (ms[posR ms]'h) = true := List.findIdx_getElem (w := h)
def allFit (ms : List VtM) : Bool := ms.all fun m => vFits m.x
set_option maxRecDepth 100000 in
theorem not_all_fit : ∀ ms : List VtM, (!allFit ms) = ms.any noFit
  | [] => rfl
  | x :: ms => by
    have h := not_all_fit ms
    unfold allFit at h ⊢
    rw [List.all_cons, List.any_cons, Bool.not_and, h]
    rfl

attribute [local go_sem ↓] ldVt_def
set_option maxRecDepth 100000 in
set_option maxHeartbeats 2000000 in
theorem index_ref14 (ms : List VtM) (A : Option Addr) (c : Nat) (hn : ms.length ≤ 1000000) (w : World) (hS : VtK.See w w.heap.size A ms) :
    Calls Tryz.prog 96 #[.slice A ms.length c, .func (.func 61) #[] #[]] w fun e w' => e = .returned (.int .i64 (posRI ms)) ∧ Below w.heap.size w w' := by
  have HS := Lib.hid hS
  have HN := Lib.hid hn
  have HP : Hid (posR ms ≤ ms.length) := Lib.hid List.findIdx_le_length
  clear hS hn
  go_enter Tryz.func96, Tryz.ntmps96
  go_wp2
  go_loopw [8] (fun n wr => ∃ k : Nat, k ≤ posR ms ∧ n = .int .i64 (k : Int) ∧ Hid (Below w.heap.size w wr)) (fun n _ => ms.length - (intOf n).toNat)
  case atStart => exact ⟨0, Nat.zero_le _, rfl, Lib.hid (Below.refl _ _)⟩
  case round =>
    obtain ⟨k, hk, rfl, HF⟩ := hrel
    by_cases hlt : k < ms.length
    · obtain ⟨g, oo, rfl, hlv⟩ := row_vote (EK.See.far HS.out HF.out) hlt
      have lk := hlv wr (Below.refl _ _)
      have HK := Lib.hid (refused_any14 (ms[k]'hlt) wr)
      have HLE := Lib.hid hlt
      have wk : IntKind.i64.wrap ((k : Int) + 1) = ((k + 1 : Nat) : Int) := by
        rw [IntKind.wrap_i64]
        have := HN.out
        omega
      have i1 : (k : Int) < (ms.length : Int) := by omega
      have HQ : Hid (k < posR ms ∧ (!vFits (ms[k]'hlt).x) = false ∨ k = posR ms ∧ (!vFits (ms[k]'hlt).x) = true) := Lib.hid (by
        rcases Nat.lt_or_ge k (posR ms) with h | h
        · exact .inl ⟨h, posR_ne h hlt⟩
        · have e : k = posR ms := by omega
          refine .inr ⟨e, ?_⟩
          have h2 := posR_eq (ms := ms) (by omega)
          simp only [← e] at h2
          exact h2)
      generalize ms[k]'hlt = x at *
      clear hlv
      rcases HQ.out with ⟨h, hb⟩ | ⟨h, hb⟩
      · rw [hb] at HK
        have HH := Lib.hid h
        clear hb h hk HQ
        go_wp2_with ((with_reducible refine (HK.out).mono ?_); rintro e w2 ⟨rfl, hb2⟩; have HB2 := Lib.hid hb2; clear hb2)
        go_roundw
        case rel => exact ⟨k + 1, HH.out, by go_num, Lib.hid (HF.out.trans (HB2.out.mono HF.out.size))⟩
        case measure => have := HLE.out; simp [intOf]; omega
      · rw [hb] at HK
        have HH : Hid (posRI ms = (k : Int)) := Lib.hid (by unfold posRI; rw [← h, if_pos hlt])
        clear hb h hk HQ
        go_wp2_with ((with_reducible refine (HK.out).mono ?_); rintro e w2 ⟨rfl, hb2⟩; have HB2 := Lib.hid hb2; clear hb2)
        go_ret
        exact ⟨by rw [HH.out]; rfl, HF.out.trans (HB2.out.mono HF.out.size)⟩
    · have HH : Hid (posRI ms = -1) := Lib.hid (by unfold posRI; have := HP.out; rw [if_neg (by omega)])
      have i1 : ¬ (k : Int) < (ms.length : Int) := by omega
      go_wp2
      go_ret
      exact ⟨by rw [HH.out]; rfl, HF.out⟩
set_option maxRecDepth 100000 in
theorem contains_ref14 (ms : List VtM) (A : Option Addr) (c : Nat) (hn : ms.length ≤ 1000000) (w : World) (hS : VtK.See w w.heap.size A ms) :
    Calls Tryz.prog 60 #[.slice A ms.length c, .func (.func 61) #[] #[]] w fun e w' => e = .returned (.bool (!allFit ms)) ∧ Below w.heap.size w w' := by
  have HI := Lib.hid (index_ref14 ms A c hn w hS)
  have HE : Hid (decide (0 ≤ posRI ms) = !allFit ms) := Lib.hid (by
    rw [not_all_fit, Bool.eq_iff_iff]
    simp only [decide_eq_true_iff]
    rw [List.any_eq_true]
    unfold posRI
    by_cases h : posR ms < ms.length
    · rw [if_pos h]
      exact ⟨fun _ => ⟨_, List.getElem_mem h, posR_eq h⟩, fun _ => by omega⟩
    · rw [if_neg h]
      refine ⟨fun h => by omega, fun ⟨x, hx, hb⟩ => ?_⟩
      exact absurd (List.findIdx_lt_length_of_exists ⟨x, hx, hb⟩) h)
  clear hS
  generalize posRI ms = k at *
  go_enter Tryz.func60, Tryz.ntmps60
  go_wp2_with (go_at_call 96; (with_reducible refine (HI.out).mono ?_); rintro e w2 ⟨rfl, hb⟩; have HB := Lib.hid hb; clear hb)
  go_ret
  exact ⟨ret_val (congrArg Value.bool HE.out), HB.out⟩

/-! ### cert.Write -/
/-- A vote whose lists are seen below B. -/
structure VAt (w : World) (B : Nat) (m : VtM) : Prop where
  opn : Digs w B m.A m.x.opn
  sht : Digs w B m.B m.x.sht
  pth : Digs w B m.C m.x.pth
set_option maxRecDepth 100000 in
theorem VAt.below {w w' : World} {B : Nat} {m : VtM} (h : VAt w B m) (hb : Below B w w') : VAt w' B m := ⟨h.opn.below hb, h.sht.below hb, h.pth.below hb⟩
set_option maxRecDepth 100000 in
theorem votes_take14 {vs : List VtM} {k : Nat} (h : k < vs.length) : ((vs.map VtM.x).take (k + 1)).flatMap voteB = ((vs.map VtM.x).take k).flatMap voteB ++ voteB (vs[k]'h).x := by
  have h2 : k < (vs.map VtM.x).length := by rw [List.length_map]; exact h
  rw [List.take_succ_eq_append_getElem h2, List.flatMap_append, List.getElem_map]
  simp

attribute [local go_sem ↓] stVt_def alVt14_def
set_option maxRecDepth 100000 in
set_option maxHeartbeats 2000000 in
theorem cwrite_no14 (r : Int) (vs : List VtM) (A : Option Addr) (c : Nat) (hl : vs.length ≤ 1000000) (hfit : allFit vs = false) (p : Value) (w : World) (hV : VtK.See w w.heap.size A vs) :
    Calls Tryz.prog 31 #[p, .agg (crtV r A vs.length c)] w fun e w' => e = .returned (.bool false) ∧ Below w.heap.size w w' := by
  obtain ⟨w1, hw1⟩ : ∃ w1, w1 = w.alloc (.cells (crtV r A vs.length c) 35) := ⟨_, rfl⟩
  have HF : Hid (Below w.heap.size w w1) := by rw [hw1]; exact (Below.refl _ _).alloc (Nat.le_refl _) _
  have hX : Box w1 w.heap.size 35 (crtV r A vs.length c) := by rw [hw1]; exact Box.made _ _ _
  have k1 : w1.cell? ⟨w.heap.size, 1, none⟩ = some (.slice A vs.length c) := hX.cell 1
  have hc := contains_ref14 vs A c hl w1 (EK.See.far hV HF.out)
  rw [hfit] at hc
  have HC := Lib.hid hc
  clear hX hV hc
  go_enter Tryz.func31, Tryz.ntmps31
  go_upto_region 1 with fail
  change Code.wp _ _ _ _ (w.alloc (.cells (crtV r A vs.length c) 35))
  rw [← hw1]
  clear hw1
  go_wp2_with (go_at_call 60; (with_reducible refine (HC.out).mono ?_); rintro e w2 ⟨rfl, hb⟩; have HB := Lib.hid (HF.out.trans (hb.mono HF.out.size)); clear hb)
  go_ret
  exact ⟨rfl, HB.out⟩

end Go.Proofs.YtbclepdcngaonaaGreatDoor

namespace Go.Proofs.YtbclepdcngaonaaGreatDoor
open Go.RowKit Go.Maps Go.Sort

attribute [local go_sem ↓] ldVt_def ldSg_def
set_option maxRecDepth 100000 in
set_option maxHeartbeats 4000000 in
theorem rvbytes_not14 (m : VtM) (hfit : vFits m.x = false) (w : World) :
    Calls Tryz.prog 67 #[.agg m.cells.toArray] w fun e w' => e = .returned (.tuple #[str [], .bool false]) ∧ Below w.heap.size w w' := by
  obtain ⟨w1, hw1⟩ : ∃ w1, w1 = w.alloc (.cells m.cells.toArray 74) := ⟨_, rfl⟩
  have HF : Hid (Below w.heap.size w w1) := by rw [hw1]; exact (Below.refl _ _).alloc (Nat.le_refl _) _
  have hX : Box w1 w.heap.size 74 m.cells.toArray := by rw [hw1]; exact Box.made _ _ _
  have ls := hX.ld_vsg
  have HK : Hid (Calls Tryz.prog 102 #[.agg m.sg.cells] w1 fun e w' => e = .returned (.tuple #[str [], .bool false]) ∧ Below w1.heap.size w1 w') := Lib.hid (rkwrite_not m.x.leaf m.x.opn m.x.sht m.x.pth m.A m.B m.C m.a m.b m.c hfit w1)
  clear hX
  generalize m.sg.cells = SC at *
  generalize m.cells.toArray = MC at *
  go_enter Tryz.func67, Tryz.ntmps67
  go_upto_region 1 with fail
  change Code.wp _ _ _ _ (w.alloc (.cells MC 74))
  rw [← hw1]
  clear hw1
  go_wp2_with (go_at_call 102; (with_reducible refine (HK.out).mono ?_); rintro e w2 ⟨rfl, hb⟩; have HB := Lib.hid (HF.out.trans (hb.mono HF.out.size)); clear hb)
  go_ret2
  exact ⟨rfl, HB.out⟩

set_option maxRecDepth 100000 in
set_option maxHeartbeats 4000000 in
theorem rvbytes_any14 (m : VtM) (hN : VtNum m.x) (hl : R64 m.x.leaf) (hfit : vFits m.x = true) (w : World) (hS : VSee w m) :
    Calls Tryz.prog 67 #[.agg m.cells.toArray] w fun e w' => e = .returned (.tuple #[str (voteB m.x), .bool true]) ∧ Below w.heap.size w w' := by
  obtain ⟨w1, hw1⟩ : ∃ w1, w1 = w.alloc (.cells m.cells.toArray 74) := ⟨_, rfl⟩
  have HF : Hid (Below w.heap.size w w1) := by rw [hw1]; exact (Below.refl _ _).alloc (Nat.le_refl _) _
  have HX : Hid (Box w1 w.heap.size 74 m.cells.toArray) := by rw [hw1]; exact Box.made _ _ _
  have HLV : Hid (∀ w', Below w1.heap.size w1 w' → (ldVt (.pointer (some ⟨w.heap.size, 0, none⟩))).run Tryz.prog w' = .ok (.agg m.cells.toArray) w') := Lib.hid (fun w' hb => (HX.out.below hb HX.out.lt).ld_vt)
  have ls := HX.out.ld_vsg
  have hs := hS.call HF.out
  have HK : Hid (Calls Tryz.prog 102 #[.agg m.sg.cells] w1 fun e w' => e = .returned (.tuple #[str (sigBytes m.x.leaf m.x.opn m.x.sht m.x.pth), .bool true]) ∧ Below w1.heap.size w1 w') := Lib.hid (rkwrite_any m.x.leaf hl m.x.opn m.x.sht m.x.pth m.A m.B m.C m.a m.b m.c hfit w1 hs.opn hs.sht hs.pth)
  have HH : Hid (∀ w', Calls Tryz.prog 103 #[.agg m.cells.toArray] w' fun e w'' => e = .returned (str (headB m.x)) ∧ Below w'.heap.size w' w'') := Lib.hid (fun w' => rhead_any m hN w')
  obtain ⟨s1, t1, u1⟩ := cat14c (show headB m.x ++ sigBytes m.x.leaf m.x.opn m.x.sht m.x.pth = voteB m.x from rfl) (k := 10000) (by rw [headB_len]; omega) (Nat.le_trans (sig_len hs.opn.all hs.sht.all hs.pth.all hfit) (by omega))
  have hs1 := Nat.add_le_add t1 u1
  clear hS hs hN hl hfit HX
  generalize voteB m.x = VB at *
  generalize headB m.x = hb at *
  generalize sigBytes m.x.leaf m.x.opn m.x.sht m.x.pth = sb at *
  generalize m.sg.cells = SC at *
  generalize m.cells.toArray = MC at *
  go_enter Tryz.func67, Tryz.ntmps67
  go_upto_region 1 with fail
  change Code.wp _ _ _ _ (w.alloc (.cells MC 74))
  rw [← hw1]
  clear hw1
  go_wp2_with (first
    | (go_at_call 102; (with_reducible refine (HK.out).mono ?_); rintro e w2 ⟨rfl, hb⟩; have HB2 := Lib.hid hb; have lv := HLV.out w2 hb; clear hb)
    | (go_at_call 103; (with_reducible refine (HH.out _).mono ?_); rintro e w3 ⟨rfl, hb⟩; have HB3 := Lib.hid (HB2.out.trans (hb.mono HB2.out.size)); clear hb))
  go_ret2
  exact ⟨rfl, HF.out.trans (HB3.out.mono HF.out.size)⟩

/-- A word's bytes; none, if a vote has none. -/
def crtS (r : Int) (vs : List VtM) : List UInt8 := if allFit vs = true then crtB r (vs.map VtM.x) else []
set_option maxRecDepth 100000 in
theorem crtS_yes {r : Int} {vs : List VtM} (h : allFit vs = true) : crtS r vs = crtB r (vs.map VtM.x) := if_pos h
set_option maxRecDepth 100000 in
theorem crtS_no {r : Int} {vs : List VtM} (h : allFit vs = false) : crtS r vs = [] := if_neg (by rw [h]; simp)
attribute [local go_sem ↓] stVt_def alVt14_def
set_option maxRecDepth 100000 in
set_option maxHeartbeats 8000000 in
theorem rcbytes_any14 (r : Int) (hr : R64 r) (vs : List VtM) (A : Option Addr) (c : Nat) (hl : vs.length ≤ 1000) (hvN : ∀ m ∈ vs, VtNum m.x ∧ R64 m.x.leaf) (hlen : ∀ k, (((vs.map VtM.x).take k).flatMap voteB).length ≤ 4000000000) (w : World) (hV : VtK.See w w.heap.size A vs) (hS : BSee w vs) :
    Calls Tryz.prog 34 #[.agg (crtV r A vs.length c)] w fun e w' => e = .returned (.tuple #[str (crtS r vs), .bool (allFit vs)]) ∧ Below w.heap.size w w' := by
  obtain ⟨w1, hw1⟩ : ∃ w1, w1 = w.alloc (.cells (crtV r A vs.length c) 35) := ⟨_, rfl⟩
  have HF : Hid (Below w.heap.size w w1) := by rw [hw1]; exact (Below.refl _ _).alloc (Nat.le_refl _) _
  have HX : Hid (Box w1 w.heap.size 35 (crtV r A vs.length c)) := by rw [hw1]; exact Box.made _ _ _
  have HC : Hid (∀ w', Below w1.heap.size w1 w' → w'.cell? ⟨w.heap.size, 0, none⟩ = some (.int .i64 r) ∧ w'.cell? ⟨w.heap.size, 1, none⟩ = some (.slice A vs.length c)) := Lib.hid (fun w' hb => by
    have h := HX.out.below hb HX.out.lt
    exact ⟨h.cell 0, h.cell 1⟩)
  have HV1 := Lib.hid (EK.See.far hV HF.out)
  have HS1 := Lib.hid (hS.call HF.out)
  have HLN := Lib.hid hl
  have HLB := Lib.hid hlen
  have HVN := Lib.hid hvN
  have HBE : Hid (crtB r (vs.map VtM.x) = (numBytes r ++ numBytes (vs.length : Int)) ++ (vs.map VtM.x).flatMap voteB) := Lib.hid (by
    unfold crtB
    rw [List.length_map, List.append_assoc])
  have Q0 : ∀ d os, (grow (redrawn w1 d) os).cell? ⟨w.heap.size, 0, none⟩ = some (.int .i64 r) := fun d os => (HC.out _ (below_regrown w1 d os)).1
  have Q1 : ∀ d os, (grow (redrawn w1 d) os).cell? ⟨w.heap.size, 1, none⟩ = some (.slice A vs.length c) := fun d os => (HC.out _ (below_regrown w1 d os)).2
  have K0 : Hid (∀ d os, Calls Tryz.prog 66 #[.int .i64 r] (grow (redrawn w1 d) os) fun e w'' => e = .returned (str (numBytes r)) ∧ ∃ p : Regrown, w'' = grow (redrawn w1 p.d) p.os) := Lib.hid (fun d os => Calls.regrown_of (refnum_any _ hr.1 hr.2 _))
  have K1 : Hid (∀ d os, Calls Tryz.prog 66 #[.int .i64 (vs.length : Int)] (grow (redrawn w1 d) os) fun e w'' => e = .returned (str (numBytes (vs.length : Int))) ∧ ∃ p : Regrown, w'' = grow (redrawn w1 p.d) p.os) := Lib.hid (fun d os => Calls.regrown_of (refnum_any _ (by omega) (by omega) _))
  obtain ⟨hd, hhd⟩ : ∃ hd, numBytes r ++ numBytes (vs.length : Int) = hd := ⟨_, rfl⟩
  obtain ⟨s1, t1, u1⟩ := cat14c hhd (k := 1000) (by rw [numBytes_len]; omega) (by rw [numBytes_len]; omega)
  have hs1 := Nat.add_le_add t1 u1
  have HHL : Hid (hd.length = 16) := Lib.hid (by rw [← hhd, List.length_append, numBytes_len, numBytes_len])
  rw [hhd] at HBE
  clear HX hV hS hl hlen hvN hr hhd
  generalize numBytes r = p0 at *
  generalize numBytes (vs.length : Int) = p1 at *
  go_enter Tryz.func34, Tryz.ntmps34
  go_upto_region 1 with fail
  change Code.wp _ _ _ _ (w.alloc (.cells (crtV r A vs.length c) 35))
  rw [← hw1]
  clear hw1
  refine wp_region_quiet_below (by kernel_rfl) (by kernel_rfl) ?_
  repeat (go_big_quiet_step (first
    | (go_at_call 66; with_reducible exact K0.out _ _)
    | (go_at_call 66; with_reducible exact K1.out _ _)))
  refine wpQuiet_nil ?_
  intro _ hw'
  obtain ⟨⟨dq, osq⟩, hw''⟩ := hw'
  subst hw''
  have HB7 := Lib.hid (below_regrown w1 dq osq)
  clear Q0 Q1 K0 K1 s1 t1 u1 hs1
  generalize grow (redrawn w1 dq) osq = w7 at *
  have k1 := (HC.out w7 HB7.out).2
  go_wp2
  clear k1 HC
  have HT0 : Hid (hd = hd ++ ((vs.map VtM.x).take 0).flatMap voteB) := Lib.hid (by simp)
  have HF7 := Lib.hid (HF.out.trans (HB7.out.mono HF.out.size))
  go_loopw [4, 20] (fun s i wr => ∃ (k : Nat) (T : List UInt8), k ≤ vs.length ∧ s = .string ⟨T.toArray⟩ ∧ Hid (T = hd ++ ((vs.map VtM.x).take k).flatMap voteB) ∧ i = .int .i64 (k : Int) ∧ Hid (∀ j (h : j < vs.length), j < k → vFits (vs[j]'h).x = true) ∧ Hid (Below w7.heap.size w7 wr)) (fun _ i _ => vs.length - (intOf i).toNat)
  case atStart => exact ⟨0, _, Nat.zero_le _, rfl, HT0, rfl, Lib.hid (fun j h h2 => by omega), Lib.hid (Below.refl _ _)⟩
  case round =>
    clear HT0
    obtain ⟨k, T, hk, rfl, HT, rfl, HI, HW⟩ := hrel
    have HBR := Lib.hid (HB7.out.trans (HW.out.mono HB7.out.size))
    by_cases hlt : k < vs.length
    rotate_left
    · have i1 : ¬ (k : Int) < (vs.length : Int) := by omega
      have HAF : Hid (allFit vs = true) := Lib.hid (by
        unfold allFit
        rw [List.all_eq_true]
        intro m hm
        obtain ⟨j, hj, rfl⟩ := List.getElem_of_mem hm
        exact HI.out j hj (by omega))
      have HTE : Hid (crtB r (vs.map VtM.x) = T) := Lib.hid (by
        rw [HBE.out, HT.out, List.take_of_length_le (by rw [List.length_map]; omega)])
      go_wp2
      go_ret2
      refine ⟨?_, HF7.out.trans (HW.out.mono HF7.out.size)⟩
      rw [HAF.out, crtS_yes HAF.out, HTE.out]
      rfl
    have i1 : (k : Int) < (vs.length : Int) := by omega
    have i0 : (0 : Int) ≤ (k : Int) := by omega
    obtain ⟨g, o, hA, hlv⟩ := row_vote (EK.See.far HV1.out HBR.out) hlt
    subst hA
    have lv := hlv wr (Below.refl _ _)
    have HLT := Lib.hid hlt
    have HM : Hid ((vs[k]'hlt) ∈ vs) := Lib.hid (List.getElem_mem hlt)
    have HTK := Lib.hid (votes_take14 hlt)
    have HNO : Hid (vFits (vs[k]'hlt).x = false → allFit vs = false) := Lib.hid (fun h => by
      unfold allFit
      rw [List.all_eq_false]
      exact ⟨_, HM.out, by rw [h]; simp⟩)
    have HYE : Hid (vFits (vs[k]'hlt).x = true → ∀ j (h : j < vs.length), j < k + 1 → vFits (vs[j]'h).x = true) := Lib.hid (fun h j hj hjk => by
      by_cases e : j = k
      · subst e
        exact h
      · exact HI.out j hj (by omega))
    have HTL : Hid (T.length ≤ 4000000016) := Lib.hid (by rw [HT.out, List.length_append, HHL.out]; have := HLB.out k; omega)
    have HNT : Hid ((hd ++ ((vs.map VtM.x).take (k + 1)).flatMap voteB) = T ++ voteB (vs[k]'hlt).x) := Lib.hid (by rw [HTK.out, HT.out, List.append_assoc])
    clear hlv HTK
    generalize vs[k]'hlt = m at *
    obtain ⟨w8, hst8, hb8, hbl8⟩ := laid_vt wr m
    have hav := al_vt14
    have l8 := hb8.ld_vt
    have HW8 := Lib.hid (HW.out.trans (hbl8.mono HW.out.size))
    have HS8 := Lib.hid ((HS1.out m HM.out).call (HB7.out.trans (HW8.out.mono HB7.out.size)))
    have wk : IntKind.i64.wrap ((k : Int) + 1) = ((k + 1 : Nat) : Int) := by rw [IntKind.wrap_i64]; have := HLN.out; omega
    clear hb8 hbl8
    obtain ⟨ft, hft⟩ : ∃ ft, vFits m.x = ft := ⟨_, rfl⟩
    cases ft with
    | false =>
      have HB := Lib.hid (rvbytes_not14 m hft w8)
      have HAF := Lib.hid (HNO.out hft)
      clear HNO HYE HS8 HNT
      go_wp2_with (go_at_call 67; (with_reducible refine (HB.out).mono ?_); rintro e w9 ⟨rfl, hb⟩; have HW9 := Lib.hid (HW8.out.trans (hb.mono HW8.out.size)); clear hb)
      go_ret2
      refine ⟨?_, HF7.out.trans (HW9.out.mono HF7.out.size)⟩
      rw [HAF.out, crtS_no HAF.out]
      rfl
    | true =>
      have HB := Lib.hid (rvbytes_any14 m (HVN.out m HM.out).1 (HVN.out m HM.out).2 hft w8 HS8.out)
      have HY2 := Lib.hid (HYE.out hft)
      have hvl : (voteB m.x).length ≤ 20000 := by
        have hfs := hft
        unfold vFits fitsT at hfs
        rw [decide_eq_true_eq] at hfs
        unfold voteB sigBytes
        simp only [List.length_append, headB_len, numBytes_len, HS8.out.opn.all.flat, HS8.out.sht.all.flat, HS8.out.pth.all.flat]
        omega
      obtain ⟨U, hU⟩ : ∃ U, T ++ voteB m.x = U := ⟨_, rfl⟩
      obtain ⟨s1, t1, u1⟩ := cat14c hU (k := 5000000000) (by have := HTL.out; omega) (by omega)
      have hs1 := Nat.add_le_add t1 u1
      rw [hU] at HNT
      have HNU : Hid (U = hd ++ ((vs.map VtM.x).take (k + 1)).flatMap voteB) := Lib.hid HNT.out.symm
      clear HNO HYE HS8 HNT hvl hU hft
      generalize voteB m.x = vb at *
      go_wp2_with (go_at_call 67; (with_reducible refine (HB.out).mono ?_); rintro e w9 ⟨rfl, hb⟩; have HW9 := Lib.hid (HW8.out.trans (hb.mono HW8.out.size)); clear hb)
      go_roundw
      case rel => exact ⟨k + 1, U, HLT.out, rfl, HNU, by go_num, HY2, HW9⟩
      case measure => have := HLT.out; simp [intOf]; omega
end Go.Proofs.YtbclepdcngaonaaGreatDoor
