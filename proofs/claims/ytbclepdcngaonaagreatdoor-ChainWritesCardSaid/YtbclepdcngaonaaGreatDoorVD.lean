/-
  What a vote signs: vote.writeHead, vote.Signs.
  Whether a vote can be: vote.Good, the document's; how long its signature's lists are (wapentakelaw13.great). Written by gen_vogood.py.
  Whether a vote is a member's: vote.signed, vote.Right.
-/
import Derived.Test.YtbclepdcngaonaaGreatDoorVA
import Derived.Test.YtbclepdcngaonaaGreatDoorRB
import Derived.Test.YtbclepdcngaonaaGreatDoorSD
import Derived.Test.YtbclepdcngaonaaGreatDoorTG
import Derived.Lib.SlBytesConst
import Derived.Test.YtbclepdcngaonaaGreatDoorKD
import Derived.Test.YtbclepdcngaonaaGreatDoorNB
import Derived.Test.YtbclepdcngaonaaGreatDoorCA
import Derived.BigQuiet
import Derived.Lib.QuietBelow
namespace Go.Proofs.YtbclepdcngaonaaGreatDoor
open Go.RowKit Go.Maps

set_option maxRecDepth 100000 in
theorem wdigs_made13 {base a : Nat} {bs : List UInt8} {ds : List (List UInt8)} (hd : ∀ d ∈ ds, d.length = 32) {W : World} (h : Wr W base a bs) (hl : bs.length + 32 * ds.length ≤ 70368744177664) :
    Calls Tryz.prog 64 #[.pointer (some ⟨a, 0, none⟩), .slice (some ⟨W.heap.size, 0, none⟩) ds.length ds.length] (W.alloc (.cells (ds.flatten.map bv).toArray 29)) fun e w' => e = .returned (.tuple #[]) ∧ Wr w' base a (bs ++ ds.flatten) ∧ WF a W w' := by
  have hF : Below W.heap.size W (W.alloc (.cells (ds.flatten.map bv).toArray 29)) := (Below.refl _ _).alloc (Nat.le_refl _) _
  have hb : Box (W.alloc (.cells (ds.flatten.map bv).toArray 29)) W.heap.size 29 (ds.flatten.map bv).toArray := Box.made _ _ _
  have h1 := h.below_size hF
  have e : ds.flatMap id = ds.flatten := by simp
  have hs : Src (W.alloc (.cells (ds.flatten.map bv).toArray 29)) a (some ⟨W.heap.size, 0, none⟩) ((ds.flatMap id).map bv) := by
    rw [e]
    exact Src.of_box h1 hb (by decide) (by decide)
  have hc := wdigest_any base a _ ds hd ds.length bs _ h1 hs hl
  rw [e] at hc
  exact hc.mono fun e w' ⟨he, hw, hf⟩ => ⟨he, hw, (WF.of_below hF h.lt).trans hf⟩

/-- A vote's head. -/
def headB (x : VtX) : List UInt8 := [x.kind, x.epoch, x.height, x.round, x.frm].flatMap numBytes ++ x.dig
set_option maxRecDepth 100000 in
theorem headB_len (x : VtX) : (headB x).length = 72 := by
  unfold headB
  rw [List.length_append, nums_len, x.len]
  rfl

attribute [local go_sem ↓] ldVt_def stVt_def ldDigest_def stDigest_def bsAll_def
set_option maxRecDepth 100000 in
set_option maxHeartbeats 4000000 in
theorem whead_any (base a : Nat) (bs : List UInt8) (m : VtM) (w : World) (h : Wr w base a bs) (hbs : bs.length ≤ 4294967296) :
    Calls Tryz.prog 99 #[.pointer (some ⟨a, 0, none⟩), .agg m.cells.toArray] w fun e w' => e = .returned (.tuple #[]) ∧ Wr w' base a (bs ++ headB m.x) ∧ WF a w w' := by
  obtain ⟨w1, hw1⟩ : ∃ w1, w1 = w.alloc (.cells m.cells.toArray 74) := ⟨_, rfl⟩
  have hF1 : Below w.heap.size w w1 := by rw [hw1]; exact (Below.refl _ _).alloc (Nat.le_refl _) _
  have HB1 : Hid (Box w1 w.heap.size 74 m.cells.toArray) := by rw [hw1]; exact Box.made _ _ _
  have HW1 := Lib.hid (h.below_size hF1)
  have HA1 := Lib.hid (WF.of_below hF1 h.lt)
  have c0 : w1.cell? ⟨w.heap.size, 0, none⟩ = some (.int .i64 m.x.kind) := HB1.out.vt_0
  have c1 : w1.cell? ⟨w.heap.size, 1, none⟩ = some (.int .i64 m.x.epoch) := HB1.out.vt_1
  have c2 : w1.cell? ⟨w.heap.size, 2, none⟩ = some (.int .i64 m.x.height) := HB1.out.vt_2
  have c3 : w1.cell? ⟨w.heap.size, 3, none⟩ = some (.int .i64 m.x.round) := HB1.out.vt_3
  have c36 : w1.cell? ⟨w.heap.size, 36, none⟩ = some (.int .i64 m.x.frm) := HB1.out.vt_36 m.x.len
  have HLD : Hid (∀ w', Box w' w.heap.size 74 m.cells.toArray → (ldDigest (.pointer (some ⟨w.heap.size, 4, none⟩))).run Tryz.prog w' = .ok (.agg (m.x.dig.map bv).toArray) w') := Lib.hid (fun w' hb => range_load hb.vt_dig m.x.len)
  have HN : Hid (Calls Tryz.prog 62 #[.pointer (some ⟨a, 0, none⟩), .slice (some ⟨w1.heap.size, 0, none⟩) 5 5] (w1.alloc (.cells #[.int .i64 m.x.kind, .int .i64 m.x.epoch, .int .i64 m.x.height, .int .i64 m.x.round, .int .i64 m.x.frm] 3)) fun e w' => e = .returned (.tuple #[]) ∧ Wr w' base a (bs ++ [m.x.kind, m.x.epoch, m.x.height, m.x.round, m.x.frm].flatMap numBytes) ∧ WF a w1 w') :=
    wnum_made [m.x.kind, m.x.epoch, m.x.height, m.x.round, m.x.frm] HW1.out (by simp only [List.length_cons, List.length_nil]; omega)
  have hD1 : ∀ d ∈ [m.x.dig], d.length = 32 := by
    intro d hd
    rw [List.mem_singleton.1 hd]
    exact m.x.len
  have HBD : Hid (∀ w', (bsAll 1 #[(0, .agg (m.x.dig.map bv).toArray)]).run Tryz.prog w' = .ok (.slice (some ⟨w'.heap.size, 0, none⟩) 1 1) (w'.alloc (.cells ([m.x.dig].flatten.map bv).toArray 29))) := Lib.hid (fun w' => build_digs [m.x.dig] hD1 (by simp) (by simp) w')
  have HDG : Hid (∀ W bs', Wr W base a bs' → bs'.length ≤ 8589934592 → Calls Tryz.prog 64 #[.pointer (some ⟨a, 0, none⟩), .slice (some ⟨W.heap.size, 0, none⟩) 1 1] (W.alloc (.cells ([m.x.dig].flatten.map bv).toArray 29)) fun e w' => e = .returned (.tuple #[]) ∧ Wr w' base a (bs' ++ [m.x.dig].flatten) ∧ WF a W w') :=
    Lib.hid (fun W bs' hw hl => wdigs_made13 hD1 hw (by simp only [List.length_cons, List.length_nil]; omega))
  have HB1l : Hid ((bs ++ [m.x.kind, m.x.epoch, m.x.height, m.x.round, m.x.frm].flatMap numBytes).length ≤ 4294967336) := Lib.hid (by rw [List.length_append, nums_len]; simp only [List.length_cons, List.length_nil]; omega)
  have HEQ : Hid (bs ++ headB m.x = (bs ++ [m.x.kind, m.x.epoch, m.x.height, m.x.round, m.x.frm].flatMap numBytes) ++ [m.x.dig].flatten) := Lib.hid (by unfold headB; simp)
  generalize bs ++ [m.x.kind, m.x.epoch, m.x.height, m.x.round, m.x.frm].flatMap numBytes = b1 at *
  generalize bs ++ headB m.x = b2 at *
  generalize m.cells.toArray = cs at *
  generalize ([m.x.dig].flatten.map bv).toArray = FD at *
  generalize [m.x.dig].flatten = F3 at *
  generalize (m.x.dig.map bv).toArray = P1 at *
  clear hF1 h hbs hD1
  go_enter Tryz.func99, Tryz.ntmps99
  go_upto_region 1 with fail
  change Code.wp _ _ _ _ (w.alloc (.cells cs 74))
  rw [← hw1]
  clear hw1
  go_upto_region 2 with (go_at_call 62; (with_reducible refine (HN.out).mono ?_); rintro e w2 ⟨rfl, hw, hf⟩; have HB2 := Lib.hid (hf.box HW1.out HB1.out (by decide) (by decide)); have HW2 := Lib.hid hw; have HA2 := Lib.hid (HA1.out.trans hf); clear hw hf)
  clear c0 c1 c2 c3 c36 HN HB1 HW1 HA1
  have ld := HLD.out w2 HB2.out
  have hbd := HBD.out w2
  have HN := Lib.hid (HDG.out w2 _ HW2.out (by have := HB1l.out; omega))
  clear HLD HBD HDG
  go_wp2_with (go_at_call 64; (with_reducible refine (HN.out).mono ?_); rintro e w3 ⟨rfl, hw, hf⟩; have HW3 := Lib.hid hw; have HA3 := Lib.hid (HA2.out.trans hf); clear hw hf)
  rw [← HEQ.out] at HW3
  go_end0
  exact ⟨rfl, HW3.out, HA3.out⟩

/-- "vote". -/
def voMark : List UInt8 := [118, 111, 116, 101]
def voteD (x : VtX) : List UInt8 := shaOf (voMark ++ headB x)
set_option maxRecDepth 100000 in
theorem voteD_len (x : VtX) : (voteD x).length = 32 := rfl

set_option maxRecDepth 100000 in
set_option maxHeartbeats 2000000 in
theorem signs_any (m : VtM) (w : World) (hR : Roots w) :
    Calls Tryz.prog 85 #[.agg m.cells.toArray] w fun e w' => e = .returned (.agg ((voteD m.x).map bv).toArray) ∧ Below w.heap.size w w' := by
  have HS : Hid (Box ((w.alloc (.cells m.cells.toArray 74)).alloc (.cells zs32 29)) w.heap.size 74 m.cells.toArray) := (Box.made w _ _).alloc _
  have HO : Hid (Box ((w.alloc (.cells m.cells.toArray 74)).alloc (.cells zs32 29)) (w.heap.size + 1) 29 zs32) := Box.made_at (by simp) _ _
  have HF : Hid (Below w.heap.size w ((w.alloc (.cells m.cells.toArray 74)).alloc (.cells zs32 29))) := ((Below.refl _ _).alloc (Nat.le_refl _) _).alloc (by simp) _
  have HD : Hid (voteD m.x = shaOf ([voMark, headB m.x] : List (List UInt8)).flatten) := Lib.hid (by simp [voteD])
  have HDL := Lib.hid (voteD_len m.x)
  generalize voteD m.x = d at *
  go_enter Tryz.func85, Tryz.ntmps85
  go_upto_region 1 with fail
  change Code.wp _ _ _ _ ((w.alloc (.cells m.cells.toArray 74)).alloc (.cells zs32 29))
  generalize (w.alloc (.cells m.cells.toArray 74)).alloc (.cells zs32 29) = w1 at *
  have HW2 : Hid (Wr (w1.alloc (.cells #[.slice none 0 0] 48)) w1.heap.size w1.heap.size []) := wr_new (Box.made _ _ _) (Nat.le_refl _)
  have HF2 : Hid (Below w1.heap.size w1 (w1.alloc (.cells #[.slice none 0 0] 48))) := (Below.refl _ _).alloc (Nat.le_refl _) _
  have l2 := (HS.out.below HF2.out HS.out.lt).ld_vt
  have HN := Lib.hid (whead_any w1.heap.size w1.heap.size [] m _ HW2.out (by simp))
  have HBL : Hid ((headB m.x).length ≤ 4294967416) := Lib.hid (by rw [headB_len]; decide)
  rw [List.nil_append] at HN
  generalize headB m.x = bs at *
  clear HS
  go_upto_region 3 with (go_at_call 99; (with_reducible refine (HN.out).mono ?_); rintro e w3 ⟨rfl, hw, hf⟩; have HW3 := Lib.hid hw; have HB3 := Lib.hid (HF2.out.trans (hf.below HW2.out)); clear hw hf)
  clear HN HF2 l2
  have HWK : Hid (Below w.heap.size w w3) := Lib.hid (HF.out.trans (HB3.out.mono HF.out.size))
  have HM : Hid (∀ w', Below (w3.heap.size + 1) (w3.alloc (.cells #[.int .u8 118, .int .u8 111, .int .u8 116, .int .u8 101] 5 (4, 5))) w' → Sees w' w'.heap.size (some ⟨w3.heap.size, 0, none⟩) (voMark.map bv)) := Lib.hid (fun w' hb => by
    refine .inr ⟨w3.heap.size, 0, rfl, Nat.lt_of_lt_of_le (by simp) hb.size, fun j u hu => ?_⟩
    rw [Nat.zero_add, hb.cell (p := ⟨w3.heap.size, j, none⟩) (Nat.lt_succ_self _), World.cell?_alloc_mark, List.getElem?_toArray]
    exact hu)
  have HF4 : Hid (Below w3.heap.size w3 (w3.alloc (.cells #[.int .u8 118, .int .u8 111, .int .u8 116, .int .u8 101] 5 (4, 5)))) := (Below.refl _ _).alloc (Nat.le_refl _) _
  have HZ4 : Hid ((w3.alloc (.cells #[.int .u8 118, .int .u8 111, .int .u8 116, .int .u8 101] 5 (4, 5))).heap.size = w3.heap.size + 1) := Lib.hid (by simp)
  have HBY := Lib.hid (bytes_any w1.heap.size w1.heap.size bs _ (HW3.out.below_size HF4.out) (by have := HBL.out; omega))
  have hcv : (convert 45 45 (.slice (some ⟨w3.heap.size, 0, none⟩) 4 4)).run Tryz.prog (w3.alloc (.cells #[.int .u8 118, .int .u8 111, .int .u8 116, .int .u8 101] 5)) = .ok (.slice (some ⟨w3.heap.size, 0, none⟩) 4 4) (w3.alloc (.cells #[.int .u8 118, .int .u8 111, .int .u8 116, .int .u8 101] 5 (4, 5))) :=
    Lib.run_convert_bytes_const (P := Tryz.prog) w3 45 5 _ 4 4 Tryz.underlying45 Tryz.underlying5
  have HRW := Lib.hid hR
  clear hR HW3 HW2
  go_wp2_with fail
  clear hcv
  refine (HBY.out).mono ?_
  rintro e w5 ⟨A, c, rfl, hc1, hc2, hsee, hb⟩
  have HS5 := Lib.hid hsee
  have HB5 := Lib.hid hb
  have HC5 := Lib.hid hc1
  have HC6 := Lib.hid hc2
  clear hsee hb hc1 hc2
  have HX6 : Hid (Box (w5.alloc (.cells #[.slice (some ⟨w3.heap.size, 0, none⟩) 4 4, .slice A bs.length c] 45)) w5.heap.size 45 #[.slice (some ⟨w3.heap.size, 0, none⟩) 4 4, .slice A bs.length c]) := Box.made _ _ _
  have HB6 : Hid (Below w5.heap.size w5 (w5.alloc (.cells #[.slice (some ⟨w3.heap.size, 0, none⟩) 4 4, .slice A bs.length c] 45))) := (Below.refl _ _).alloc (Nat.le_refl _) _
  have HB46 := Lib.hid (HB5.out.trans (HB6.out.mono HB5.out.size))
  have HFA := Lib.hid (HWK.out.trans ((HF4.out.trans (HB46.out.mono HF4.out.size)).mono HWK.out.size))
  have HFB := Lib.hid (HB3.out.trans ((HF4.out.trans (HB46.out.mono HF4.out.size)).mono HB3.out.size))
  have HOF := Lib.hid (of_any [voMark, bs] (some ⟨w5.heap.size, 0, none⟩) 2 _ (Pieces.two (p := voMark) HX6.out HX6.out.lt (by decide) (by decide) (HM.out _ (by have h := HB46.out; rw [HZ4.out] at h; exact h)) HC5.out HC6.out ((HS5.out.below HB6.out).more HB6.out.size)) (by simp) (by have := HBL.out; simp [voMark]; omega) (HRW.out.of_below HFA.out))
  rw [← HD.out] at HOF
  clear HB46 HM HS5 HB5 HBY HZ4 HF4 HX6 HB6 HC5 HC6
  go_wp2_with fail
  refine (HOF.out).mono ?_
  rintro e w7 ⟨rfl, hb⟩
  have HF7 := Lib.hid (HFA.out.trans (hb.mono HFA.out.size))
  have HFC := Lib.hid (HFB.out.trans (hb.mono HFB.out.size))
  have hst := (HO.out.below HFC.out HO.out.lt).store_digest rfl d HDL.out
  have HB9 := Lib.hid ((HO.out.below HFC.out HO.out.lt).cells_dig rfl HDL.out)
  have HF9 : Hid (Below w.heap.size w (w7.setCells (w.heap.size + 1) 0 (d.map bv))) := below_cells HF7.out (by omega) HF7.out.size 0 _
  clear hb HOF HD HFA HF HO
  go_wp2
  exact ret_dig rfl rfl rfl HB9.out HDL.out ⟨rfl, HF9.out⟩
end Go.Proofs.YtbclepdcngaonaaGreatDoor

namespace Go.Proofs.YtbclepdcngaonaaGreatDoor
open Go.RowKit Go.Maps

set_option maxRecDepth 100000 in
theorem vwithin_any (n lo hi : Int) (w : World) : Calls Tryz.prog 120 #[.int .i64 n, .int .i64 lo, .int .i64 hi] w fun e w' => e = .returned (.bool (rqIn n lo hi)) ∧ w = w' := by
  unfold rqIn
  by_cases h : lo ≤ n
  · have e : decide (lo ≤ n) = true := by simpa using h
    rw [e, Bool.true_and]
    clear e
    go_enter Tryz.func120, Tryz.ntmps120
    go_wp2
    go_ret
    exact ⟨rfl, rfl⟩
  · have e : decide (lo ≤ n) = false := by simpa using h
    rw [e, Bool.false_and]
    clear e
    go_enter Tryz.func120, Tryz.ntmps120
    go_wp2
    go_ret
    exact ⟨rfl, rfl⟩
/-- A vote that can be. -/
def vGood (x : VtX) : Bool := rqIn x.kind 1 2 && rqIn x.epoch 0 1073741824 && rqIn x.height 1 1024 && rqIn x.round 0 1024 && rqIn x.frm 1 63
set_option maxRecDepth 100000 in
theorem vGood_iff {x : VtX} : vGood x = true ↔ (1 ≤ x.kind ∧ x.kind ≤ 2) ∧ (0 ≤ x.epoch ∧ x.epoch ≤ 1073741824) ∧ (1 ≤ x.height ∧ x.height ≤ 1024) ∧ (0 ≤ x.round ∧ x.round ≤ 1024) ∧ 1 ≤ x.frm ∧ x.frm ≤ 63 := by
  unfold vGood rqIn
  simp only [Bool.and_eq_true, decide_eq_true_eq, and_assoc]

attribute [local go_sem ↓] ldVt_def stVt_def
set_option maxRecDepth 100000 in
set_option maxHeartbeats 4000000 in
theorem vgood_any (m : VtM) (w : World) : Calls Tryz.prog 83 #[.agg m.cells.toArray] w fun e w' => e = .returned (.bool (vGood m.x)) ∧ Below w.heap.size w w' := by
  have hB : Box (w.alloc (.cells m.cells.toArray 74)) w.heap.size 74 m.cells.toArray := Box.made _ _ _
  have HF : Hid (Below w.heap.size w (w.alloc (.cells m.cells.toArray 74))) := (Below.refl _ _).alloc (Nat.le_refl _) _
  have c0 := hB.vt_0
  have c1 := hB.vt_1
  have c2 := hB.vt_2
  have c3 := hB.vt_3
  have c4 := hB.vt_36 m.x.len
  have HE : Hid (vGood m.x = (rqIn m.x.kind 1 2 && rqIn m.x.epoch 0 1073741824 && rqIn m.x.height 1 1024 && rqIn m.x.round 0 1024 && rqIn m.x.frm 1 63)) := Lib.hid rfl
  clear hB
  generalize vGood m.x = r at *
  generalize m.cells.toArray = cs at *
  generalize m.x.kind = x0 at *
  generalize m.x.epoch = x1 at *
  generalize m.x.height = x2 at *
  generalize m.x.round = x3 at *
  generalize m.x.frm = x4 at *
  have w0 := fun w => vwithin_any x0 1 2 w
  have w1 := fun w => vwithin_any x1 0 1073741824 w
  have w2 := fun w => vwithin_any x2 1 1024 w
  have w3 := fun w => vwithin_any x3 0 1024 w
  have w4 := fun w => vwithin_any x4 1 63 w
  generalize rqIn x0 1 2 = b0 at *
  generalize rqIn x1 0 1073741824 = b1 at *
  generalize rqIn x2 1 1024 = b2 at *
  generalize rqIn x3 0 1024 = b3 at *
  generalize rqIn x4 1 63 = b4 at *
  have W0 := Lib.hid w0
  have W1 := Lib.hid w1
  have W2 := Lib.hid w2
  have W3 := Lib.hid w3
  have W4 := Lib.hid w4
  clear w0 w1 w2 w3 w4
  go_enter Tryz.func83, Tryz.ntmps83
  go_upto_region 1 with fail
  change Code.wp _ _ _ _ (w.alloc (.cells cs 74))
  generalize w.alloc (.cells cs 74) = u at *
  rcases b0 with _ | _
  · have HR : Hid (r = false) := Lib.hid (by rw [HE.out]; simp)
    clear HE
    go_wp2_with ((go_at_call 120; (with_reducible refine (W0.out _).mono ?_); rintro e w' ⟨rfl, rfl⟩))
    go_ret
    exact ⟨ret_val (congrArg Value.bool HR.out.symm), HF.out⟩
  rcases b1 with _ | _
  · have HR : Hid (r = false) := Lib.hid (by rw [HE.out]; simp)
    clear HE
    go_wp2_with (first | (go_at_call 120; (with_reducible refine (W0.out _).mono ?_); rintro e w' ⟨rfl, rfl⟩) | (go_at_call 120; (with_reducible refine (W1.out _).mono ?_); rintro e w' ⟨rfl, rfl⟩))
    go_ret
    exact ⟨ret_val (congrArg Value.bool HR.out.symm), HF.out⟩
  rcases b2 with _ | _
  · have HR : Hid (r = false) := Lib.hid (by rw [HE.out]; simp)
    clear HE
    go_wp2_with (first | (go_at_call 120; (with_reducible refine (W0.out _).mono ?_); rintro e w' ⟨rfl, rfl⟩) | (go_at_call 120; (with_reducible refine (W1.out _).mono ?_); rintro e w' ⟨rfl, rfl⟩) | (go_at_call 120; (with_reducible refine (W2.out _).mono ?_); rintro e w' ⟨rfl, rfl⟩))
    go_ret
    exact ⟨ret_val (congrArg Value.bool HR.out.symm), HF.out⟩
  rcases b3 with _ | _
  · have HR : Hid (r = false) := Lib.hid (by rw [HE.out]; simp)
    clear HE
    go_wp2_with (first | (go_at_call 120; (with_reducible refine (W0.out _).mono ?_); rintro e w' ⟨rfl, rfl⟩) | (go_at_call 120; (with_reducible refine (W1.out _).mono ?_); rintro e w' ⟨rfl, rfl⟩) | (go_at_call 120; (with_reducible refine (W2.out _).mono ?_); rintro e w' ⟨rfl, rfl⟩) | (go_at_call 120; (with_reducible refine (W3.out _).mono ?_); rintro e w' ⟨rfl, rfl⟩))
    go_ret
    exact ⟨ret_val (congrArg Value.bool HR.out.symm), HF.out⟩
  have HR : Hid (r = b4) := Lib.hid (by rw [HE.out]; simp)
  clear HE
  go_wp2_with (first | (go_at_call 120; (with_reducible refine (W0.out _).mono ?_); rintro e w' ⟨rfl, rfl⟩) | (go_at_call 120; (with_reducible refine (W1.out _).mono ?_); rintro e w' ⟨rfl, rfl⟩) | (go_at_call 120; (with_reducible refine (W2.out _).mono ?_); rintro e w' ⟨rfl, rfl⟩) | (go_at_call 120; (with_reducible refine (W3.out _).mono ?_); rintro e w' ⟨rfl, rfl⟩) | (go_at_call 120; (with_reducible refine (W4.out _).mono ?_); rintro e w' ⟨rfl, rfl⟩))
  go_ret
  exact ⟨ret_val (congrArg Value.bool HR.out.symm), HF.out⟩

end Go.Proofs.YtbclepdcngaonaaGreatDoor

namespace Go.Proofs.YtbclepdcngaonaaGreatDoor
open Go.RowKit Go.Maps Go.Sort

noncomputable def ldSg (v : Value) : Sem Value := Instr.loadAt 72 v
set_option maxRecDepth 100000 in
theorem ldSg_def (v : Value) : Instr.loadAt 72 v = ldSg v := rfl
set_option maxRecDepth 100000 in
theorem range_sg {w : World} {g o : Nat} {n : Int} {A B C : Option Addr} {x a y b z c : Nat} (h : w.rangeAt g o (sigV n A x a B y b C z c).toList) : (ldSg (.pointer (some ⟨g, o, none⟩))).run Tryz.prog w = .ok (.agg (sigV n A x a B y b C z c)) w :=
  run_loadAt_mid (P := Tryz.prog) w g o 72 (sigV n A x a B y b C z c).toList _ h Tryz.underlying72 rfl (sig_list n A x a B y b C z c)
noncomputable def ldKy13 (v : Value) : Sem Value := Instr.loadAt 64 v
set_option maxRecDepth 100000 in
theorem ldKy13_def (v : Value) : Instr.loadAt 64 v = ldKy13 v := rfl
set_option maxRecDepth 100000 in
theorem range_ky {w : World} {g o : Nat} {r : List UInt8} {h : Int} (hr : w.rangeAt g o (keyL r h)) (hl : r.length = 32) : (ldKy13 (.pointer (some ⟨g, o, none⟩))).run Tryz.prog w = .ok (.agg (keyV r h)) w :=
  run_loadAt_mid (P := Tryz.prog) w g o 64 (keyL r h) _ hr Tryz.underlying64 rfl (key_list hl h)

/-- A signature as memory has it. -/
structure SgM where
  n : Int
  X : List (List UInt8)
  Y : List (List UInt8)
  P : List (List UInt8)
  A : Option Addr
  a : Nat
  B : Option Addr
  b : Nat
  C : Option Addr
  c : Nat
def SgM.cells (s : SgM) : Array Value := sigV s.n s.A s.X.length s.a s.B s.Y.length s.b s.C s.P.length s.c
structure SgSee (w : World) (s : SgM) : Prop where
  A : Digs w w.heap.size s.A s.X
  B : Digs w w.heap.size s.B s.Y
  C : Digs w w.heap.size s.C s.P
  cap : s.P.length ≤ s.c
set_option maxRecDepth 100000 in
theorem SgSee.call {w w' : World} {s : SgM} (h : SgSee w s) (hb : Below w.heap.size w w') : SgSee w' s := ⟨h.A.far hb, h.B.far hb, h.C.far hb, h.cap⟩
def sgGood (k : MemX) (d : List UInt8) (s : SgM) : Bool := goodK k.root d k.high s.n s.X s.Y s.P

attribute [local go_sem ↓] ldSg_def ldKy13_def ldCf_def ldDigest_def stMem_def
set_option maxRecDepth 100000 in
set_option maxHeartbeats 4000000 in
theorem signed_any (ms : List MemX) (ep : Int) (A : Option Addr) (c : Nat) (hn : ms.length ≤ maxLen) (i : Int) (d : List UInt8) (hd : d.length = 32) (s : SgM) (w : World) (hS : Mems w w.heap.size A ms) (hs : SgSee w s) (hR : Roots w) :
    Calls Tryz.prog 84 #[.agg (cfgV ep A ms.length c), .int .i64 i, .agg (d.map bv).toArray, .agg s.cells] w fun e w' => e = .returned (.bool (hasB ms i && sgGood (findM ms i) d s)) ∧ Below w.heap.size w w' := by
  obtain ⟨w1, hw1⟩ : ∃ w1, w1 = ((w.alloc (.cells (cfgV ep A ms.length c) 24)).alloc (.cells (d.map bv).toArray 29)).alloc (.cells s.cells 72) := ⟨_, rfl⟩
  have hX : Box w1 w.heap.size 24 (cfgV ep A ms.length c) := by rw [hw1]; exact ((Box.made w _ _).alloc _).alloc _
  have HD : Hid (Box w1 (w.heap.size + 1) 29 (d.map bv).toArray) := by rw [hw1]; exact (Box.made_at (by simp) _ _).alloc _
  have HG : Hid (Box w1 (w.heap.size + 1 + 1) 72 s.cells) := by rw [hw1]; exact Box.made_at (by simp) _ _
  have HF : Hid (Below w.heap.size w w1) := by rw [hw1]; exact (((Below.refl _ _).alloc (Nat.le_refl _) _).alloc (by simp) _).alloc (by simp; omega) _
  have HFD := Lib.hid (find_any ms ep A c hn i w1 (hS.far HF.out))
  have lc : (ldCf (.pointer (some ⟨w.heap.size, 0, none⟩))).run Tryz.prog w1 = .ok (.agg (cfgV ep A ms.length c)) w1 := hX.l_cf
  have HSG := Lib.hid (hs.call HF.out)
  have HR1 := Lib.hid (hR.of_below HF.out)
  have HDL := Lib.hid hd
  generalize findM ms i = k at *
  generalize hasB ms i = b at *
  generalize (findN ms i : Int) = z at *
  generalize cfgV ep A ms.length c = CF at *
  have HCK : Hid (∀ w', Below w1.heap.size w1 w' → Calls Tryz.prog 122 #[.agg (keyV k.root k.high), .agg (d.map bv).toArray, .agg s.cells] w' fun e w'' => e = .returned (.bool (sgGood k d s)) ∧ Below w'.heap.size w' w'') := Lib.hid (fun w' hb => by
    have h := HSG.out.call hb
    exact kcheck_any k.root d k.len HDL.out k.high s.n s.X s.Y s.P s.A s.B s.C s.a s.b s.c h.cap w' h.A h.B h.C (HR1.out.of_below hb))
  have HLG : Hid (∀ w', Below w1.heap.size w1 w' → (ldSg (.pointer (some ⟨w.heap.size + 1 + 1, 0, none⟩))).run Tryz.prog w' = .ok (.agg s.cells) w') := Lib.hid (fun w' hb => range_sg (HG.out.below hb HG.out.lt).range)
  have HLD : Hid (∀ w', Below w1.heap.size w1 w' → (ldDigest (.pointer (some ⟨w.heap.size + 1, 0, none⟩))).run Tryz.prog w' = .ok (.agg (d.map bv).toArray) w') := Lib.hid (fun w' hb => (HD.out.below hb HD.out.lt).load_digest HDL.out)
  generalize sgGood k d s = g at *
  generalize s.cells = SC at *
  generalize (d.map bv).toArray = DC at *
  clear hX HD HG hS hs hR hd HSG HR1
  go_enter Tryz.func84, Tryz.ntmps84
  go_upto_region 1 with fail
  change Code.wp _ _ _ _ (((w.alloc (.cells CF 24)).alloc (.cells DC 29)).alloc (.cells SC 72))
  rw [← hw1]
  clear hw1
  go_upto_region 2 with (go_at_call 121; (with_reducible refine (HFD.out).mono ?_); rintro e w2 ⟨rfl, hb⟩; have HB2 := Lib.hid hb; obtain ⟨w3, hst0, hb3, hbl3⟩ := laid_mem w2 k; have hst := hst0; unfold zmemV at hst; have HM3 := Lib.hid hb3; have HF3 := Lib.hid (hb.trans (hbl3.mono hb.size)); clear hb hst0 hb3 hbl3)
  clear hst HB2 lc HFD
  have HFA := Lib.hid (HF.out.trans (HF3.out.mono HF.out.size))
  have lk : (ldKy13 (.pointer (some ⟨w2.heap.size, 1, none⟩))).run Tryz.prog w3 = .ok (.agg (keyV k.root k.high)) w3 := range_ky (Box.range_mid (pre := [.int .i64 k.id]) (post := []) (by rw [List.append_nil]; exact HM3.out) rfl) k.len
  have lg := HLG.out w3 HF3.out
  have ld := HLD.out w3 HF3.out
  have HC := Lib.hid (HCK.out w3 HF3.out)
  clear HLG HLD HCK HM3
  generalize keyV k.root k.high = KV at *
  cases b with
  | false =>
    go_wp2
    go_ret
    exact ⟨rfl, HFA.out⟩
  | true =>
    go_wp2_with (go_at_call 122; (with_reducible refine (HC.out).mono ?_); rintro e w4 ⟨rfl, hb⟩; have HB4 := Lib.hid (HFA.out.trans (hb.mono HFA.out.size)); clear hb)
    go_ret
    exact ⟨rfl, HB4.out⟩

def VtM.sg (m : VtM) : SgM := ⟨m.x.leaf, m.x.opn, m.x.sht, m.x.pth, m.A, m.a, m.B, m.b, m.C, m.c⟩
set_option maxRecDepth 100000 in
theorem Box.ld_vsg {w : World} {g : Nat} {t : TypeId} {m : VtM} (hb : Box w g t m.cells.toArray) : (ldSg (.pointer (some ⟨g, 37, none⟩))).run Tryz.prog w = .ok (.agg m.sg.cells) w := by
  refine range_sg fun j v hv => ?_
  have h1 := hb.vt_tail m.x.len (1 + j)
  rw [show 36 + (1 + j) = 37 + j from by omega] at h1
  rw [h1]
  have hv' : [Value.int .i64 m.x.leaf, .slice m.A m.x.opn.length m.a, .slice m.B m.x.sht.length m.b, .slice m.C m.x.pth.length m.c][j]? = some v := hv
  rw [Nat.add_comm 1 j]
  exact hv'
/-- Is a vote right? -/
def rightB (ms : List MemX) (ep : Int) (m : VtM) : Bool := vGood m.x && (decide (m.x.epoch = ep) && (hasB ms m.x.frm && sgGood (findM ms m.x.frm) (voteD m.x) m.sg))

attribute [local go_sem ↓] ldVt_def
set_option maxRecDepth 100000 in
set_option maxHeartbeats 8000000 in
theorem right_any13 (ms : List MemX) (ep : Int) (A : Option Addr) (c : Nat) (hn : ms.length ≤ maxLen) (m : VtM) (w : World) (hS : Mems w w.heap.size A ms) (hs : SgSee w m.sg) (hR : Roots w) :
    Calls Tryz.prog 52 #[.agg (cfgV ep A ms.length c), .agg m.cells.toArray] w fun e w' => e = .returned (.bool (rightB ms ep m)) ∧ Below w.heap.size w w' := by
  obtain ⟨w1, hw1⟩ : ∃ w1, w1 = (w.alloc (.cells (cfgV ep A ms.length c) 24)).alloc (.cells m.cells.toArray 74) := ⟨_, rfl⟩
  have hX : Box w1 w.heap.size 24 (cfgV ep A ms.length c) := by rw [hw1]; exact (Box.made w _ _).alloc _
  have hV : Box w1 (w.heap.size + 1) 74 m.cells.toArray := by rw [hw1]; exact Box.made_at (by simp) _ _
  have HF : Hid (Below w.heap.size w w1) := by rw [hw1]; exact ((Below.refl _ _).alloc (Nat.le_refl _) _).alloc (by simp) _
  have HC : Hid (∀ w', Below w1.heap.size w1 w' → (ldCf (.pointer (some ⟨w.heap.size, 0, none⟩))).run Tryz.prog w' = .ok (.agg (cfgV ep A ms.length c)) w' ∧ w'.cell? ⟨w.heap.size, 0, none⟩ = some (.int .i64 ep) ∧ (ldVt (.pointer (some ⟨w.heap.size + 1, 0, none⟩))).run Tryz.prog w' = .ok (.agg m.cells.toArray) w' ∧ w'.cell? ⟨w.heap.size + 1, 1, none⟩ = some (.int .i64 m.x.epoch) ∧ w'.cell? ⟨w.heap.size + 1, 36, none⟩ = some (.int .i64 m.x.frm) ∧
      (ldSg (.pointer (some ⟨w.heap.size + 1, 37, none⟩))).run Tryz.prog w' = .ok (.agg m.sg.cells) w') := Lib.hid (fun w' hb => by
    have hx := hX.below hb hX.lt
    have hv := hV.below hb hV.lt
    exact ⟨hx.l_cf, hx.cell 0, hv.ld_vt, hv.vt_1, hv.vt_36 m.x.len, hv.ld_vsg⟩)
  have HGD : Hid (∀ w', Below w1.heap.size w1 w' → Calls Tryz.prog 83 #[.agg m.cells.toArray] w' fun e w'' => e = .returned (.bool (vGood m.x)) ∧ Below w'.heap.size w' w'') := Lib.hid (fun w' _ => vgood_any m w')
  have HR1 := Lib.hid (hR.of_below HF.out)
  have HS1 := Lib.hid (hS.far HF.out)
  have HG1 := Lib.hid (hs.call HF.out)
  have HSN : Hid (∀ w', Below w1.heap.size w1 w' → Calls Tryz.prog 85 #[.agg m.cells.toArray] w' fun e w'' => e = .returned (.agg ((voteD m.x).map bv).toArray) ∧ Below w'.heap.size w' w'') := Lib.hid (fun w' hb => signs_any m w' (HR1.out.of_below hb))
  have HSD : Hid (∀ w', Below w1.heap.size w1 w' → Calls Tryz.prog 84 #[.agg (cfgV ep A ms.length c), .int .i64 m.x.frm, .agg ((voteD m.x).map bv).toArray, .agg m.sg.cells] w' fun e w'' => e = .returned (.bool (hasB ms m.x.frm && sgGood (findM ms m.x.frm) (voteD m.x) m.sg)) ∧ Below w'.heap.size w' w'') := Lib.hid (fun w' hb => signed_any ms ep A c hn m.x.frm (voteD m.x) (voteD_len m.x) m.sg w' (HS1.out.far hb) (HG1.out.call hb) (HR1.out.of_below hb))
  have HE : Hid (rightB ms ep m = (vGood m.x && (decide (m.x.epoch = ep) && (hasB ms m.x.frm && sgGood (findM ms m.x.frm) (voteD m.x) m.sg)))) := Lib.hid rfl
  clear hX hV hS hs hR hn HR1 HS1 HG1
  generalize (hasB ms m.x.frm && sgGood (findM ms m.x.frm) (voteD m.x) m.sg) = sg at *
  generalize rightB ms ep m = r at *
  generalize ((voteD m.x).map bv).toArray = DC at *
  generalize vGood m.x = gd at *
  generalize cfgV ep A ms.length c = CF at *
  generalize m.cells.toArray = cs at *
  generalize m.sg.cells = SC at *
  generalize m.x.epoch = n0 at *
  generalize m.x.frm = n1 at *
  have Q1 : ∀ d os, (ldCf (.pointer (some ⟨w.heap.size, 0, none⟩))).run Tryz.prog (grow (redrawn w1 d) os) = .ok (.agg CF) (grow (redrawn w1 d) os) := fun d os => (HC.out _ (below_regrown w1 d os)).1
  have Q2 : ∀ d os, (grow (redrawn w1 d) os).cell? ⟨w.heap.size, 0, none⟩ = some (.int .i64 ep) := fun d os => (HC.out _ (below_regrown w1 d os)).2.1
  have Q3 : ∀ d os, (ldVt (.pointer (some ⟨w.heap.size + 1, 0, none⟩))).run Tryz.prog (grow (redrawn w1 d) os) = .ok (.agg cs) (grow (redrawn w1 d) os) := fun d os => (HC.out _ (below_regrown w1 d os)).2.2.1
  have Q4 : ∀ d os, (grow (redrawn w1 d) os).cell? ⟨w.heap.size + 1, 1, none⟩ = some (.int .i64 n0) := fun d os => (HC.out _ (below_regrown w1 d os)).2.2.2.1
  have Q5 : ∀ d os, (grow (redrawn w1 d) os).cell? ⟨w.heap.size + 1, 36, none⟩ = some (.int .i64 n1) := fun d os => (HC.out _ (below_regrown w1 d os)).2.2.2.2.1
  have Q6 : ∀ d os, (ldSg (.pointer (some ⟨w.heap.size + 1, 37, none⟩))).run Tryz.prog (grow (redrawn w1 d) os) = .ok (.agg SC) (grow (redrawn w1 d) os) := fun d os => (HC.out _ (below_regrown w1 d os)).2.2.2.2.2
  have K1 : Hid (∀ d os, Calls Tryz.prog 83 #[.agg cs] (grow (redrawn w1 d) os) fun e w'' => e = .returned (.bool gd) ∧ ∃ p : Regrown, w'' = grow (redrawn w1 p.d) p.os) := Lib.hid (fun d os => Calls.regrown_of (HGD.out _ (below_regrown w1 d os)))
  have K2 : Hid (∀ d os, Calls Tryz.prog 85 #[.agg cs] (grow (redrawn w1 d) os) fun e w'' => e = .returned (.agg DC) ∧ ∃ p : Regrown, w'' = grow (redrawn w1 p.d) p.os) := Lib.hid (fun d os => Calls.regrown_of (HSN.out _ (below_regrown w1 d os)))
  have K3 : Hid (∀ d os, Calls Tryz.prog 84 #[.agg CF, .int .i64 n1, .agg DC, .agg SC] (grow (redrawn w1 d) os) fun e w'' => e = .returned (.bool sg) ∧ ∃ p : Regrown, w'' = grow (redrawn w1 p.d) p.os) := Lib.hid (fun d os => Calls.regrown_of (HSD.out _ (below_regrown w1 d os)))
  clear HC HGD HSN HSD
  go_enter Tryz.func52, Tryz.ntmps52
  go_upto_region 1 with fail
  change Code.wp _ _ _ _ ((w.alloc (.cells CF 24)).alloc (.cells cs 74))
  rw [← hw1]
  clear hw1
  rcases gd with _ | _
  · have HR : Hid (r = false) := Lib.hid (by rw [HE.out]; rfl)
    clear HE
    refine wp_region_quiet_below (by kernel_rfl) (by kernel_rfl) ?_
    repeat (go_big_quiet_step (first
      | (go_at_call 83; with_reducible exact K1.out _ _)
      | (go_at_call 85; with_reducible exact K2.out _ _)
      | (go_at_call 84; with_reducible exact K3.out _ _)))
    refine wpQuiet_nil ?_
    intro _ hw'
    obtain ⟨⟨dq, osq⟩, hw''⟩ := hw'
    subst hw''
    have HB7 := Lib.hid (HF.out.trans ((below_regrown w1 dq osq).mono HF.out.size))
    clear Q1 Q2 Q3 Q4 Q5 Q6 K1 K2 K3
    generalize grow (redrawn w1 dq) osq = w7 at *
    go_wp2
    go_ret
    exact ⟨ret_val (congrArg Value.bool HR.out.symm), HB7.out⟩
  by_cases g0 : n0 = ep
  rotate_left
  · have HR : Hid (r = false) := Lib.hid (by rw [HE.out, decide_eq_false g0]; rfl)
    have m0 : (n0 == ep) = false := by simpa using g0
    clear HE g0
    refine wp_region_quiet_below (by kernel_rfl) (by kernel_rfl) ?_
    repeat (go_big_quiet_step (first
      | (go_at_call 83; with_reducible exact K1.out _ _)
      | (go_at_call 85; with_reducible exact K2.out _ _)
      | (go_at_call 84; with_reducible exact K3.out _ _)))
    refine wpQuiet_nil ?_
    intro _ hw'
    obtain ⟨⟨dq, osq⟩, hw''⟩ := hw'
    subst hw''
    have HB7 := Lib.hid (HF.out.trans ((below_regrown w1 dq osq).mono HF.out.size))
    clear Q1 Q2 Q3 Q4 Q5 Q6 K1 K2 K3
    generalize grow (redrawn w1 dq) osq = w7 at *
    go_wp2
    go_ret
    exact ⟨ret_val (congrArg Value.bool HR.out.symm), HB7.out⟩
  subst g0
  have HR : Hid (r = sg) := Lib.hid (by rw [HE.out]; simp)
  have m0 : (n0 == n0) = true := by simp
  clear HE
  refine wp_region_quiet_below (by kernel_rfl) (by kernel_rfl) ?_
  repeat (go_big_quiet_step (first
    | (go_at_call 83; with_reducible exact K1.out _ _)
    | (go_at_call 85; with_reducible exact K2.out _ _)
    | (go_at_call 84; with_reducible exact K3.out _ _)))
  refine wpQuiet_nil ?_
  intro _ hw'
  obtain ⟨⟨dq, osq⟩, hw''⟩ := hw'
  subst hw''
  have HB7 := Lib.hid (HF.out.trans ((below_regrown w1 dq osq).mono HF.out.size))
  clear Q1 Q2 Q3 Q4 Q5 Q6 K1 K2 K3
  generalize grow (redrawn w1 dq) osq = w7 at *
  go_wp2
  go_ret
  exact ⟨ret_val (congrArg Value.bool HR.out.symm), HB7.out⟩
end Go.Proofs.YtbclepdcngaonaaGreatDoor
