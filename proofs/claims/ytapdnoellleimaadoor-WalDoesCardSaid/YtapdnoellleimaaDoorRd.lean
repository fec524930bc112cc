/-
  The Reader of package code: what each of its methods does, said of the bytes that are left and of whether there was a fault.
  The Reader of package code, on: Num, In.
  The Reader of package code, on: Text.
  The Reader of package code, on: Digest, and Read.
  A new Reader of package code, and what can turn it.
-/
import Derived.Test.YtapdnoellleimaaDoorProg
import Derived.Test.YtapdnoellleimaaDoorKB
import Derived.WalkSpells
import Derived.WalkLawsBesides
import Derived.BigQuiet
import Derived.Lib.Hide
import Derived.Deep.QuietTactic
import Derived.Deep.Cut
namespace Go.Proofs.YtapdnoellleimaaDoor
open Go.RowKit

/-- The Reader in block a has the bytes l left; bad: there was a fault. -/
def Rd (w : World) (a : Nat) (l : List UInt8) (bad : Bool) : Prop :=
  ∃ A c, Box w a 100 #[.slice A l.length c, .bool bad] ∧ l.length ≤ c ∧ c ≤ maxLen ∧ Sees w a A (l.map bv)

theorem Rd.below {w w' : World} {a B : Nat} {l : List UInt8} {bad : Bool} (h : Rd w a l bad) (hb : Below B w w') (ha : a < B) : Rd w' a l bad := by
  obtain ⟨A, c, h1, h2, h3, h4⟩ := h
  exact ⟨A, c, h1.below hb ha, h2, h3, h4.below (hb.mono (Nat.le_of_lt ha))⟩
theorem Rd.alloc {w : World} {a : Nat} {l : List UInt8} {bad : Bool} (h : Rd w a l bad) (o : Obj) : Rd (w.alloc o) a l bad := by
  have hlt : a < w.heap.size := by
    obtain ⟨A, c, h1, _⟩ := h
    exact h1.lt
  exact h.below ((Below.refl w.heap.size w).alloc (Nat.le_refl _) o) hlt
theorem Rd.lt {w : World} {a : Nat} {l : List UInt8} {bad : Bool} (h : Rd w a l bad) : a < w.heap.size := by
  obtain ⟨A, c, h1, _⟩ := h
  exact h1.lt

theorem Rd.only {w w' : World} {a g : Nat} {l : List UInt8} {bad : Bool} (h : Rd w a l bad) (hb : w.grownBy w' (some g)) (ha : a < g) : Rd w' a l bad :=
  h.below (B := a + 1) (below_only hb ha h.lt) (Nat.lt_succ_self a)

set_option maxRecDepth 100000 in
set_option maxHeartbeats 400000 in
theorem fail_nil (w : World) : Calls Tryd.prog 65 #[.pointer none] w fun e w' => e = .returned (.tuple #[]) ∧ w = w' := by
  go_enter Tryd.func65, Tryd.ntmps65
  go_wp2
  go_end0
  exact ⟨rfl, rfl⟩

set_option maxRecDepth 100000 in
set_option maxHeartbeats 400000 in
theorem fail_any (a : Nat) (l : List UInt8) (bad : Bool) (w : World) (h : Rd w a l bad) :
    Calls Tryd.prog 65 #[.pointer (some ⟨a, 0, none⟩)] w fun e w' => e = .returned (.tuple #[]) ∧ Rd w' a [] true ∧ w.grownBy w' (some a) := by
  obtain ⟨A, c, hb, hc, hm, hs⟩ := h
  have c0 := hb.cell 0
  have c1 := hb.cell 1
  have f0 := hb.free 0
  have f1 := hb.free 1
  simp only [List.getElem?_toArray, List.getElem?_cons_zero, List.getElem?_cons_succ] at c0 c1
  go_enter Tryd.func65, Tryd.ntmps65
  go_wp2
  go_end0
  refine ⟨rfl, ⟨none, 0, ?_, by simp, by simp, .inl rfl⟩, only_put (only_put (only_refl _ _) _ _) _ _⟩
  have hp := (hb.put 0 (.slice none 0 0)).put 1 (.bool true)
  simpa using hp

set_option maxRecDepth 100000 in
set_option maxHeartbeats 400000 in
theorem good_nil (w : World) : Calls Tryd.prog 57 #[.pointer none] w fun e w' => e = .returned (.bool false) ∧ w = w' := by
  go_enter Tryd.func57, Tryd.ntmps57
  go_wp2
  go_ret
  exact ⟨rfl, rfl⟩

set_option maxRecDepth 100000 in
set_option maxHeartbeats 400000 in
theorem good_any (a : Nat) (l : List UInt8) (bad : Bool) (w : World) (h : Rd w a l bad) :
    Calls Tryd.prog 57 #[.pointer (some ⟨a, 0, none⟩)] w fun e w' => e = .returned (.bool !bad) ∧ w = w' := by
  obtain ⟨A, c, hb, hc, hm, hs⟩ := h
  have c1 := hb.cell 1
  simp only [List.getElem?_toArray, List.getElem?_cons_zero, List.getElem?_cons_succ] at c1
  go_enter Tryd.func57, Tryd.ntmps57
  go_wp2
  go_ret
  exact ⟨rfl, rfl⟩


set_option maxRecDepth 100000 in
set_option maxHeartbeats 400000 in
theorem join_any (w : World) (B : Nat) (A : Option Addr) (l : List UInt8) (c : Nat) (hl : l.length ≤ 8) (hs : Sees w B A (l.map bv)) :
    Calls Tryd.prog 64 #[.slice A l.length c] w fun e w' => e = .returned (.int .u64 (beNat l)) ∧ w = w' := by
  go_enter Tryd.func64, Tryd.ntmps64
  go_wp2
  go_loop [3, 5, 8] (fun n _ i => ∃ k N : Nat, k ≤ l.length ∧ i = .int .i64 k ∧ n = .int .u64 N ∧ Hid (N = beNat (l.take k))) (fun _ _ i => l.length - (intOf i).toNat)
  case atStart => exact ⟨0, 0, Nat.zero_le _, rfl, rfl, rfl⟩
  case round =>
    obtain ⟨k, N, hk, rfl, rfl, hN⟩ := hrel
    by_cases hlt : k < l.length
    · obtain ⟨g, o, rfl, hg, hcell0⟩ := hs.at_ (k := k) (by simpa using hlt)
      simp only [List.getElem_map] at hcell0
      obtain ⟨b, hb⟩ : ∃ b, b = l[k] := ⟨_, rfl⟩
      rw [← hb] at hcell0
      have hcell : w.cell? ⟨g, o + k, none⟩ = some (.int .u8 (b.toNat : Int)) := hcell0
      have hbb := UInt8.toNat_lt b
      have hNb := beNat_lt7 (l.take k) (by rw [List.length_take]; omega)
      rw [← hN.out] at hNb
      have hor := or_u64 N b.toNat hNb hbb
      have HB : Hid (beNat (l.take (k + 1)) = N * 256 + b.toNat) := by
        show beNat (l.take (k + 1)) = N * 256 + b.toNat
        rw [take_snoc' l k hlt, beNat_snoc, ← hN.out, hb]
      clear hcell0 hb hN hs
      go_wp2
      go_round
      case rel => exact ⟨k + 1, N * 256 + b.toNat, by omega, by go_num, by go_num, HB.out.symm⟩
      case measure => simp [intOf]; omega
    · go_wp2
      go_ret
      exact ⟨ret_val (by show Value.int _ _ = _; rw [hN.out, List.take_of_length_le (by omega)]), rfl⟩


/-- What take leaves: the piece, what is left, whether there was a fault. -/
def tk (n : Nat) (l : List UInt8) (bad : Bool) : List UInt8 × List UInt8 × Bool := if bad = false ∧ n ≤ l.length then (l.take n, l.drop n, false) else ([], [], true)
theorem tk_yes {n : Nat} {l : List UInt8} (h : n ≤ l.length) : tk n l false = (l.take n, l.drop n, false) := by simp [tk, h]
theorem tk_no {n : Nat} {l : List UInt8} {bad : Bool} (h : ¬ (bad = false ∧ n ≤ l.length)) : tk n l bad = ([], [], true) := by simp only [tk, if_neg h]

theorem Rd.cut {w : World} {a n : Nat} {l : List UInt8} {A A' : Option Addr} {c c' : Nat} (hb : Box w a 100 #[.slice A l.length c, .bool false]) (hs : Sees w a A (l.map bv))
    (hc : l.length - n ≤ c') (hm : c' ≤ maxLen) (hs' : Sees w a A' ((l.map bv).drop n)) :
    Sees (w.setCell ⟨a, 0, none⟩ (.slice A' (l.length - n) c')) a A ((l.take n).map bv) ∧ Rd (w.setCell ⟨a, 0, none⟩ (.slice A' (l.length - n) c')) a (l.drop n) false ∧
      w.grownBy (w.setCell ⟨a, 0, none⟩ (.slice A' (l.length - n) c')) (some a) := by
  have hg : w.grownBy (w.setCell ⟨a, 0, none⟩ (.slice A' (l.length - n) c')) (some a) := only_put (only_refl _ _) _ _
  have hlt := hb.lt
  refine ⟨?_, ⟨A', c', ?_, by simpa using hc, hm, ?_⟩, hg⟩
  · rw [List.map_take]
    exact (hs.take n).grown hg (by omega) (Nat.le_refl _)
  · have hp := hb.put 0 (.slice A' (l.length - n) c')
    simpa using hp
  · rw [List.map_drop]
    exact hs'.grown hg (by omega) (Nat.le_refl _)

set_option maxRecDepth 100000 in
set_option maxHeartbeats 400000 in
theorem take_nil (n : Nat) (w : World) : Calls Tryd.prog 63 #[.pointer none, .int .i64 n] w fun e w' => e = .returned (.tuple #[.slice none 0 0, .bool false]) ∧ w = w' := by
  go_enter Tryd.func63, Tryd.ntmps63
  go_wp2
  refine wp_scope_ahead 0 rfl ?_
  go_wp2_with (go_at_call 57; refine (good_nil _).mono ?_; rintro e w' ⟨rfl, rfl⟩)
  go_step3
  refine ⟨rfl, ?_⟩
  go_wp2_with (go_at_call 65; refine (fail_nil _).mono ?_; rintro e w' ⟨rfl, rfl⟩)
  rw [Exit.noGoto_ret]
  go_ret2
  exact ⟨rfl, rfl⟩

set_option maxRecDepth 100000 in
set_option maxHeartbeats 400000 in
theorem take_any (a n : Nat) (l : List UInt8) (bad : Bool) (w : World) (h : Rd w a l bad) (hn : n ≤ 4294967296) :
    Calls Tryd.prog 63 #[.pointer (some ⟨a, 0, none⟩), .int .i64 n] w fun e w' => ∃ A c, e = .returned (.tuple #[.slice A (tk n l bad).1.length c, .bool !(tk n l bad).2.2]) ∧
      Sees w' a A ((tk n l bad).1.map bv) ∧ Rd w' a (tk n l bad).2.1 (tk n l bad).2.2 ∧ w.grownBy w' (some a) := by
  have H := Lib.hid h
  obtain ⟨A, c, hb, hc, hm, hs⟩ := h
  have c0 := hb.cell 0
  have c1 := hb.cell 1
  have f0 := hb.free 0
  simp only [List.getElem?_toArray, List.getElem?_cons_zero, List.getElem?_cons_succ] at c0 c1
  have HM := Lib.hid hm
  unfold maxLen at hm
  by_cases hx : bad = false ∧ n ≤ l.length
  · obtain ⟨rfl, hnl⟩ := hx
    rw [tk_yes hnl]
    have hg := Lib.hid (good_any a l false w H.out)
    have HB := Lib.hid hb
    have hcut := Lib.hid (hs.cut (k := n) (cap := c) (by simpa using hc) (by simpa using hnl))
    have HS := Lib.hid hs
    clear hb hs
    go_enter Tryd.func63, Tryd.ntmps63
    go_wp2
    go_step3
    go_wp2_with (go_at_call 57; refine (hg.out).mono ?_; rintro e w' ⟨rfl, rfl⟩)
    · have hcn : c = n := by assumption
      go_ret2
      have hcut' := hcut.out
      rw [if_pos hcn] at hcut'
      have hL := Rd.cut HB.out HS.out (c' := 0) (by omega) (by simp [maxLen]) hcut'
      refine ⟨A, n, ?_, hL⟩
      rw [List.length_take, Nat.min_eq_left hnl]
      rfl
    · have hcn : ¬ c = n := by assumption
      go_ret2
      have hcut' := hcut.out
      rw [if_neg hcn] at hcut'
      have hL := Rd.cut HB.out HS.out (c' := c - n) (by omega) (by unfold maxLen; omega) hcut'
      refine ⟨A, n, ?_, hL⟩
      rw [List.length_take, Nat.min_eq_left hnl]
      rfl
  · rw [tk_no hx]
    have hf := Lib.hid (fail_any a l bad w H.out)
    have hg := Lib.hid (good_any a l bad w H.out)
    clear hb hs
    cases bad
    · have hnl : l.length < n := by
        simp at hx
        exact hx
      clear hx
      go_enter Tryd.func63, Tryd.ntmps63
      go_wp2
      refine wp_scope_ahead 0 rfl ?_
      go_wp2_with (go_at_call 57; refine (hg.out).mono ?_; rintro e w' ⟨rfl, rfl⟩)
      go_step3
      refine ⟨rfl, ?_⟩
      go_wp2_with (go_at_call 65; refine (hf.out).mono ?_; rintro e w' ⟨rfl, hr, ho⟩)
      rw [Exit.noGoto_ret]
      go_ret2
      exact ⟨none, 0, rfl, .inl rfl, hr, ho⟩
    · clear hx
      go_enter Tryd.func63, Tryd.ntmps63
      go_wp2
      refine wp_scope_ahead 0 rfl ?_
      go_wp2_with (go_at_call 57; refine (hg.out).mono ?_; rintro e w' ⟨rfl, rfl⟩)
      go_step3
      refine ⟨rfl, ?_⟩
      go_wp2_with (go_at_call 65; refine (hf.out).mono ?_; rintro e w' ⟨rfl, hr, ho⟩)
      rw [Exit.noGoto_ret]
      go_ret2
      exact ⟨none, 0, rfl, .inl rfl, hr, ho⟩

end Go.Proofs.YtapdnoellleimaaDoor

namespace Go.Proofs.YtapdnoellleimaaDoor
open Go.RowKit

set_option maxRecDepth 100000 in
set_option maxHeartbeats 400000 in
theorem num_nil (w : World) : Calls Tryd.prog 54 #[.pointer none] w fun e w' => e = .returned (.int .i64 0) ∧ w = w' := by
  have hj := Lib.hid ((join_any w 0 none [] 0 (by simp) (.inl rfl)).mono (fun e w' (h : _ ∧ _) => (⟨h.1.trans rfl, h.2⟩ : e = .returned (.int .u64 0) ∧ w = w')))
  go_enter Tryd.func54, Tryd.ntmps54
  go_wp2_with (first
    | (go_at_call 63; refine (take_nil 8 _).mono ?_; rintro e w' ⟨rfl, rfl⟩)
    | (go_at_call 64; refine (hj.out).mono ?_; rintro e w' ⟨rfl, rfl⟩))
  go_ret
  exact ⟨rfl, rfl⟩

/-- The number that Num answers. -/
def numV (l : List UInt8) (bad : Bool) : Int := wrap64 (beNat (tk 8 l bad).1 : Int)
theorem numV_bounds (l : List UInt8) (bad : Bool) : -9223372036854775808 ≤ numV l bad ∧ numV l bad ≤ 9223372036854775807 := by
  unfold numV wrap64
  omega

theorem tk_len (n : Nat) (l : List UInt8) (bad : Bool) : (tk n l bad).1.length ≤ n := by
  unfold tk
  split
  · simp; omega
  · simp

set_option maxRecDepth 100000 in
set_option maxHeartbeats 400000 in
theorem num_any (a : Nat) (l : List UInt8) (bad : Bool) (w : World) (h : Rd w a l bad) :
    Calls Tryd.prog 54 #[.pointer (some ⟨a, 0, none⟩)] w fun e w' => e = .returned (.int .i64 (numV l bad)) ∧ Rd w' a (tk 8 l bad).2.1 (tk 8 l bad).2.2 ∧ w.grownBy w' (some a) := by
  have H := Lib.hid h
  clear h
  have HL := Lib.hid (tk_len 8 l bad)
  unfold numV
  generalize ht : tk 8 l bad = t at *
  have HT := Lib.hid ht
  clear ht
  go_enter Tryd.func54, Tryd.ntmps54
  go_wp2_with fail
  refine (take_any a 8 l bad w H.out (by decide)).mono ?_
  rw [HT.out]
  rintro e w1 ⟨A, c, rfl, hs, hr, ho⟩
  have HS := Lib.hid hs
  have HR := Lib.hid hr
  have HO := Lib.hid ho
  clear hs hr ho
  go_wp2_with fail
  refine (join_any w1 a A t.1 c HL.out HS.out).mono ?_
  rintro e w' ⟨rfl, rfl⟩
  go_wp2
  go_ret
  exact ⟨rfl, HR.out, HO.out⟩

/-- What In answers, and leaves. -/
def inV (lo hi : Int) (l : List UInt8) (bad : Bool) : Int × List UInt8 × Bool :=
  if numV l bad < lo ∨ hi < numV l bad then (0, [], true) else (numV l bad, (tk 8 l bad).2)

end Go.Proofs.YtapdnoellleimaaDoor

namespace Go.Proofs.YtapdnoellleimaaDoor
open Go.RowKit

/-- What Text answers, and leaves. -/
def txtV (most : Int) (l : List UInt8) (bad : Bool) : List UInt8 × List UInt8 × Bool :=
  if (tk 4 l bad).2.2 = true ∨ most < (beNat (tk 4 l bad).1 : Int) then ([], [], true) else tk (beNat (tk 4 l bad).1) (tk 4 l bad).2.1 (tk 4 l bad).2.2

set_option maxRecDepth 100000 in
set_option maxHeartbeats 400000 in
theorem text_nil (most : Int) (w : World) : Calls Tryd.prog 55 #[.pointer none, .int .i64 most] w fun e w' => e = .returned (str []) ∧ w = w' := by
  go_enter Tryd.func55, Tryd.ntmps55
  go_wp2
  refine wp_scope_ahead 0 rfl ?_
  go_wp2_with (go_at_call 63; refine (take_nil 4 _).mono ?_; rintro e w' ⟨rfl, rfl⟩)
  go_step3
  refine ⟨rfl, ?_⟩
  go_wp2_with (go_at_call 65; refine (fail_nil _).mono ?_; rintro e w' ⟨rfl, rfl⟩)
  rw [Exit.noGoto_ret]
  go_ret
  exact ⟨rfl, rfl⟩

set_option maxRecDepth 100000 in
set_option maxHeartbeats 400000 in
theorem rdtext_any (a : Nat) (most : Int) (l : List UInt8) (bad : Bool) (w : World) (h : Rd w a l bad) :
    Calls Tryd.prog 55 #[.pointer (some ⟨a, 0, none⟩), .int .i64 most] w fun e w' =>
      e = .returned (str (txtV most l bad).1) ∧ Rd w' a (txtV most l bad).2.1 (txtV most l bad).2.2 ∧ w.grownBy w' (some a) := by
  have H := Lib.hid h
  clear h
  have HL := Lib.hid (tk_len 4 l bad)
  generalize hv : txtV most l bad = V
  have HV := Lib.hid hv
  clear hv
  unfold txtV at HV
  generalize ht : tk 4 l bad = t at *
  have HT := Lib.hid ht
  clear ht
  obtain ⟨p, r, bad1⟩ := t
  simp only at HL HV
  have hn4 := beNat_lt4 p HL.out
  generalize hN : beNat p = N at *
  have HN := Lib.hid hN
  clear hN
  go_enter Tryd.func55, Tryd.ntmps55
  go_wp2
  cases bad1
  · by_cases hm : most < (N : Int)
    · refine wp_scope_ahead 0 rfl ?_
      go_wp2_with fail
      refine (take_any a 4 l bad w H.out (by decide)).mono ?_
      rw [HT.out]
      rintro e w1 ⟨A, c, rfl, hs, hr, ho⟩
      have HJ := Lib.hid (join_any w1 a A p c (Nat.le_trans HL.out (by decide)) hs)
      rw [HN.out] at HJ
      have HF := Lib.hid (fail_any a _ _ w1 hr)
      have HO := Lib.hid ho
      clear hs hr ho
      go_wp2_with (go_at_call 64; refine (HJ.out).mono ?_; rintro e w2 ⟨rfl, rfl⟩)
      go_step3
      refine ⟨rfl, ?_⟩
      go_wp2_with (go_at_call 65; refine (HF.out).mono ?_; rintro e w' ⟨rfl, hr, ho⟩)
      rw [Exit.noGoto_ret]
      go_ret
      have e := HV.out
      rw [if_pos (.inr hm)] at e
      subst e
      exact ⟨rfl, hr, only_trans HO.out ho⟩
    · generalize ht2 : tk N r false = t2 at *
      have HT2 := Lib.hid ht2
      clear ht2
      obtain ⟨p2, r2, bad2⟩ := t2
      have HV2 : Hid ((p2, r2, bad2) = V) := by
        have e := HV.out
        rw [if_neg (by simp; omega)] at e
        exact e
      clear HV
      cases bad2
      · go_step3
        go_wp2_with fail
        refine (take_any a 4 l bad w H.out (by decide)).mono ?_
        rw [HT.out]
        rintro e w1 ⟨A, c, rfl, hs, hr, ho⟩
        have HJ := Lib.hid (join_any w1 a A p c (Nat.le_trans HL.out (by decide)) hs)
        rw [HN.out] at HJ
        have HT3 := Lib.hid (take_any a N r false w1 hr (by omega))
        rw [HT2.out] at HT3
        have HO := Lib.hid ho
        clear hs hr ho
        go_wp2_with (go_at_call 64; refine (HJ.out).mono ?_; rintro e w2 ⟨rfl, rfl⟩)
        refine (HT3.out).mono ?_
        rintro e w3 ⟨A2, c2, rfl, hs, hr, ho⟩
        have HR := Lib.hid hr
        have HO2 := Lib.hid ho
        have hconv := convert_sees (P := Tryd.prog) 22 5 9 Tryd.underlying22 Tryd.underlying5 Tryd.underlying9 hs c2
        clear hs hr ho
        go_wp2
        rw [Exit.noGoto_ret]
        go_ret
        have e := HV2.out
        subst e
        exact ⟨rfl, HR.out, only_trans HO.out HO2.out⟩
      · refine wp_scope_ahead 0 rfl ?_
        go_wp2_with fail
        refine (take_any a 4 l bad w H.out (by decide)).mono ?_
        rw [HT.out]
        rintro e w1 ⟨A, c, rfl, hs, hr, ho⟩
        have HJ := Lib.hid (join_any w1 a A p c (Nat.le_trans HL.out (by decide)) hs)
        rw [HN.out] at HJ
        have HT3 := Lib.hid (take_any a N r false w1 hr (by omega))
        rw [HT2.out] at HT3
        have HO := Lib.hid ho
        clear hs hr ho
        go_wp2_with (go_at_call 64; refine (HJ.out).mono ?_; rintro e w2 ⟨rfl, rfl⟩)
        refine (HT3.out).mono ?_
        rintro e w3 ⟨A2, c2, rfl, hs, hr, ho⟩
        have HF := Lib.hid (fail_any a _ _ w3 hr)
        have HO2 := Lib.hid ho
        clear hs hr ho
        go_wp2
        go_step3
        refine ⟨rfl, ?_⟩
        go_wp2_with (go_at_call 65; refine (HF.out).mono ?_; rintro e w' ⟨rfl, hr, ho⟩)
        rw [Exit.noGoto_ret]
        go_ret
        have hV : V = ([], [], true) := by
          have e1 := HT2.out
          have e2 := HV2.out
          unfold tk at e1
          split at e1
          · simp at e1
          · rw [← e2, ← e1]
        subst hV
        exact ⟨rfl, hr, only_trans (only_trans HO.out HO2.out) ho⟩
  · refine wp_scope_ahead 0 rfl ?_
    go_wp2_with fail
    refine (take_any a 4 l bad w H.out (by decide)).mono ?_
    rw [HT.out]
    rintro e w1 ⟨A, c, rfl, hs, hr, ho⟩
    have HF := Lib.hid (fail_any a _ _ w1 hr)
    have HO := Lib.hid ho
    clear hs hr ho
    go_wp2
    go_step3
    refine ⟨rfl, ?_⟩
    go_wp2_with (go_at_call 65; refine (HF.out).mono ?_; rintro e w' ⟨rfl, hr, ho⟩)
    rw [Exit.noGoto_ret]
    go_ret
    have e := HV.out
    rw [if_pos (by simp)] at e
    subst e
    exact ⟨rfl, hr, only_trans HO.out ho⟩

end Go.Proofs.YtapdnoellleimaaDoor

namespace Go.Proofs.YtapdnoellleimaaDoor
open Go.RowKit

/-- A digest as a value: 32 bytes. -/
def dg (l : List UInt8) : Value := .agg (l.map bv).toArray
def zeros : List UInt8 := List.replicate 32 0
def zcells : Array Value := (zeros.map bv).toArray
theorem zcells_size : zcells.size = 32 := rfl

/-- What Digest answers. -/
def digV (l : List UInt8) (bad : Bool) : List UInt8 := if (tk 32 l bad).2.2 = true then zeros else (tk 32 l bad).1
theorem digV_len (l : List UInt8) (bad : Bool) : (digV l bad).length = 32 := by
  unfold digV tk
  by_cases h : bad = false ∧ 32 ≤ l.length
  · rw [if_pos h]
    show (l.take 32).length = 32
    rw [List.length_take]
    exact Nat.min_eq_left h.2
  · rw [if_neg h]
    rfl
theorem splice_dig (l : List UInt8) (bad : Bool) : (tk 32 l bad).1.map bv ++ (zeros.map bv).drop (tk 32 l bad).1.length = (digV l bad).map bv := by
  unfold digV tk
  by_cases h : bad = false ∧ 32 ≤ l.length
  · rw [if_pos h]
    have e : (l.take 32).length = 32 := by rw [List.length_take]; exact Nat.min_eq_left h.2
    simp only [e]
    simp [zeros]
  · rw [if_neg h]
    simp

theorem byte_info : (Tryd.prog.info? 5).map (fun i => (i.zero, i.size, i.bytes)) = some (some (.int .u8 0), 1, 1) := by kernel_rfl
set_option maxRecDepth 100000 in
set_option maxHeartbeats 400000 in
/-- Read: a Reader of a copy of what is seen. -/
theorem read_any (B : Nat) (A : Option Addr) (l : List UInt8) (c : Nat) (w : World) (hs : Sees w B A (l.map bv)) (hB : B ≤ w.heap.size) (hl : l.length ≤ 70368744177664) :
    Calls Tryd.prog 53 #[.slice A l.length c] w fun e w' => ∃ a, e = .returned (.pointer (some ⟨a, 0, none⟩)) ∧ Rd w' a l false ∧ w.heap.size ≤ a ∧ Below w.heap.size w w' := by
  obtain ⟨i0, hi, hz0, hz1, hz2⟩ := info_parts byte_info
  have hmk : (Instr.makeSlice 22 (.int .i64 (l.length : Int)) (.int .i64 (l.length : Int))).run Tryd.prog w = .ok (.slice (some ⟨w.heap.size, 0, none⟩) l.length l.length) (w.alloc (.cells (madeCells #[.int .u8 0] l.length) 5)) := by
    have h := run_make (P := Tryd.prog) w 22 5 i0 (.int .u8 0) Tryd.underlying22 hi hz0 .i64 .i64 (l.length : Int) (l.length : Int) (by omega) (Int.le_refl _) (by rw [hz2]; omega) (by omega)
    simp only [Int.toNat_natCast, hz1, Nat.mul_one] at h
    exact h
  have hb0 : Hid (Box (w.alloc (.cells (madeCells #[.int .u8 0] l.length) 5)) w.heap.size 5 (List.replicate l.length (Value.int .u8 0)).toArray) := by
    have h := Box.made w 5 (madeCells #[.int .u8 0] l.length)
    have e : madeCells #[.int .u8 0] l.length = (List.replicate l.length (Value.int .u8 0)).toArray := by
      rw [← toList_madeCells_one]
    rw [e] at h ⊢
    exact h
  have hS := Lib.hid ((hs.more hB).keep (w' := w.alloc (.cells (madeCells #[.int .u8 0] l.length) 5)) (fun p hp => World.cell?_alloc_lt w _ p hp))
  have hone := Lib.hid (bv_one l)
  have hlen : Hid ((l.map bv).length = l.length) := List.length_map ..
  have hlen2 : Hid ((List.replicate l.length (Value.int .u8 0)).length = l.length) := List.length_replicate
  have hle : Hid (l.length ≤ (List.replicate l.length (Value.int .u8 0)).length) := by
    show _ ≤ _
    rw [List.length_replicate]
    exact Nat.le_refl _
  have hG0 := Lib.hid ((Below.refl w.heap.size w).alloc (Nat.le_refl _) (.cells (madeCells #[.int .u8 0] l.length) 5))
  clear hs hi hz0 hz1 hz2
  go_enter Tryd.func53, Tryd.ntmps53
  go_wp2_with (with_reducible show wpList _ _ _ ((⟨some 9, _, _, _, _, _⟩ : Oper) :: _) _ _; refine wpList_copy_box rfl (.tmp 7) (.tmp 8) _ _ rfl 5 Tryd.underlying22 (by kernel_rfl) w.heap.size l.length l.length (List.replicate l.length (Value.int .u8 0)) hlen2.out 5 hb0.out w.heap.size A l.length c (l.map bv) rfl rfl hS.out hlen.out hle.out hone.out ?_; intro w2 hb2 hg2; have HB2 := Lib.hid hb2; have HG2 := Lib.hid hg2; clear hb2 hg2)
  go_ret
  have hs0 := hG0.out.size
  have hlt := HB2.out.lt
  have e : (l.map bv ++ (List.replicate l.length (Value.int .u8 0)).drop l.length).toArray = (l.map bv).toArray := by simp
  have hbb := HB2.out
  rw [e] at hbb
  have hB2 : Below w.heap.size w w2 := hG0.out.trans (below_only HG2.out (Nat.le_refl _) (by simp))
  refine ⟨w2.heap.size, rfl, ⟨some ⟨w.heap.size, 0, none⟩, l.length, Box.made _ _ _, Nat.le_refl _, by unfold maxLen; omega, ?_⟩, hB2.size, hB2.alloc hB2.size _⟩
  have := Sees.of_box (hbb.alloc (.cells #[.slice (some ⟨w.heap.size, 0, none⟩) l.length l.length, .bool false] 100)) hlt
  simpa using this

end Go.Proofs.YtapdnoellleimaaDoor

namespace Go.Proofs.YtapdnoellleimaaDoor
open Go.RowKit

/-- What stands in a block from B on, and below T, stands. -/
def Same (B T : Nat) (w w' : World) : Prop := ∀ k, B ≤ k → k < T → w'.heap[k]? = w.heap[k]?
theorem Same.refl (B T : Nat) (w : World) : Same B T w w := fun _ _ _ => rfl
theorem Same.trans {B T : Nat} {u v w : World} (h : Same B T u v) (k : Same B T v w) : Same B T u w := fun i h1 h2 => (k i h1 h2).trans (h i h1 h2)
theorem Same.of_below {B T : Nat} {w w' : World} {C : Nat} (h : Below C w w') (hT : T ≤ C) : Same B T w w' := fun i _ h2 => h.block i (by omega)
theorem Same.of_grown {B T g : Nat} {w w' : World} (h : w.grownBy w' (some g)) (hg : g < B ∨ T ≤ g) (hT : T ≤ w.heap.size) : Same B T w w' := fun i h1 h2 => h.block i (by omega) (by simp; omega)

set_option maxRecDepth 100000 in
set_option maxHeartbeats 400000 in
/-- Read: a Reader of a copy of what is seen; nothing but its own blocks can turn it. -/
theorem read_new (B : Nat) (A : Option Addr) (l : List UInt8) (c : Nat) (w : World) (hs : Sees w B A (l.map bv)) (hB : B ≤ w.heap.size) (hl : l.length ≤ 70368744177664) :
    Calls Tryd.prog 53 #[.slice A l.length c] w fun e w' => ∃ a, e = .returned (.pointer (some ⟨a, 0, none⟩)) ∧ (∀ w'', Same w.heap.size w'.heap.size w' w'' → Rd w'' a l false) ∧ w.heap.size ≤ a ∧ a < w'.heap.size ∧ Below w.heap.size w w' := by
  obtain ⟨i0, hi, hz0, hz1, hz2⟩ := info_parts byte_info
  have hmk : (Instr.makeSlice 22 (.int .i64 (l.length : Int)) (.int .i64 (l.length : Int))).run Tryd.prog w = .ok (.slice (some ⟨w.heap.size, 0, none⟩) l.length l.length) (w.alloc (.cells (madeCells #[.int .u8 0] l.length) 5)) := by
    have h := run_make (P := Tryd.prog) w 22 5 i0 (.int .u8 0) Tryd.underlying22 hi hz0 .i64 .i64 (l.length : Int) (l.length : Int) (by omega) (Int.le_refl _) (by rw [hz2]; omega) (by omega)
    simp only [Int.toNat_natCast, hz1, Nat.mul_one] at h
    exact h
  have hb0 : Hid (Box (w.alloc (.cells (madeCells #[.int .u8 0] l.length) 5)) w.heap.size 5 (List.replicate l.length (Value.int .u8 0)).toArray) := by
    have h := Box.made w 5 (madeCells #[.int .u8 0] l.length)
    have e : madeCells #[.int .u8 0] l.length = (List.replicate l.length (Value.int .u8 0)).toArray := by
      rw [← toList_madeCells_one]
    rw [e] at h ⊢
    exact h
  have hS := Lib.hid ((hs.more hB).keep (w' := w.alloc (.cells (madeCells #[.int .u8 0] l.length) 5)) (fun p hp => World.cell?_alloc_lt w _ p hp))
  have hone := Lib.hid (bv_one l)
  have hlen : Hid ((l.map bv).length = l.length) := List.length_map ..
  have hlen2 : Hid ((List.replicate l.length (Value.int .u8 0)).length = l.length) := List.length_replicate
  have hle : Hid (l.length ≤ (List.replicate l.length (Value.int .u8 0)).length) := by
    show _ ≤ _
    rw [List.length_replicate]
    exact Nat.le_refl _
  have hG0 := Lib.hid ((Below.refl w.heap.size w).alloc (Nat.le_refl _) (.cells (madeCells #[.int .u8 0] l.length) 5))
  clear hs hi hz0 hz1 hz2
  go_enter Tryd.func53, Tryd.ntmps53
  go_wp2_with (with_reducible show wpList _ _ _ ((⟨some 9, _, _, _, _, _⟩ : Oper) :: _) _ _; refine wpList_copy_box rfl (.tmp 7) (.tmp 8) _ _ rfl 5 Tryd.underlying22 (by kernel_rfl) w.heap.size l.length l.length (List.replicate l.length (Value.int .u8 0)) hlen2.out 5 hb0.out w.heap.size A l.length c (l.map bv) rfl rfl hS.out hlen.out hle.out hone.out ?_; intro w2 hb2 hg2; have HB2 := Lib.hid hb2; have HG2 := Lib.hid hg2; clear hb2 hg2)
  go_ret
  have hs0 := hG0.out.size
  have hlt := HB2.out.lt
  have e : (l.map bv ++ (List.replicate l.length (Value.int .u8 0)).drop l.length).toArray = (l.map bv).toArray := by simp
  have hbb := HB2.out
  rw [e] at hbb
  have hB2 : Below w.heap.size w w2 := hG0.out.trans (below_only HG2.out (Nat.le_refl _) (by simp))
  refine ⟨w2.heap.size, rfl, fun w'' hsame => ?_, hB2.size, by simp, hB2.alloc hB2.size _⟩
  have hb3 : Box w'' w2.heap.size 100 #[.slice (some ⟨w.heap.size, 0, none⟩) l.length l.length, .bool false] := (hsame _ hB2.size (by simp)).trans (Box.made _ _ _)
  have hb4 : Box w'' w.heap.size 5 (l.map bv).toArray := (hsame _ (Nat.le_refl _) (by simp; omega)).trans (hbb.alloc _)
  refine ⟨some ⟨w.heap.size, 0, none⟩, l.length, hb3, Nat.le_refl _, by unfold maxLen; omega, ?_⟩
  have := Sees.of_box hb4 hlt
  simpa using this

end Go.Proofs.YtapdnoellleimaaDoor
