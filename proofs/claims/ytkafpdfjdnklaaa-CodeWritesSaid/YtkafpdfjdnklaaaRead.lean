/-
  The Reader of package code: what each of its methods does, said of the bytes that are left and of whether there was a fault.
-/
import Derived.Test.YtkafpdfjdnklaaaProg
import Derived.Test.YtkafpdfjdnklaaaKit
import Derived.Test.YtkafpdfjdnklaaaBytes
import Derived.WalkSpells
import Derived.WalkLawsBesides
import Derived.BigQuiet
import Derived.Lib.Hide
import Derived.Deep.QuietTactic
namespace Go.Proofs.Ytkafpdfjdnklaaa
open Go.RowKit

/-- The Reader in block a has the bytes l left; bad: there was a fault. -/
def Rd (w : World) (a : Nat) (l : List UInt8) (bad : Bool) : Prop :=
  ∃ A c, Box w a 60 #[.slice A l.length c, .bool bad] ∧ l.length ≤ c ∧ c ≤ maxLen ∧ Sees w a A (l.map bv)

theorem Rd.below {w w' : World} {a B : Nat} {l : List UInt8} {bad : Bool} (h : Rd w a l bad) (hb : Below B w w') (ha : a < B) : Rd w' a l bad := by
  obtain ⟨A, c, h1, h2, h3, h4⟩ := h
  exact ⟨A, c, h1.below hb ha, h2, h3, h4.below (hb.mono (Nat.le_of_lt ha))⟩
theorem Rd.alloc {w : World} {a : Nat} {l : List UInt8} {bad : Bool} (h : Rd w a l bad) (o : Obj) : Rd (w.alloc o) a l bad := by
  have hlt : a < w.heap.size := by
    obtain ⟨A, c, h1, _⟩ := h
    exact h1.lt
  exact h.below ((Below.refl w.heap.size w).alloc (Nat.le_refl _) o) hlt
theorem Rd.lt {w : World} {a : Nat} {l : List UInt8} {bad : Bool} (h : Rd w a l bad) : a < w.heap.size := by
  obtain ⟨A, c, h1, _⟩ := h
  exact h1.lt

theorem Rd.only {w w' : World} {a g : Nat} {l : List UInt8} {bad : Bool} (h : Rd w a l bad) (hb : w.grownBy w' (some g)) (ha : a < g) : Rd w' a l bad :=
  h.below (B := a + 1) (below_only hb ha h.lt) (Nat.lt_succ_self a)

set_option maxHeartbeats 400000 in
theorem fail_nil (w : World) : Calls Try.prog 37 #[.pointer none] w fun e w' => e = .returned (.tuple #[]) ∧ w = w' := by
  go_enter Try.func37, Try.ntmps37
  go_wp2
  go_end0
  exact ⟨rfl, rfl⟩

set_option maxHeartbeats 400000 in
theorem fail_any (a : Nat) (l : List UInt8) (bad : Bool) (w : World) (h : Rd w a l bad) :
    Calls Try.prog 37 #[.pointer (some ⟨a, 0, none⟩)] w fun e w' => e = .returned (.tuple #[]) ∧ Rd w' a [] true ∧ w.grownBy w' (some a) := by
  obtain ⟨A, c, hb, hc, hm, hs⟩ := h
  have c0 := hb.cell 0
  have c1 := hb.cell 1
  have f0 := hb.free 0
  have f1 := hb.free 1
  simp only [List.getElem?_toArray, List.getElem?_cons_zero, List.getElem?_cons_succ] at c0 c1
  go_enter Try.func37, Try.ntmps37
  go_wp2
  go_end0
  refine ⟨rfl, ⟨none, 0, ?_, by simp, by simp, .inl rfl⟩, only_put (only_put (only_refl _ _) _ _) _ _⟩
  have hp := (hb.put 0 (.slice none 0 0)).put 1 (.bool true)
  simpa using hp

set_option maxHeartbeats 400000 in
theorem good_nil (w : World) : Calls Try.prog 28 #[.pointer none] w fun e w' => e = .returned (.bool false) ∧ w = w' := by
  go_enter Try.func28, Try.ntmps28
  go_wp2
  go_ret
  exact ⟨rfl, rfl⟩

set_option maxHeartbeats 400000 in
theorem good_any (a : Nat) (l : List UInt8) (bad : Bool) (w : World) (h : Rd w a l bad) :
    Calls Try.prog 28 #[.pointer (some ⟨a, 0, none⟩)] w fun e w' => e = .returned (.bool !bad) ∧ w = w' := by
  obtain ⟨A, c, hb, hc, hm, hs⟩ := h
  have c1 := hb.cell 1
  simp only [List.getElem?_toArray, List.getElem?_cons_zero, List.getElem?_cons_succ] at c1
  go_enter Try.func28, Try.ntmps28
  go_wp2
  go_ret
  exact ⟨rfl, rfl⟩


set_option maxHeartbeats 400000 in
theorem join_any (w : World) (B : Nat) (A : Option Addr) (l : List UInt8) (c : Nat) (hl : l.length ≤ 8) (hs : Sees w B A (l.map bv)) :
    Calls Try.prog 35 #[.slice A l.length c] w fun e w' => e = .returned (.int .u64 (beNat l)) ∧ w = w' := by
  go_enter Try.func35, Try.ntmps35
  go_wp2
  go_loop [3, 5, 8] (fun n _ i => ∃ k N : Nat, k ≤ l.length ∧ i = .int .i64 k ∧ n = .int .u64 N ∧ Hid (N = beNat (l.take k))) (fun _ _ i => l.length - (intOf i).toNat)
  case atStart => exact ⟨0, 0, Nat.zero_le _, rfl, rfl, rfl⟩
  case round =>
    obtain ⟨k, N, hk, rfl, rfl, hN⟩ := hrel
    by_cases hlt : k < l.length
    · obtain ⟨g, o, rfl, hg, hcell0⟩ := hs.at_ (k := k) (by simpa using hlt)
      simp only [List.getElem_map] at hcell0
      obtain ⟨b, hb⟩ : ∃ b, b = l[k] := ⟨_, rfl⟩
      rw [← hb] at hcell0
      have hcell : w.cell? ⟨g, o + k, none⟩ = some (.int .u8 (b.toNat : Int)) := hcell0
      have hbb := UInt8.toNat_lt b
      have hNb := beNat_lt7 (l.take k) (by rw [List.length_take]; omega)
      rw [← hN.out] at hNb
      have hor := or_u64 N b.toNat hNb hbb
      have HB : Hid (beNat (l.take (k + 1)) = N * 256 + b.toNat) := by
        show beNat (l.take (k + 1)) = N * 256 + b.toNat
        rw [take_snoc' l k hlt, beNat_snoc, ← hN.out, hb]
      clear hcell0 hb hN hs
      go_wp2
      go_round
      case rel => exact ⟨k + 1, N * 256 + b.toNat, by omega, by go_num, by go_num, HB.out.symm⟩
      case measure => simp [intOf]; omega
    · go_wp2
      go_ret
      exact ⟨ret_val (by show Value.int _ _ = _; rw [hN.out, List.take_of_length_le (by omega)]), rfl⟩


set_option maxHeartbeats 400000 in
theorem end_nil (w : World) : Calls Try.prog 30 #[.pointer none] w fun e w' => e = .returned (.bool false) ∧ w = w' := by
  go_enter Try.func30, Try.ntmps30
  go_wp2_with (go_at_call 28; refine (good_nil _).mono ?_; rintro e w' ⟨rfl, rfl⟩)
  go_ret
  exact ⟨rfl, rfl⟩

set_option maxHeartbeats 400000 in
theorem end_any (a : Nat) (l : List UInt8) (bad : Bool) (w : World) (h : Rd w a l bad) :
    Calls Try.prog 30 #[.pointer (some ⟨a, 0, none⟩)] w fun e w' => e = .returned (.bool (!bad && l.isEmpty)) ∧ w = w' := by
  have h' := h
  obtain ⟨A, c, hb, hc, hm, hs⟩ := h
  have c0 := hb.cell 0
  have c1 := hb.cell 1
  simp only [List.getElem?_toArray, List.getElem?_cons_zero, List.getElem?_cons_succ] at c0 c1
  unfold maxLen at hm
  have H := Lib.hid h'
  clear h' hb hs
  cases bad
  · have hg := Lib.hid (good_any a l false w H.out)
    go_enter Try.func30, Try.ntmps30
    go_wp2_with (go_at_call 28; refine (hg.out).mono ?_; rintro e w' ⟨rfl, rfl⟩)
    go_ret
    refine ⟨ret_val ?_, rfl⟩
    show Value.bool ((l.length : Int) == 0) = Value.bool (!false && l.isEmpty)
    cases l with
    | nil => rfl
    | cons b t =>
      have e : (((b :: t).length : Int) == 0) = false := by simp; omega
      rw [e]
      rfl
  · have hg := Lib.hid (good_any a l true w H.out)
    go_enter Try.func30, Try.ntmps30
    go_wp2_with (go_at_call 28; refine (hg.out).mono ?_; rintro e w' ⟨rfl, rfl⟩)
    go_ret
    exact ⟨rfl, rfl⟩

/-- What take leaves: the piece, what is left, whether there was a fault. -/
def tk (n : Nat) (l : List UInt8) (bad : Bool) : List UInt8 × List UInt8 × Bool := if bad = false ∧ n ≤ l.length then (l.take n, l.drop n, false) else ([], [], true)
theorem tk_yes {n : Nat} {l : List UInt8} (h : n ≤ l.length) : tk n l false = (l.take n, l.drop n, false) := by simp [tk, h]
theorem tk_no {n : Nat} {l : List UInt8} {bad : Bool} (h : ¬ (bad = false ∧ n ≤ l.length)) : tk n l bad = ([], [], true) := by simp only [tk, if_neg h]

theorem Rd.cut {w : World} {a n : Nat} {l : List UInt8} {A A' : Option Addr} {c c' : Nat} (hb : Box w a 60 #[.slice A l.length c, .bool false]) (hs : Sees w a A (l.map bv))
    (hc : l.length - n ≤ c') (hm : c' ≤ maxLen) (hs' : Sees w a A' ((l.map bv).drop n)) :
    Sees (w.setCell ⟨a, 0, none⟩ (.slice A' (l.length - n) c')) a A ((l.take n).map bv) ∧ Rd (w.setCell ⟨a, 0, none⟩ (.slice A' (l.length - n) c')) a (l.drop n) false ∧
      w.grownBy (w.setCell ⟨a, 0, none⟩ (.slice A' (l.length - n) c')) (some a) := by
  have hg : w.grownBy (w.setCell ⟨a, 0, none⟩ (.slice A' (l.length - n) c')) (some a) := only_put (only_refl _ _) _ _
  have hlt := hb.lt
  refine ⟨?_, ⟨A', c', ?_, by simpa using hc, hm, ?_⟩, hg⟩
  · rw [List.map_take]
    exact (hs.take n).grown hg (by omega) (Nat.le_refl _)
  · have hp := hb.put 0 (.slice A' (l.length - n) c')
    simpa using hp
  · rw [List.map_drop]
    exact hs'.grown hg (by omega) (Nat.le_refl _)

set_option maxHeartbeats 400000 in
theorem take_nil (n : Nat) (w : World) : Calls Try.prog 34 #[.pointer none, .int .i64 n] w fun e w' => e = .returned (.tuple #[.slice none 0 0, .bool false]) ∧ w = w' := by
  go_enter Try.func34, Try.ntmps34
  go_wp2
  refine wp_scope_ahead 0 rfl ?_
  go_wp2_with (go_at_call 28; refine (good_nil _).mono ?_; rintro e w' ⟨rfl, rfl⟩)
  go_step3
  refine ⟨rfl, ?_⟩
  go_wp2_with (go_at_call 37; refine (fail_nil _).mono ?_; rintro e w' ⟨rfl, rfl⟩)
  rw [Exit.noGoto_ret]
  go_ret2
  exact ⟨rfl, rfl⟩

set_option maxHeartbeats 400000 in
theorem take_any (a n : Nat) (l : List UInt8) (bad : Bool) (w : World) (h : Rd w a l bad) (hn : n ≤ 4294967296) :
    Calls Try.prog 34 #[.pointer (some ⟨a, 0, none⟩), .int .i64 n] w fun e w' => ∃ A c, e = .returned (.tuple #[.slice A (tk n l bad).1.length c, .bool !(tk n l bad).2.2]) ∧
      Sees w' a A ((tk n l bad).1.map bv) ∧ Rd w' a (tk n l bad).2.1 (tk n l bad).2.2 ∧ w.grownBy w' (some a) := by
  have H := Lib.hid h
  obtain ⟨A, c, hb, hc, hm, hs⟩ := h
  have c0 := hb.cell 0
  have c1 := hb.cell 1
  have f0 := hb.free 0
  simp only [List.getElem?_toArray, List.getElem?_cons_zero, List.getElem?_cons_succ] at c0 c1
  have HM := Lib.hid hm
  unfold maxLen at hm
  by_cases hx : bad = false ∧ n ≤ l.length
  · obtain ⟨rfl, hnl⟩ := hx
    rw [tk_yes hnl]
    have hg := Lib.hid (good_any a l false w H.out)
    have HB := Lib.hid hb
    have hcut := Lib.hid (hs.cut (k := n) (cap := c) (by simpa using hc) (by simpa using hnl))
    have HS := Lib.hid hs
    clear hb hs
    go_enter Try.func34, Try.ntmps34
    go_wp2
    go_step3
    go_wp2_with (go_at_call 28; refine (hg.out).mono ?_; rintro e w' ⟨rfl, rfl⟩)
    · have hcn : c = n := by assumption
      go_ret2
      have hcut' := hcut.out
      rw [if_pos hcn] at hcut'
      have hL := Rd.cut HB.out HS.out (c' := 0) (by omega) (by simp [maxLen]) hcut'
      refine ⟨A, n, ?_, hL⟩
      rw [List.length_take, Nat.min_eq_left hnl]
      rfl
    · have hcn : ¬ c = n := by assumption
      go_ret2
      have hcut' := hcut.out
      rw [if_neg hcn] at hcut'
      have hL := Rd.cut HB.out HS.out (c' := c - n) (by omega) (by unfold maxLen; omega) hcut'
      refine ⟨A, n, ?_, hL⟩
      rw [List.length_take, Nat.min_eq_left hnl]
      rfl
  · rw [tk_no hx]
    have hf := Lib.hid (fail_any a l bad w H.out)
    have hg := Lib.hid (good_any a l bad w H.out)
    clear hb hs
    cases bad
    · have hnl : l.length < n := by
        simp at hx
        exact hx
      clear hx
      go_enter Try.func34, Try.ntmps34
      go_wp2
      refine wp_scope_ahead 0 rfl ?_
      go_wp2_with (go_at_call 28; refine (hg.out).mono ?_; rintro e w' ⟨rfl, rfl⟩)
      go_step3
      refine ⟨rfl, ?_⟩
      go_wp2_with (go_at_call 37; refine (hf.out).mono ?_; rintro e w' ⟨rfl, hr, ho⟩)
      rw [Exit.noGoto_ret]
      go_ret2
      exact ⟨none, 0, rfl, .inl rfl, hr, ho⟩
    · clear hx
      go_enter Try.func34, Try.ntmps34
      go_wp2
      refine wp_scope_ahead 0 rfl ?_
      go_wp2_with (go_at_call 28; refine (hg.out).mono ?_; rintro e w' ⟨rfl, rfl⟩)
      go_step3
      refine ⟨rfl, ?_⟩
      go_wp2_with (go_at_call 37; refine (hf.out).mono ?_; rintro e w' ⟨rfl, hr, ho⟩)
      rw [Exit.noGoto_ret]
      go_ret2
      exact ⟨none, 0, rfl, .inl rfl, hr, ho⟩

end Go.Proofs.Ytkafpdfjdnklaaa
