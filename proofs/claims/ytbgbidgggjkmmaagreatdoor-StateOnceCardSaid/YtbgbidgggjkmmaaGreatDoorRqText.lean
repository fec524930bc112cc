/-
  Texts and numbers as the document writes them (wapentakeref01.Text, wapentakeref09.nums); lists of texts compared (slices.Equal, wapentakeref09.Texts); how much texts are (wapentakelaw09.large).
-/
import Derived.Test.YtbgbidgggjkmmaaGreatDoorRqWrite
import Derived.Test.YtbgbidgggjkmmaaGreatDoorOB
import Derived.Test.YtbgbidgggjkmmaaGreatDoorTG
namespace Go.Proofs.YtbgbidgggjkmmaaGreatDoor
open Go.RowKit

set_option maxRecDepth 100000 in
theorem num_tail9 (s : ByteArray) (hs : s.size ≤ 140737488351232) : (numBytes (s.size : Int)).drop 4 = beBytes 4 s.size := by
  unfold numBytes
  have e : ((s.size : Int) % 18446744073709551616).toNat = s.size := by omega
  rw [e]
  rfl
set_option maxRecDepth 100000 in
theorem text_join9 (s : ByteArray) (hs : s.size ≤ 140737488351232) : (ByteArray.mk (numBytes (s.size : Int)).toArray).extract 4 8 ++ s = ByteArray.mk (textBytes s).toArray := by
  rw [ByteArray.extract_mk, num_tail9 s hs, List.take_of_length_le (by rw [beBytes_length]; decide)]
  obtain ⟨⟨l⟩⟩ := s
  rw [ByteArray.mk_append_mk]
  rfl
set_option maxRecDepth 100000 in
theorem mk_size (l : List UInt8) : (ByteArray.mk l.toArray).size = l.length := by show l.toArray.size = _; rw [List.size_toArray]

/-! ### Lists of texts compared -/
set_option maxRecDepth 100000 in
theorem texts_step {a b : List ByteArray} {k : Nat} (h : a.take k = b.take k) (ha : k < a.length) (hb : k < b.length) (e : a[k] = b[k]) : a.take (k + 1) = b.take (k + 1) := by
  rw [take_snoc' a k ha, take_snoc' b k hb, h, e]

set_option maxRecDepth 100000 in
set_option maxHeartbeats 1000000 in
theorem texts_any9 (a b : List ByteArray) (A B : Option Addr) (c c' : Nat) (ha : a.length ≤ maxLen) (_hb : b.length ≤ maxLen) (w : World) (hA : Sees w w.heap.size A (a.map Value.string)) (hB : Sees w w.heap.size B (b.map Value.string)) :
    Calls Tryz.prog 25 #[.slice A a.length c, .slice B b.length c'] w fun e w' => e = .returned (.bool (decide (a = b))) ∧ Below w.heap.size w w' := by
  have HA := Lib.hid hA
  have HB := Lib.hid hB
  have HN : Hid (a.length ≤ 9223372036854775807) := Lib.hid (Nat.le_trans ha (by simp [maxLen]))
  clear hA hB ha
  by_cases hl : a.length = b.length
  rotate_left
  · have HD : Hid (decide (a = b) = false) := Lib.hid (decide_eq_false (fun h => hl (by rw [h])))
    have e1 : ((a.length : Int) == (b.length : Int)) = false := by rw [beq_eq_false_iff_ne]; omega
    have e2 : ((a.length : Int) != (b.length : Int)) = true := by rw [bne_iff_ne]; omega
    clear HA HB hl
    generalize decide (a = b) = r at *
    generalize a.length = n at *
    generalize b.length = m at *
    go_enter Tryz.func25, Tryz.ntmps25
    go_wp2
    go_ret
    exact ⟨ret_val (congrArg Value.bool HD.out.symm), Below.refl _ _⟩
  have HLE := Lib.hid hl
  rw [← hl]
  clear hl
  go_enter Tryz.func25, Tryz.ntmps25
  go_wp2
  go_loopw [5, 13] (fun _ i wr => ∃ k : Nat, k ≤ a.length ∧ i = .int .i64 (k : Int) ∧ Hid (a.take k = b.take k) ∧ Hid (Below w.heap.size w wr)) (fun _ i _ => a.length - (intOf i).toNat)
  case atStart => exact ⟨0, Nat.zero_le _, rfl, Lib.hid rfl, Lib.hid (Below.refl _ _)⟩
  case round =>
    obtain ⟨k, hk, rfl, HT, HF⟩ := hrel
    by_cases hlt : k < a.length
    · have hltb : k < b.length := by have := HLE.out; omega
      obtain ⟨g, o, rfl, _, hca⟩ := (HA.out.below HF.out).at_ (k := k) (by simpa using hlt)
      obtain ⟨g', o', rfl, _, hcb⟩ := (HB.out.below HF.out).at_ (k := k) (by simpa using hltb)
      simp only [List.getElem_map] at hca hcb
      have HS := Lib.hid (texts_step HT.out hlt hltb)
      have HNE : Hid (a[k] ≠ b[k] → decide (a = b) = false) := Lib.hid (fun h => decide_eq_false (fun e => h (by subst e; rfl)))
      have i1 : (k : Int) < (a.length : Int) := by omega
      have i0 : (0 : Int) ≤ (k : Int) := by omega
      have wk : IntKind.i64.wrap ((k : Int) + 1) = ((k + 1 : Nat) : Int) := by
        rw [IntKind.wrap_i64]
        have := HN.out
        omega
      have HLT := Lib.hid hlt
      generalize a[k] = x at *
      generalize b[k] = y at *
      by_cases hxy : x = y
      · have e2 : (x.toList == y.toList) = true := by simp [hxy]
        have HS2 := Lib.hid (HS.out hxy)
        clear HS HNE HA HB hxy
        go_wp2
        go_quiet (fail)
        have HF2 := Lib.hid (below_drewN HF.out nq)
        generalize wr.drewN nq = w6 at *
        go_wp2
        go_roundw
        case rel => exact ⟨k + 1, HLT.out, by go_num, HS2, HF2⟩
        case measure => have := HLT.out; simp [intOf]; omega
      · have e2 : (x.toList == y.toList) = false := by
          rw [beq_eq_false_iff_ne]
          intro h
          apply hxy
          rw [ByteArray.toList_eq, ByteArray.toList_eq] at h
          cases x; cases y
          congr 1
          exact Array.toList_inj.1 h
        have HD := Lib.hid (HNE.out hxy)
        clear HS HNE HA HB hxy
        go_wp2
        go_quiet (fail)
        have HF2 := Lib.hid (below_drewN HF.out nq)
        generalize wr.drewN nq = w6 at *
        go_wp2
        go_ret
        exact ⟨ret_val (congrArg Value.bool HD.out.symm), HF2.out⟩
    · go_wp2
      go_ret
      have h1 := HT.out
      rw [List.take_of_length_le (by omega), List.take_of_length_le (by have := HLE.out; omega)] at h1
      exact ⟨ret_val (congrArg Value.bool (decide_eq_true h1).symm), HF.out⟩

/-! ### Replies -/
abbrev repV (c n k : Int) (A : Option Addr) (m z : Nat) : Array Value := #[.int .i64 c, .int .i64 n, .int .i64 k, .slice A m z]
def same9B (c n k : Int) (vs : List ByteArray) (c' n' k' : Int) (vs' : List ByteArray) : Bool := decide (c = c') && (decide (n = n') && (decide (k = k') && decide (vs = vs')))

set_option maxRecDepth 100000 in
set_option maxHeartbeats 1000000 in
theorem rsame_any9 (c n k : Int) (A : Option Addr) (vs : List ByteArray) (z : Nat) (c' n' k' : Int) (A' : Option Addr) (vs' : List ByteArray) (z' : Nat) (hl : vs.length ≤ maxLen) (hl' : vs'.length ≤ maxLen) (w : World) (hA : Sees w w.heap.size A (vs.map Value.string)) (hB : Sees w w.heap.size A' (vs'.map Value.string)) :
    Calls Tryz.prog 13 #[.agg (repV c n k A vs.length z), .agg (repV c' n' k' A' vs'.length z')] w fun e w' => e = .returned (.bool (same9B c n k vs c' n' k' vs')) ∧ Below w.heap.size w w' := by
  obtain ⟨w2, hw2⟩ : ∃ w2, w2 = (w.alloc (.cells (repV c n k A vs.length z) 36)).alloc (.cells (repV c' n' k' A' vs'.length z') 36) := ⟨_, rfl⟩
  have HX : Hid (Box w2 w.heap.size 36 (repV c n k A vs.length z)) := by rw [hw2]; exact (Box.made w _ _).alloc _
  have HY : Hid (Box w2 (w.heap.size + 1) 36 (repV c' n' k' A' vs'.length z')) := by rw [hw2]; exact Box.made_at (by simp) _ _
  have HF : Hid (Below w.heap.size w w2) := by rw [hw2]; exact ((Below.refl _ _).alloc (Nat.le_refl _) _).alloc (by simp) _
  have HE := Lib.hid (texts_any9 vs vs' A A' z z' hl hl' w2 ((hA.below HF.out).more HF.out.size) ((hB.below HF.out).more HF.out.size))
  have x0 := HX.out.cell 0
  have x1 := HX.out.cell 1
  have x2 := HX.out.cell 2
  have x3 := HX.out.cell 3
  have y0 := HY.out.cell 0
  have y1 := HY.out.cell 1
  have y2 := HY.out.cell 2
  have y3 := HY.out.cell 3
  simp only [List.getElem?_toArray, List.getElem?_cons_zero, List.getElem?_cons_succ] at x0 x1 x2 x3 y0 y1 y2 y3
  have HR : Hid (same9B c n k vs c' n' k' vs' = (decide (c = c') && (decide (n = n') && (decide (k = k') && decide (vs = vs'))))) := Lib.hid rfl
  generalize same9B c n k vs c' n' k' vs' = r at *
  generalize decide (vs = vs') = q at *
  clear hA hB hl hl'
  have ENTER : True := trivial
  by_cases h0 : c = c'
  rotate_left
  · have HQ : Hid (r = false) := Lib.hid (by rw [HR.out, decide_eq_false h0]; simp)
    have e0 : (c == c') = false := by rw [beq_eq_false_iff_ne]; exact h0
    clear HR HE h0 ENTER
    go_enter Tryz.func13, Tryz.ntmps13
    go_upto_region 1 with fail
    change Code.wp _ _ _ _ ((w.alloc (.cells (repV c n k A vs.length z) 36)).alloc (.cells (repV c' n' k' A' vs'.length z') 36))
    rw [← hw2]
    clear hw2
    go_wp2
    go_ret
    exact ⟨ret_val (congrArg Value.bool HQ.out.symm), HF.out⟩
  have e0 : (c == c') = true := by rw [beq_iff_eq]; exact h0
  have K0 := Lib.hid h0
  clear h0
  by_cases h1 : n = n'
  rotate_left
  · have HQ : Hid (r = false) := Lib.hid (by rw [HR.out, decide_eq_false h1]; simp)
    have e1 : (n == n') = false := by rw [beq_eq_false_iff_ne]; exact h1
    clear HR HE h1 ENTER
    go_enter Tryz.func13, Tryz.ntmps13
    go_upto_region 1 with fail
    change Code.wp _ _ _ _ ((w.alloc (.cells (repV c n k A vs.length z) 36)).alloc (.cells (repV c' n' k' A' vs'.length z') 36))
    rw [← hw2]
    clear hw2
    go_wp2
    go_ret
    exact ⟨ret_val (congrArg Value.bool HQ.out.symm), HF.out⟩
  have e1 : (n == n') = true := by rw [beq_iff_eq]; exact h1
  have K1 := Lib.hid h1
  clear h1
  by_cases h2 : k = k'
  rotate_left
  · have HQ : Hid (r = false) := Lib.hid (by rw [HR.out, decide_eq_false h2]; simp)
    have e2 : (k == k') = false := by rw [beq_eq_false_iff_ne]; exact h2
    clear HR HE h2 ENTER
    go_enter Tryz.func13, Tryz.ntmps13
    go_upto_region 1 with fail
    change Code.wp _ _ _ _ ((w.alloc (.cells (repV c n k A vs.length z) 36)).alloc (.cells (repV c' n' k' A' vs'.length z') 36))
    rw [← hw2]
    clear hw2
    go_wp2
    go_ret
    exact ⟨ret_val (congrArg Value.bool HQ.out.symm), HF.out⟩
  have e2 : (k == k') = true := by rw [beq_iff_eq]; exact h2
  have K2 := Lib.hid h2
  clear h2
  have HQ : Hid (r = q) := Lib.hid (by rw [HR.out, decide_eq_true K0.out, decide_eq_true K1.out, decide_eq_true K2.out]; rfl)
  clear HR ENTER
  go_enter Tryz.func13, Tryz.ntmps13
  go_upto_region 1 with fail
  change Code.wp _ _ _ _ ((w.alloc (.cells (repV c n k A vs.length z) 36)).alloc (.cells (repV c' n' k' A' vs'.length z') 36))
  rw [← hw2]
  clear hw2
  go_wp2_with (go_at_call 25; (with_reducible refine (HE.out).mono ?_); rintro e w3 ⟨rfl, hB⟩; have HB := Lib.hid hB; clear hB)
  go_ret
  exact ⟨ret_val (congrArg Value.bool HQ.out.symm), HF.out.trans (HB.out.mono HF.out.size)⟩

def totT (vs : List ByteArray) : Nat := (vs.map ByteArray.size).sum
set_option maxRecDepth 100000 in
theorem tot_take (vs : List ByteArray) (k : Nat) (h : k < vs.length) : totT (vs.take (k + 1)) = totT (vs.take k) + (vs[k]).size := by
  unfold totT
  rw [take_snoc' vs k h, List.map_append, List.sum_append]
  simp
set_option maxRecDepth 100000 in
theorem tot_le (vs : List ByteArray) (k : Nat) : totT (vs.take k) ≤ totT vs := by
  unfold totT
  conv => rhs; rw [← List.take_append_drop k vs, List.map_append, List.sum_append]
  omega
set_option maxRecDepth 100000 in
theorem tot_mem : ∀ {vs : List ByteArray} {s : ByteArray}, s ∈ vs → s.size ≤ totT vs
  | [], _, h => by cases h
  | x :: r, s, h => by
    have e : totT (x :: r) = x.size + totT r := rfl
    rcases List.mem_cons.1 h with rfl | h
    · omega
    · have := tot_mem h
      omega
set_option maxRecDepth 100000 in
theorem tot_flat (vs : List ByteArray) : (vs.flatMap textBytes).length = 4 * vs.length + totT vs := by
  induction vs with
  | nil => rfl
  | cons s r ih =>
    unfold totT at *
    rw [List.flatMap_cons, List.length_append, ih, textBytes_len, List.map_cons, List.sum_cons, List.length_cons]
    omega
def largeB (vs : List ByteArray) : Bool := decide (400 < vs.length) || decide (16384 < totT vs)

end Go.Proofs.YtbgbidgggjkmmaaGreatDoor
