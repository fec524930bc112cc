/-
  Requests and replies written: request.Write, request.WriteReply.
  Texts and numbers as the document writes them (wapentakeref01.Text, wapentakeref09.nums); lists of texts compared (slices.Equal, wapentakeref09.Texts); how much texts are (wapentakelaw09.large).
  Replies written: request.WriteReply, wapentakeref09.ReplyBytes.
  Requests read: request.readWhose, request.readChange, request.Read.
-/
import Derived.Test.YtlogceoeodjeoaaDoorRA
import Derived.Test.YtlogceoeodjeoaaDoorWr
import Derived.Test.YtlogceoeodjeoaaDoorOC
import Derived.Test.YtlogceoeodjeoaaDoorOB
import Derived.Test.YtlogceoeodjeoaaDoorTG
import Derived.Test.YtlogceoeodjeoaaDoorRd
namespace Go.Proofs.YtlogceoeodjeoaaDoor
open Go.RowKit

/-! ### What is written lies in a block of its own, just laid -/
set_option maxRecDepth 100000 in
theorem wnum_made {base a : Nat} {bs : List UInt8} (ns : List Int) {W : World} (h : Wr W base a bs) (hl : bs.length + 8 * ns.length ≤ 70368744177664) :
    Calls Tryd.prog 33 #[.pointer (some ⟨a, 0, none⟩), .slice (some ⟨W.heap.size, 0, none⟩) ns.length ns.length] (W.alloc (.cells (ns.map (Value.int .i64)).toArray 3)) fun e w' => e = .returned (.tuple #[]) ∧ Wr w' base a (bs ++ ns.flatMap numBytes) ∧ WF a W w' := by
  have hF : Below W.heap.size W (W.alloc (.cells (ns.map (Value.int .i64)).toArray 3)) := (Below.refl _ _).alloc (Nat.le_refl _) _
  have hb : Box (W.alloc (.cells (ns.map (Value.int .i64)).toArray 3)) W.heap.size 3 (ns.map (Value.int .i64)).toArray := Box.made _ _ _
  have h1 := h.below_size hF
  have hs := Src.of_box h1 hb (by decide) (by decide)
  exact (wnum_any base a _ ns ns.length bs _ h1 hs hl).mono fun e w' ⟨he, hw, hf⟩ => ⟨he, hw, (WF.of_below hF h.lt).trans hf⟩
set_option maxRecDepth 100000 in
theorem wtext_made {base a : Nat} {bs : List UInt8} (ss : List ByteArray) {W : World} (h : Wr W base a bs) (hl : bs.length + (ss.flatMap textBytes).length ≤ 70368744177664) (hn : ss.length ≤ 70368744177664) :
    Calls Tryd.prog 34 #[.pointer (some ⟨a, 0, none⟩), .slice (some ⟨W.heap.size, 0, none⟩) ss.length ss.length] (W.alloc (.cells (ss.map Value.string).toArray 9)) fun e w' => e = .returned (.tuple #[]) ∧ Wr w' base a (bs ++ ss.flatMap textBytes) ∧ WF a W w' := by
  have hF : Below W.heap.size W (W.alloc (.cells (ss.map Value.string).toArray 9)) := (Below.refl _ _).alloc (Nat.le_refl _) _
  have hb : Box (W.alloc (.cells (ss.map Value.string).toArray 9)) W.heap.size 9 (ss.map Value.string).toArray := Box.made _ _ _
  have h1 := h.below_size hF
  have hs := Src.of_box h1 hb (by decide) (by decide)
  exact (wtext_any base a _ ss ss.length bs _ h1 hs hl hn).mono fun e w' ⟨he, hw, hf⟩ => ⟨he, hw, (WF.of_below hF h.lt).trans hf⟩
set_option maxRecDepth 100000 in
theorem wdig_made {base a : Nat} {bs : List UInt8} {d : List UInt8} (hd : d.length = 32) {W : World} (h : Wr W base a bs) (hl : bs.length + 32 ≤ 70368744177664) :
    Calls Tryd.prog 37 #[.pointer (some ⟨a, 0, none⟩), .slice (some ⟨W.heap.size, 0, none⟩) 1 1] (W.alloc (.cells (d.map bv).toArray 23)) fun e w' => e = .returned (.tuple #[]) ∧ Wr w' base a (bs ++ d) ∧ WF a W w' := by
  have hF : Below W.heap.size W (W.alloc (.cells (d.map bv).toArray 23)) := (Below.refl _ _).alloc (Nat.le_refl _) _
  have hb : Box (W.alloc (.cells (d.map bv).toArray 23)) W.heap.size 23 (d.map bv).toArray := Box.made _ _ _
  have h1 := h.below_size hF
  have e : ([d] : List (List UInt8)).flatMap id = d := by simp
  have hs : Src (W.alloc (.cells (d.map bv).toArray 23)) a (some ⟨W.heap.size, 0, none⟩) ((([d] : List (List UInt8)).flatMap id).map bv) := by
    rw [e]
    exact Src.of_box h1 hb (by decide) (by decide)
  have hc := wdigest_any base a _ [d] (fun x hx => by obtain rfl := List.mem_singleton.1 hx; exact hd) 1 bs _ h1 hs hl
  rw [e] at hc
  exact hc.mono fun e w' ⟨he, hw, hf⟩ => ⟨he, hw, (WF.of_below hF h.lt).trans hf⟩

set_option maxRecDepth 100000 in
theorem reqB_split (x : ReqX) : reqB x = ((([x.client, x.num, x.kind].flatMap numBytes ++ [x.key, x.val, x.old].flatMap textBytes) ++ [x.ck, x.cid, x.cn, x.high].flatMap numBytes) ++ x.root) := by
  unfold reqB
  simp only [List.flatMap_cons, List.flatMap_nil, List.append_nil, List.append_assoc]

attribute [local go_sem ↓] ldDigest_def stDigest_def bsAll_def

end Go.Proofs.YtlogceoeodjeoaaDoor

namespace Go.Proofs.YtlogceoeodjeoaaDoor
open Go.RowKit

set_option maxRecDepth 100000 in
theorem num_tail9 (s : ByteArray) (hs : s.size ≤ 140737488351232) : (numBytes (s.size : Int)).drop 4 = beBytes 4 s.size := by
  unfold numBytes
  have e : ((s.size : Int) % 18446744073709551616).toNat = s.size := by omega
  rw [e]
  rfl
set_option maxRecDepth 100000 in
theorem text_join9 (s : ByteArray) (hs : s.size ≤ 140737488351232) : (ByteArray.mk (numBytes (s.size : Int)).toArray).extract 4 8 ++ s = ByteArray.mk (textBytes s).toArray := by
  rw [ByteArray.extract_mk, num_tail9 s hs, List.take_of_length_le (by rw [beBytes_length]; decide)]
  obtain ⟨⟨l⟩⟩ := s
  rw [ByteArray.mk_append_mk]
  rfl
set_option maxRecDepth 100000 in
theorem mk_size (l : List UInt8) : (ByteArray.mk l.toArray).size = l.length := by show l.toArray.size = _; rw [List.size_toArray]

/-! ### Lists of texts compared -/
set_option maxRecDepth 100000 in
theorem texts_step {a b : List ByteArray} {k : Nat} (h : a.take k = b.take k) (ha : k < a.length) (hb : k < b.length) (e : a[k] = b[k]) : a.take (k + 1) = b.take (k + 1) := by
  rw [take_snoc' a k ha, take_snoc' b k hb, h, e]

set_option maxRecDepth 100000 in
set_option maxHeartbeats 1000000 in
theorem texts_any9 (a b : List ByteArray) (A B : Option Addr) (c c' : Nat) (ha : a.length ≤ maxLen) (_hb : b.length ≤ maxLen) (w : World) (hA : Sees w w.heap.size A (a.map Value.string)) (hB : Sees w w.heap.size B (b.map Value.string)) :
    Calls Tryd.prog 64 #[.slice A a.length c, .slice B b.length c'] w fun e w' => e = .returned (.bool (decide (a = b))) ∧ Below w.heap.size w w' := by
  have HA := Lib.hid hA
  have HB := Lib.hid hB
  have HN : Hid (a.length ≤ 9223372036854775807) := Lib.hid (Nat.le_trans ha (by simp [maxLen]))
  clear hA hB ha
  by_cases hl : a.length = b.length
  rotate_left
  · have HD : Hid (decide (a = b) = false) := Lib.hid (decide_eq_false (fun h => hl (by rw [h])))
    have e1 : ((a.length : Int) == (b.length : Int)) = false := by rw [beq_eq_false_iff_ne]; omega
    have e2 : ((a.length : Int) != (b.length : Int)) = true := by rw [bne_iff_ne]; omega
    clear HA HB hl
    generalize decide (a = b) = r at *
    generalize a.length = n at *
    generalize b.length = m at *
    go_enter Tryd.func64, Tryd.ntmps64
    go_wp2
    go_ret
    exact ⟨ret_val (congrArg Value.bool HD.out.symm), Below.refl _ _⟩
  have HLE := Lib.hid hl
  rw [← hl]
  clear hl
  go_enter Tryd.func64, Tryd.ntmps64
  go_wp2
  go_loopw [5, 13] (fun _ i wr => ∃ k : Nat, k ≤ a.length ∧ i = .int .i64 (k : Int) ∧ Hid (a.take k = b.take k) ∧ Hid (Below w.heap.size w wr)) (fun _ i _ => a.length - (intOf i).toNat)
  case atStart => exact ⟨0, Nat.zero_le _, rfl, Lib.hid rfl, Lib.hid (Below.refl _ _)⟩
  case round =>
    obtain ⟨k, hk, rfl, HT, HF⟩ := hrel
    by_cases hlt : k < a.length
    · have hltb : k < b.length := by have := HLE.out; omega
      obtain ⟨g, o, rfl, _, hca⟩ := (HA.out.below HF.out).at_ (k := k) (by simpa using hlt)
      obtain ⟨g', o', rfl, _, hcb⟩ := (HB.out.below HF.out).at_ (k := k) (by simpa using hltb)
      simp only [List.getElem_map] at hca hcb
      have HS := Lib.hid (texts_step HT.out hlt hltb)
      have HNE : Hid (a[k] ≠ b[k] → decide (a = b) = false) := Lib.hid (fun h => decide_eq_false (fun e => h (by subst e; rfl)))
      have i1 : (k : Int) < (a.length : Int) := by omega
      have i0 : (0 : Int) ≤ (k : Int) := by omega
      have wk : IntKind.i64.wrap ((k : Int) + 1) = ((k + 1 : Nat) : Int) := by
        rw [IntKind.wrap_i64]
        have := HN.out
        omega
      have HLT := Lib.hid hlt
      generalize a[k] = x at *
      generalize b[k] = y at *
      by_cases hxy : x = y
      · have e2 : (x.toList == y.toList) = true := by simp [hxy]
        have HS2 := Lib.hid (HS.out hxy)
        clear HS HNE HA HB hxy
        go_wp2
        go_quiet (fail)
        have HF2 := Lib.hid (below_drewN HF.out nq)
        generalize wr.drewN nq = w6 at *
        go_wp2
        go_roundw
        case rel => exact ⟨k + 1, HLT.out, by go_num, HS2, HF2⟩
        case measure => have := HLT.out; simp [intOf]; omega
      · have e2 : (x.toList == y.toList) = false := by
          rw [beq_eq_false_iff_ne]
          intro h
          apply hxy
          rw [ByteArray.toList_eq, ByteArray.toList_eq] at h
          cases x; cases y
          congr 1
          exact Array.toList_inj.1 h
        have HD := Lib.hid (HNE.out hxy)
        clear HS HNE HA HB hxy
        go_wp2
        go_quiet (fail)
        have HF2 := Lib.hid (below_drewN HF.out nq)
        generalize wr.drewN nq = w6 at *
        go_wp2
        go_ret
        exact ⟨ret_val (congrArg Value.bool HD.out.symm), HF2.out⟩
    · go_wp2
      go_ret
      have h1 := HT.out
      rw [List.take_of_length_le (by omega), List.take_of_length_le (by have := HLE.out; omega)] at h1
      exact ⟨ret_val (congrArg Value.bool (decide_eq_true h1).symm), HF.out⟩

/-! ### Replies -/
abbrev repV (c n k : Int) (A : Option Addr) (m z : Nat) : Array Value := #[.int .i64 c, .int .i64 n, .int .i64 k, .slice A m z]
def same9B (c n k : Int) (vs : List ByteArray) (c' n' k' : Int) (vs' : List ByteArray) : Bool := decide (c = c') && (decide (n = n') && (decide (k = k') && decide (vs = vs')))

set_option maxRecDepth 100000 in
set_option maxHeartbeats 1000000 in
theorem rsame_any9 (c n k : Int) (A : Option Addr) (vs : List ByteArray) (z : Nat) (c' n' k' : Int) (A' : Option Addr) (vs' : List ByteArray) (z' : Nat) (hl : vs.length ≤ maxLen) (hl' : vs'.length ≤ maxLen) (w : World) (hA : Sees w w.heap.size A (vs.map Value.string)) (hB : Sees w w.heap.size A' (vs'.map Value.string)) :
    Calls Tryd.prog 27 #[.agg (repV c n k A vs.length z), .agg (repV c' n' k' A' vs'.length z')] w fun e w' => e = .returned (.bool (same9B c n k vs c' n' k' vs')) ∧ Below w.heap.size w w' := by
  obtain ⟨w2, hw2⟩ : ∃ w2, w2 = (w.alloc (.cells (repV c n k A vs.length z) 67)).alloc (.cells (repV c' n' k' A' vs'.length z') 67) := ⟨_, rfl⟩
  have HX : Hid (Box w2 w.heap.size 67 (repV c n k A vs.length z)) := by rw [hw2]; exact (Box.made w _ _).alloc _
  have HY : Hid (Box w2 (w.heap.size + 1) 67 (repV c' n' k' A' vs'.length z')) := by rw [hw2]; exact Box.made_at (by simp) _ _
  have HF : Hid (Below w.heap.size w w2) := by rw [hw2]; exact ((Below.refl _ _).alloc (Nat.le_refl _) _).alloc (by simp) _
  have HE := Lib.hid (texts_any9 vs vs' A A' z z' hl hl' w2 ((hA.below HF.out).more HF.out.size) ((hB.below HF.out).more HF.out.size))
  have x0 := HX.out.cell 0
  have x1 := HX.out.cell 1
  have x2 := HX.out.cell 2
  have x3 := HX.out.cell 3
  have y0 := HY.out.cell 0
  have y1 := HY.out.cell 1
  have y2 := HY.out.cell 2
  have y3 := HY.out.cell 3
  simp only [List.getElem?_toArray, List.getElem?_cons_zero, List.getElem?_cons_succ] at x0 x1 x2 x3 y0 y1 y2 y3
  have HR : Hid (same9B c n k vs c' n' k' vs' = (decide (c = c') && (decide (n = n') && (decide (k = k') && decide (vs = vs'))))) := Lib.hid rfl
  generalize same9B c n k vs c' n' k' vs' = r at *
  generalize decide (vs = vs') = q at *
  clear hA hB hl hl'
  have ENTER : True := trivial
  by_cases h0 : c = c'
  rotate_left
  · have HQ : Hid (r = false) := Lib.hid (by rw [HR.out, decide_eq_false h0]; simp)
    have e0 : (c == c') = false := by rw [beq_eq_false_iff_ne]; exact h0
    clear HR HE h0 ENTER
    go_enter Tryd.func27, Tryd.ntmps27
    go_upto_region 1 with fail
    change Code.wp _ _ _ _ ((w.alloc (.cells (repV c n k A vs.length z) 67)).alloc (.cells (repV c' n' k' A' vs'.length z') 67))
    rw [← hw2]
    clear hw2
    go_wp2
    go_ret
    exact ⟨ret_val (congrArg Value.bool HQ.out.symm), HF.out⟩
  have e0 : (c == c') = true := by rw [beq_iff_eq]; exact h0
  have K0 := Lib.hid h0
  clear h0
  by_cases h1 : n = n'
  rotate_left
  · have HQ : Hid (r = false) := Lib.hid (by rw [HR.out, decide_eq_false h1]; simp)
    have e1 : (n == n') = false := by rw [beq_eq_false_iff_ne]; exact h1
    clear HR HE h1 ENTER
    go_enter Tryd.func27, Tryd.ntmps27
    go_upto_region 1 with fail
    change Code.wp _ _ _ _ ((w.alloc (.cells (repV c n k A vs.length z) 67)).alloc (.cells (repV c' n' k' A' vs'.length z') 67))
    rw [← hw2]
    clear hw2
    go_wp2
    go_ret
    exact ⟨ret_val (congrArg Value.bool HQ.out.symm), HF.out⟩
  have e1 : (n == n') = true := by rw [beq_iff_eq]; exact h1
  have K1 := Lib.hid h1
  clear h1
  by_cases h2 : k = k'
  rotate_left
  · have HQ : Hid (r = false) := Lib.hid (by rw [HR.out, decide_eq_false h2]; simp)
    have e2 : (k == k') = false := by rw [beq_eq_false_iff_ne]; exact h2
    clear HR HE h2 ENTER
    go_enter Tryd.func27, Tryd.ntmps27
    go_upto_region 1 with fail
    change Code.wp _ _ _ _ ((w.alloc (.cells (repV c n k A vs.length z) 67)).alloc (.cells (repV c' n' k' A' vs'.length z') 67))
    rw [← hw2]
    clear hw2
    go_wp2
    go_ret
    exact ⟨ret_val (congrArg Value.bool HQ.out.symm), HF.out⟩
  have e2 : (k == k') = true := by rw [beq_iff_eq]; exact h2
  have K2 := Lib.hid h2
  clear h2
  have HQ : Hid (r = q) := Lib.hid (by rw [HR.out, decide_eq_true K0.out, decide_eq_true K1.out, decide_eq_true K2.out]; rfl)
  clear HR ENTER
  go_enter Tryd.func27, Tryd.ntmps27
  go_upto_region 1 with fail
  change Code.wp _ _ _ _ ((w.alloc (.cells (repV c n k A vs.length z) 67)).alloc (.cells (repV c' n' k' A' vs'.length z') 67))
  rw [← hw2]
  clear hw2
  go_wp2_with (go_at_call 64; (with_reducible refine (HE.out).mono ?_); rintro e w3 ⟨rfl, hB⟩; have HB := Lib.hid hB; clear hB)
  go_ret
  exact ⟨ret_val (congrArg Value.bool HQ.out.symm), HF.out.trans (HB.out.mono HF.out.size)⟩

def totT (vs : List ByteArray) : Nat := (vs.map ByteArray.size).sum
set_option maxRecDepth 100000 in
theorem tot_take (vs : List ByteArray) (k : Nat) (h : k < vs.length) : totT (vs.take (k + 1)) = totT (vs.take k) + (vs[k]).size := by
  unfold totT
  rw [take_snoc' vs k h, List.map_append, List.sum_append]
  simp
set_option maxRecDepth 100000 in
theorem tot_le (vs : List ByteArray) (k : Nat) : totT (vs.take k) ≤ totT vs := by
  unfold totT
  conv => rhs; rw [← List.take_append_drop k vs, List.map_append, List.sum_append]
  omega
set_option maxRecDepth 100000 in
theorem tot_mem : ∀ {vs : List ByteArray} {s : ByteArray}, s ∈ vs → s.size ≤ totT vs
  | [], _, h => by cases h
  | x :: r, s, h => by
    have e : totT (x :: r) = x.size + totT r := rfl
    rcases List.mem_cons.1 h with rfl | h
    · omega
    · have := tot_mem h
      omega
set_option maxRecDepth 100000 in
theorem tot_flat (vs : List ByteArray) : (vs.flatMap textBytes).length = 4 * vs.length + totT vs := by
  induction vs with
  | nil => rfl
  | cons s r ih =>
    unfold totT at *
    rw [List.flatMap_cons, List.length_append, ih, textBytes_len, List.map_cons, List.sum_cons, List.length_cons]
    omega
def largeB (vs : List ByteArray) : Bool := decide (400 < vs.length) || decide (16384 < totT vs)

end Go.Proofs.YtlogceoeodjeoaaDoor

namespace Go.Proofs.YtlogceoeodjeoaaDoor
open Go.RowKit

set_option maxRecDepth 100000 in
theorem repB_len (c n k : Int) (vs : List ByteArray) : (repB c n k vs).length = 32 + 4 * vs.length + totT vs := by
  unfold repB
  simp only [List.length_append, numBytes_len, tot_flat]
  omega
set_option maxRecDepth 100000 in
theorem repB_split (c n k : Int) (vs : List ByteArray) : repB c n k vs = [c, n, k, (vs.length : Int)].flatMap numBytes ++ vs.flatMap textBytes := by
  unfold repB
  simp only [List.flatMap_cons, List.flatMap_nil, List.append_nil, List.append_assoc]

set_option maxRecDepth 100000 in
set_option maxHeartbeats 2000000 in
theorem wreply_any (base a : Nat) (bs : List UInt8) (c n k : Int) (A : Option Addr) (vs : List ByteArray) (z : Nat) (w : World) (h : Wr w base a bs) (hbs : bs.length ≤ 1099511627776) (hl : vs.length ≤ 1073741824) (ht : totT vs ≤ 1099511627776) (hA : Sees w base A (vs.map Value.string)) :
    Calls Tryd.prog 35 #[.pointer (some ⟨a, 0, none⟩), .agg (repV c n k A vs.length z)] w fun e w' => e = .returned (.tuple #[]) ∧ Wr w' base a (bs ++ repB c n k vs) ∧ WF a w w' := by
  have hF1 : Below w.heap.size w (w.alloc (.cells (repV c n k A vs.length z) 67)) := (Below.refl _ _).alloc (Nat.le_refl _) _
  have HB1 : Hid (Box (w.alloc (.cells (repV c n k A vs.length z) 67)) w.heap.size 67 (repV c n k A vs.length z)) := Box.made _ _ _
  have HW1 := Lib.hid (h.below_size hF1)
  have HA1 := Lib.hid (WF.of_below hF1 h.lt)
  have HSA := Lib.hid (hA.below (hF1.mono h.2.1))
  have HS := Lib.hid (repB_split c n k vs)
  have HTL := Lib.hid (tot_flat vs)
  have HL : Hid (bs.length ≤ 1099511627776 ∧ vs.length ≤ 1073741824 ∧ totT vs ≤ 1099511627776) := ⟨hbs, hl, ht⟩
  have x0 := HB1.out.cell 0
  have x1 := HB1.out.cell 1
  have x2 := HB1.out.cell 2
  have x3 := HB1.out.cell 3
  simp only [List.getElem?_toArray, List.getElem?_cons_zero, List.getElem?_cons_succ] at x0 x1 x2 x3
  clear hF1 h hbs hl ht hA
  go_enter Tryd.func35, Tryd.ntmps35
  go_upto_region 1 with fail
  change Code.wp _ _ _ _ (w.alloc (.cells (repV c n k A vs.length z) 67))
  generalize w.alloc (.cells (repV c n k A vs.length z) 67) = w1 at *
  have HN : Hid (Calls Tryd.prog 33 #[.pointer (some ⟨a, 0, none⟩), .slice (some ⟨w1.heap.size, 0, none⟩) 4 4] (w1.alloc (.cells #[.int .i64 c, .int .i64 n, .int .i64 k, .int .i64 (vs.length : Int)] 3)) fun e w' => e = .returned (.tuple #[]) ∧ Wr w' base a (bs ++ [c, n, k, (vs.length : Int)].flatMap numBytes) ∧ WF a w1 w') :=
    wnum_made [c, n, k, (vs.length : Int)] HW1.out (by have := HL.out; simp only [List.length_cons, List.length_nil]; omega)
  have HB1l : Hid ((bs ++ [c, n, k, (vs.length : Int)].flatMap numBytes).length = bs.length + 32) := Lib.hid (by rw [List.length_append, nums_len]; rfl)
  generalize hb1 : bs ++ [c, n, k, (vs.length : Int)].flatMap numBytes = b1 at *
  have HE1 := Lib.hid hb1
  clear hb1
  go_upto_region 2 with (go_at_call 33; (with_reducible refine (HN.out).mono ?_); rintro e w3 ⟨rfl, hw, hf⟩; have HB3 := Lib.hid (hf.box HW1.out HB1.out (by decide) (by decide)); have HSA3 := Lib.hid (HSA.out.below (hf.below HW1.out)); have HW3 := Lib.hid hw; have HA3 := Lib.hid (HA1.out.trans hf); clear hw hf)
  clear x0 x1 x2 x3 HN HB1 HW1 HA1 HSA
  have x3 := HB3.out.cell 3
  simp only [List.getElem?_toArray, List.getElem?_cons_zero, List.getElem?_cons_succ] at x3
  have HN := Lib.hid (wtext_any base a A vs z b1 w3 HW3.out (Src.of_sees HW3.out HSA3.out) (by have := HL.out; have := HB1l.out; have := HTL.out; omega) (by have := HL.out; omega))
  have HEB : Hid (bs ++ repB c n k vs = b1 ++ vs.flatMap textBytes) := Lib.hid (by rw [HS.out, ← HE1.out, List.append_assoc])
  clear HS HE1
  go_wp2_with (go_at_call 34; (with_reducible refine (HN.out).mono ?_); rintro e w6 ⟨rfl, hw, hf⟩; have HW6 := Lib.hid hw; have HA6 := Lib.hid (HA3.out.trans hf); clear hw hf)
  go_end0
  refine ⟨rfl, ?_, HA6.out⟩
  rw [HEB.out]
  exact HW6.out

set_option maxRecDepth 100000 in
theorem flat_take_text (vs : List ByteArray) (j : Nat) (h : j < vs.length) : (vs.take (j + 1)).flatMap textBytes = (vs.take j).flatMap textBytes ++ textBytes vs[j] := by
  rw [take_snoc' vs j h, List.flatMap_append]
  simp

end Go.Proofs.YtlogceoeodjeoaaDoor

namespace Go.Proofs.YtlogceoeodjeoaaDoor
open Go.RowKit

/-! ### A block that is filled while a reader is turned -/
structure QW (R : World → Nat → List UInt8 → Bool → Prop) (T : TypeId) (Z : Array Value) (w0 : World) (a r b : Nat) (cs : Array Value) (s : List UInt8 × Bool) (w : World) : Prop where
  out : Box w r T Z
  box : Box w b T cs
  rd : R w a s.1 s.2
  far : w0.grownBy w (some a)
  ha : a < w0.heap.size
  hr : w0.heap.size ≤ r
  hb : w0.heap.size ≤ b
  ne : r ≠ b
set_option maxRecDepth 100000 in
theorem QW.turn {R : World → Nat → List UInt8 → Bool → Prop} {T : TypeId} {Z : Array Value} {w0 w w' : World} {a r b : Nat} {cs : Array Value} {s s' : List UInt8 × Bool} (h : QW R T Z w0 a r b cs s w) (hg : w.grownBy w' (some a)) (hr : R w' a s'.1 s'.2) : QW R T Z w0 a r b cs s' w' :=
  ⟨h.out.grown hg (by have := h.ha; have := h.hr; intro e; cases e; omega), h.box.grown hg (by have := h.ha; have := h.hb; intro e; cases e; omega), hr, only_trans h.far hg, h.ha, h.hr, h.hb, h.ne⟩
set_option maxRecDepth 100000 in
theorem QW.put {R : World → Nat → List UInt8 → Bool → Prop} {T : TypeId} {Z : Array Value} {w0 w w' : World} {a r b : Nat} {cs cs' : Array Value} {s : List UInt8 × Bool} (h : QW R T Z w0 a r b cs s w)
    (hR : ∀ {w w' : World} {a g : Nat} {l : List UInt8} {b : Bool}, R w a l b → w.grownBy w' (some g) → a < g → R w' a l b) (hb : Box w' b T cs') (hg : w.grownBy w' (some b)) : QW R T Z w0 a r b cs' s w' :=
  ⟨h.out.grown hg (by intro e; cases e; exact h.ne rfl), hb, hR h.rd hg (by have := h.ha; have := h.hb; omega), only_new h.far hg h.hb, h.ha, h.hr, h.hb, h.ne⟩
set_option maxRecDepth 100000 in
theorem rd_put {w w' : World} {a g : Nat} {l : List UInt8} {b : Bool} (h : Rd w a l b) (hg : w.grownBy w' (some g)) (hl : a < g) : Rd w' a l b := h.only hg hl

set_option maxRecDepth 100000 in
theorem rc1_eq (l : List UInt8) (b : Bool) : nuV (rc0 l b).2.1 (rc0 l b).2.2 = rc1 l b := rfl
set_option maxRecDepth 100000 in
theorem rc2_eq (l : List UInt8) (b : Bool) : nuV (rc1 l b).2.1 (rc1 l b).2.2 = rc2 l b := rfl
set_option maxRecDepth 100000 in
theorem rc3_eq (l : List UInt8) (b : Bool) : nuV (rc2 l b).2.1 (rc2 l b).2.2 = rc3 l b := rfl
set_option maxRecDepth 100000 in
theorem rc4_eq (l : List UInt8) (b : Bool) : dgV (rc3 l b).2.1 (rc3 l b).2.2 = rc4 l b := rfl
set_option maxRecDepth 100000 in
theorem pair_eta {α β : Type} (p : α × β) : (p.1, p.2) = p := by cases p; rfl
set_option maxRecDepth 100000 in
theorem rqF_eq (l : List UInt8) (b : Bool) : rqF l b = (rc4 (rq5 l b).2.1 (rq5 l b).2.2).2 := pair_eta _
set_option maxRecDepth 100000 in
theorem rq0_eq (l : List UInt8) (b : Bool) : inV 1 64 l b = rq0 l b := rfl
set_option maxRecDepth 100000 in
theorem rc0_eq (l : List UInt8) (b : Bool) : nuV l b = rc0 l b := rfl
set_option maxRecDepth 100000 in
theorem rq1_eq (l : List UInt8) (b : Bool) : inV 1 1099511627776 (rq0 l b).2.1 (rq0 l b).2.2 = rq1 l b := rfl
set_option maxRecDepth 100000 in
theorem rq2_eq (l : List UInt8) (b : Bool) : inV 1 7 (rq1 l b).2.1 (rq1 l b).2.2 = rq2 l b := rfl
set_option maxRecDepth 100000 in
theorem rq3_eq (l : List UInt8) (b : Bool) : txtV 1024 (rq2 l b).2.1 (rq2 l b).2.2 = rq3 l b := rfl
set_option maxRecDepth 100000 in
theorem rq4_eq (l : List UInt8) (b : Bool) : txtV 1024 (rq3 l b).2.1 (rq3 l b).2.2 = rq4 l b := rfl
set_option maxRecDepth 100000 in
theorem rq5_eq (l : List UInt8) (b : Bool) : txtV 1024 (rq4 l b).2.1 (rq4 l b).2.2 = rq5 l b := rfl
set_option maxRecDepth 100000 in
theorem rqX_good {l : List UInt8} {b : Bool} (h : (rqF l b).2 = false) (hl : (rc4 (rq5 l b).2.1 (rq5 l b).2.2).1.length = 32) : rqX l b = ⟨(rq0 l b).1, (rq1 l b).1, (rq2 l b).1, ⟨(rq3 l b).1.toArray⟩, ⟨(rq4 l b).1.toArray⟩, ⟨(rq5 l b).1.toArray⟩,
    (rc0 (rq5 l b).2.1 (rq5 l b).2.2).1, (rc1 (rq5 l b).2.1 (rq5 l b).2.2).1, (rc2 (rq5 l b).2.1 (rq5 l b).2.2).1, (rc4 (rq5 l b).2.1 (rq5 l b).2.2).1, (rc3 (rq5 l b).2.1 (rq5 l b).2.2).1, hl⟩ := by
  unfold rqX
  rw [if_neg (by rw [h]; simp)]
set_option maxRecDepth 100000 in
theorem rqX_bad {l : List UInt8} {b : Bool} (h : (rqF l b).2 = true) : rqX l b = zreq := by
  unfold rqX
  rw [if_pos h]

/-! ### readWhose -/
set_option maxRecDepth 100000 in
set_option maxHeartbeats 1000000 in
theorem whose_any (a : Nat) (l : List UInt8) (b : Bool) (w : World) (h : Rd w a l b) :
    Calls Tryd.prog 81 #[.pointer (some ⟨a, 0, none⟩)] w fun e w' => e = .returned (.tuple #[.int .i64 (rq0 l b).1, .int .i64 (rq1 l b).1]) ∧ Rd w' a (rq1 l b).2.1 (rq1 l b).2.2 ∧ w.grownBy w' (some a) := by
  have HC : Hid (Calls Tryd.prog 49 #[.pointer (some ⟨a, 0, none⟩), .int .i64 1, .int .i64 64] w fun e w' => e = .returned (.int .i64 (rq0 l b).1) ∧ Rd w' a (rq0 l b).2.1 (rq0 l b).2.2 ∧ w.grownBy w' (some a)) := in_any a 1 64 l b w h
  have e1 := rq1_eq l b
  generalize rq0 l b = r0 at *
  generalize rq1 l b = r1 at *
  have E1 := Lib.hid e1
  clear e1 h
  go_enter Tryd.func81, Tryd.ntmps81
  go_upto_region 2 with (go_at_call 49; (with_reducible refine (HC.out).mono ?_); rintro e w1 ⟨rfl, hr, hg⟩; have HR1 := Lib.hid hr; have HG1 := Lib.hid hg; clear hr hg)
  have hc := in_any a 1 1099511627776 r0.2.1 r0.2.2 w1 HR1.out
  rw [E1.out] at hc
  have HC2 := Lib.hid hc
  clear hc HC
  go_wp2_with (go_at_call 49; (with_reducible refine (HC2.out).mono ?_); rintro e w2 ⟨rfl, hr, hg⟩; have HR2 := Lib.hid hr; have HG2 := Lib.hid (only_trans HG1.out hg); clear hr hg)
  go_ret2
  exact ⟨rfl, HR2.out, HG2.out⟩

/-! ### readChange -/
attribute [local go_sem ↓] ldDigest_def stDigest_def

end Go.Proofs.YtlogceoeodjeoaaDoor
