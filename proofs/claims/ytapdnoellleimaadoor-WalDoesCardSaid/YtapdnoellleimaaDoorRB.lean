/-
  Requests and replies written: request.Write, request.WriteReply.
  Texts and numbers as the document writes them (wapentakeref01.Text, wapentakeref09.nums); lists of texts compared (slices.Equal, wapentakeref09.Texts); how much texts are (wapentakelaw09.large).
  Replies written: request.WriteReply, wapentakeref09.ReplyBytes.
  Requests read: request.readWhose, request.readChange, request.Read.
-/
import Derived.Test.YtapdnoellleimaaDoorRA
import Derived.Test.YtapdnoellleimaaDoorWr
import Derived.Test.YtapdnoellleimaaDoorOC
import Derived.Test.YtapdnoellleimaaDoorOB
import Derived.Test.YtapdnoellleimaaDoorTG
import Derived.Test.YtapdnoellleimaaDoorRd
namespace Go.Proofs.YtapdnoellleimaaDoor
open Go.RowKit

/-! ### What is written lies in a block of its own, just laid -/
set_option maxRecDepth 100000 in
theorem wtext_made {base a : Nat} {bs : List UInt8} (ss : List ByteArray) {W : World} (h : Wr W base a bs) (hl : bs.length + (ss.flatMap textBytes).length ≤ 70368744177664) (hn : ss.length ≤ 70368744177664) :
    Calls Tryd.prog 66 #[.pointer (some ⟨a, 0, none⟩), .slice (some ⟨W.heap.size, 0, none⟩) ss.length ss.length] (W.alloc (.cells (ss.map Value.string).toArray 9)) fun e w' => e = .returned (.tuple #[]) ∧ Wr w' base a (bs ++ ss.flatMap textBytes) ∧ WF a W w' := by
  have hF : Below W.heap.size W (W.alloc (.cells (ss.map Value.string).toArray 9)) := (Below.refl _ _).alloc (Nat.le_refl _) _
  have hb : Box (W.alloc (.cells (ss.map Value.string).toArray 9)) W.heap.size 9 (ss.map Value.string).toArray := Box.made _ _ _
  have h1 := h.below_size hF
  have hs := Src.of_box h1 hb (by decide) (by decide)
  exact (wtext_any base a _ ss ss.length bs _ h1 hs hl hn).mono fun e w' ⟨he, hw, hf⟩ => ⟨he, hw, (WF.of_below hF h.lt).trans hf⟩
set_option maxRecDepth 100000 in
theorem reqB_split (x : ReqX) : reqB x = ((([x.client, x.num, x.kind].flatMap numBytes ++ [x.key, x.val, x.old].flatMap textBytes) ++ [x.ck, x.cid, x.cn, x.high].flatMap numBytes) ++ x.root) := by
  unfold reqB
  simp only [List.flatMap_cons, List.flatMap_nil, List.append_nil, List.append_assoc]

attribute [local go_sem ↓] ldDigest_def stDigest_def

end Go.Proofs.YtapdnoellleimaaDoor

namespace Go.Proofs.YtapdnoellleimaaDoor
open Go.RowKit

set_option maxRecDepth 100000 in
theorem num_tail9 (s : ByteArray) (hs : s.size ≤ 140737488351232) : (numBytes (s.size : Int)).drop 4 = beBytes 4 s.size := by
  unfold numBytes
  have e : ((s.size : Int) % 18446744073709551616).toNat = s.size := by omega
  rw [e]
  rfl
set_option maxRecDepth 100000 in
theorem text_join9 (s : ByteArray) (hs : s.size ≤ 140737488351232) : (ByteArray.mk (numBytes (s.size : Int)).toArray).extract 4 8 ++ s = ByteArray.mk (textBytes s).toArray := by
  rw [ByteArray.extract_mk, num_tail9 s hs, List.take_of_length_le (by rw [beBytes_length]; decide)]
  obtain ⟨⟨l⟩⟩ := s
  rw [ByteArray.mk_append_mk]
  rfl
set_option maxRecDepth 100000 in
set_option maxHeartbeats 800000 in
theorem reftext_any9 (s : ByteArray) (hs : s.size ≤ 140737488351232) (w : World) :
    Calls Tryd.prog 49 #[.string s] w fun e w' => e = .returned (str (textBytes s)) ∧ Below w.heap.size w w' := by
  have HN := Lib.hid (refnum_any (s.size : Int) (by omega) (by omega) w)
  have hj := Lib.hid (text_join9 s hs)
  have hl := numBytes_len (s.size : Int)
  generalize numBytes (s.size : Int) = nb at *
  have HL := Lib.hid hl
  have hsz : (ByteArray.mk nb.toArray).size = 8 := by show nb.toArray.size = 8; rw [List.size_toArray, hl]
  clear hl
  go_enter Tryd.func49, Tryd.ntmps49
  go_wp2_with (go_at_call 60; (with_reducible refine (HN.out).mono ?_); rintro e w1 ⟨rfl, hB⟩; have HB := Lib.hid hB; clear hB)
  go_ret
  exact ⟨ret_val (by show Value.string _ = _; rw [hj.out]), HB.out⟩

set_option maxRecDepth 100000 in
theorem mk_size (l : List UInt8) : (ByteArray.mk l.toArray).size = l.length := by show l.toArray.size = _; rw [List.size_toArray]

/-! ### Lists of texts compared -/
set_option maxRecDepth 100000 in
theorem texts_step {a b : List ByteArray} {k : Nat} (h : a.take k = b.take k) (ha : k < a.length) (hb : k < b.length) (e : a[k] = b[k]) : a.take (k + 1) = b.take (k + 1) := by
  rw [take_snoc' a k ha, take_snoc' b k hb, h, e]

/-! ### Replies -/
abbrev repV (c n k : Int) (A : Option Addr) (m z : Nat) : Array Value := #[.int .i64 c, .int .i64 n, .int .i64 k, .slice A m z]
def same9B (c n k : Int) (vs : List ByteArray) (c' n' k' : Int) (vs' : List ByteArray) : Bool := decide (c = c') && (decide (n = n') && (decide (k = k') && decide (vs = vs')))

def totT (vs : List ByteArray) : Nat := (vs.map ByteArray.size).sum
set_option maxRecDepth 100000 in
theorem tot_take (vs : List ByteArray) (k : Nat) (h : k < vs.length) : totT (vs.take (k + 1)) = totT (vs.take k) + (vs[k]).size := by
  unfold totT
  rw [take_snoc' vs k h, List.map_append, List.sum_append]
  simp
set_option maxRecDepth 100000 in
theorem tot_le (vs : List ByteArray) (k : Nat) : totT (vs.take k) ≤ totT vs := by
  unfold totT
  conv => rhs; rw [← List.take_append_drop k vs, List.map_append, List.sum_append]
  omega
set_option maxRecDepth 100000 in
theorem tot_mem : ∀ {vs : List ByteArray} {s : ByteArray}, s ∈ vs → s.size ≤ totT vs
  | [], _, h => by cases h
  | x :: r, s, h => by
    have e : totT (x :: r) = x.size + totT r := rfl
    rcases List.mem_cons.1 h with rfl | h
    · omega
    · have := tot_mem h
      omega
set_option maxRecDepth 100000 in
theorem tot_flat (vs : List ByteArray) : (vs.flatMap textBytes).length = 4 * vs.length + totT vs := by
  induction vs with
  | nil => rfl
  | cons s r ih =>
    unfold totT at *
    rw [List.flatMap_cons, List.length_append, ih, textBytes_len, List.map_cons, List.sum_cons, List.length_cons]
    omega
def largeB (vs : List ByteArray) : Bool := decide (400 < vs.length) || decide (16384 < totT vs)

end Go.Proofs.YtapdnoellleimaaDoor

namespace Go.Proofs.YtapdnoellleimaaDoor
open Go.RowKit

set_option maxRecDepth 100000 in
theorem repB_len (c n k : Int) (vs : List ByteArray) : (repB c n k vs).length = 32 + 4 * vs.length + totT vs := by
  unfold repB
  simp only [List.length_append, numBytes_len, tot_flat]
  omega
set_option maxRecDepth 100000 in
theorem repB_split (c n k : Int) (vs : List ByteArray) : repB c n k vs = [c, n, k, (vs.length : Int)].flatMap numBytes ++ vs.flatMap textBytes := by
  unfold repB
  simp only [List.flatMap_cons, List.flatMap_nil, List.append_nil, List.append_assoc]

set_option maxRecDepth 100000 in
theorem flat_take_text (vs : List ByteArray) (j : Nat) (h : j < vs.length) : (vs.take (j + 1)).flatMap textBytes = (vs.take j).flatMap textBytes ++ textBytes vs[j] := by
  rw [take_snoc' vs j h, List.flatMap_append]
  simp

end Go.Proofs.YtapdnoellleimaaDoor

namespace Go.Proofs.YtapdnoellleimaaDoor
open Go.RowKit

/-! ### A block that is filled while a reader is turned -/
structure QW (R : World → Nat → List UInt8 → Bool → Prop) (T : TypeId) (Z : Array Value) (w0 : World) (a r b : Nat) (cs : Array Value) (s : List UInt8 × Bool) (w : World) : Prop where
  out : Box w r T Z
  box : Box w b T cs
  rd : R w a s.1 s.2
  far : w0.grownBy w (some a)
  ha : a < w0.heap.size
  hr : w0.heap.size ≤ r
  hb : w0.heap.size ≤ b
  ne : r ≠ b
set_option maxRecDepth 100000 in
theorem QW.turn {R : World → Nat → List UInt8 → Bool → Prop} {T : TypeId} {Z : Array Value} {w0 w w' : World} {a r b : Nat} {cs : Array Value} {s s' : List UInt8 × Bool} (h : QW R T Z w0 a r b cs s w) (hg : w.grownBy w' (some a)) (hr : R w' a s'.1 s'.2) : QW R T Z w0 a r b cs s' w' :=
  ⟨h.out.grown hg (by have := h.ha; have := h.hr; intro e; cases e; omega), h.box.grown hg (by have := h.ha; have := h.hb; intro e; cases e; omega), hr, only_trans h.far hg, h.ha, h.hr, h.hb, h.ne⟩
set_option maxRecDepth 100000 in
theorem QW.put {R : World → Nat → List UInt8 → Bool → Prop} {T : TypeId} {Z : Array Value} {w0 w w' : World} {a r b : Nat} {cs cs' : Array Value} {s : List UInt8 × Bool} (h : QW R T Z w0 a r b cs s w)
    (hR : ∀ {w w' : World} {a g : Nat} {l : List UInt8} {b : Bool}, R w a l b → w.grownBy w' (some g) → a < g → R w' a l b) (hb : Box w' b T cs') (hg : w.grownBy w' (some b)) : QW R T Z w0 a r b cs' s w' :=
  ⟨h.out.grown hg (by intro e; cases e; exact h.ne rfl), hb, hR h.rd hg (by have := h.ha; have := h.hb; omega), only_new h.far hg h.hb, h.ha, h.hr, h.hb, h.ne⟩
set_option maxRecDepth 100000 in
theorem rd_put {w w' : World} {a g : Nat} {l : List UInt8} {b : Bool} (h : Rd w a l b) (hg : w.grownBy w' (some g)) (hl : a < g) : Rd w' a l b := h.only hg hl

set_option maxRecDepth 100000 in
theorem rc1_eq (l : List UInt8) (b : Bool) : nuV (rc0 l b).2.1 (rc0 l b).2.2 = rc1 l b := rfl
set_option maxRecDepth 100000 in
theorem rc2_eq (l : List UInt8) (b : Bool) : nuV (rc1 l b).2.1 (rc1 l b).2.2 = rc2 l b := rfl
set_option maxRecDepth 100000 in
theorem rc3_eq (l : List UInt8) (b : Bool) : nuV (rc2 l b).2.1 (rc2 l b).2.2 = rc3 l b := rfl
set_option maxRecDepth 100000 in
theorem rc4_eq (l : List UInt8) (b : Bool) : dgV (rc3 l b).2.1 (rc3 l b).2.2 = rc4 l b := rfl
set_option maxRecDepth 100000 in
theorem pair_eta {α β : Type} (p : α × β) : (p.1, p.2) = p := by cases p; rfl
set_option maxRecDepth 100000 in
theorem rqF_eq (l : List UInt8) (b : Bool) : rqF l b = (rc4 (rq5 l b).2.1 (rq5 l b).2.2).2 := pair_eta _
set_option maxRecDepth 100000 in
theorem rq0_eq (l : List UInt8) (b : Bool) : inV 1 64 l b = rq0 l b := rfl
set_option maxRecDepth 100000 in
theorem rc0_eq (l : List UInt8) (b : Bool) : nuV l b = rc0 l b := rfl
set_option maxRecDepth 100000 in
theorem rq1_eq (l : List UInt8) (b : Bool) : inV 1 1099511627776 (rq0 l b).2.1 (rq0 l b).2.2 = rq1 l b := rfl
set_option maxRecDepth 100000 in
theorem rq2_eq (l : List UInt8) (b : Bool) : inV 1 7 (rq1 l b).2.1 (rq1 l b).2.2 = rq2 l b := rfl
set_option maxRecDepth 100000 in
theorem rq3_eq (l : List UInt8) (b : Bool) : txtV 1024 (rq2 l b).2.1 (rq2 l b).2.2 = rq3 l b := rfl
set_option maxRecDepth 100000 in
theorem rq4_eq (l : List UInt8) (b : Bool) : txtV 1024 (rq3 l b).2.1 (rq3 l b).2.2 = rq4 l b := rfl
set_option maxRecDepth 100000 in
theorem rq5_eq (l : List UInt8) (b : Bool) : txtV 1024 (rq4 l b).2.1 (rq4 l b).2.2 = rq5 l b := rfl
set_option maxRecDepth 100000 in
theorem rqX_good {l : List UInt8} {b : Bool} (h : (rqF l b).2 = false) (hl : (rc4 (rq5 l b).2.1 (rq5 l b).2.2).1.length = 32) : rqX l b = ⟨(rq0 l b).1, (rq1 l b).1, (rq2 l b).1, ⟨(rq3 l b).1.toArray⟩, ⟨(rq4 l b).1.toArray⟩, ⟨(rq5 l b).1.toArray⟩,
    (rc0 (rq5 l b).2.1 (rq5 l b).2.2).1, (rc1 (rq5 l b).2.1 (rq5 l b).2.2).1, (rc2 (rq5 l b).2.1 (rq5 l b).2.2).1, (rc4 (rq5 l b).2.1 (rq5 l b).2.2).1, (rc3 (rq5 l b).2.1 (rq5 l b).2.2).1, hl⟩ := by
  unfold rqX
  rw [if_neg (by rw [h]; simp)]
set_option maxRecDepth 100000 in
theorem rqX_bad {l : List UInt8} {b : Bool} (h : (rqF l b).2 = true) : rqX l b = zreq := by
  unfold rqX
  rw [if_pos h]

/-! ### readWhose -/
/-! ### readChange -/
attribute [local go_sem ↓] ldDigest_def stDigest_def

end Go.Proofs.YtapdnoellleimaaDoor
