/-
  Requests and replies written: request.Write, request.WriteReply.
  Texts and numbers as the document writes them (wapentakeref01.Text, wapentakeref09.nums); lists of texts compared (slices.Equal, wapentakeref09.Texts); how much texts are (wapentakelaw09.large).
  Replies written: request.WriteReply, wapentakeref09.ReplyBytes.
  Requests read: request.readWhose, request.readChange, request.Read.
-/
import Derived.Test.YtbclepdcngaonaaDoorRA
import Derived.Test.YtbclepdcngaonaaDoorWr
import Derived.Test.YtbclepdcngaonaaDoorOC
import Derived.Test.YtbclepdcngaonaaDoorOB
import Derived.Test.YtbclepdcngaonaaDoorTG
import Derived.Test.YtbclepdcngaonaaDoorRd
namespace Go.Proofs.YtbclepdcngaonaaDoor
open Go.RowKit

/-! ### What is written lies in a block of its own, just laid -/
set_option maxRecDepth 100000 in
theorem wnum_made {base a : Nat} {bs : List UInt8} (ns : List Int) {W : World} (h : Wr W base a bs) (hl : bs.length + 8 * ns.length ≤ 70368744177664) :
    Calls Tryd.prog 34 #[.pointer (some ⟨a, 0, none⟩), .slice (some ⟨W.heap.size, 0, none⟩) ns.length ns.length] (W.alloc (.cells (ns.map (Value.int .i64)).toArray 3)) fun e w' => e = .returned (.tuple #[]) ∧ Wr w' base a (bs ++ ns.flatMap numBytes) ∧ WF a W w' := by
  have hF : Below W.heap.size W (W.alloc (.cells (ns.map (Value.int .i64)).toArray 3)) := (Below.refl _ _).alloc (Nat.le_refl _) _
  have hb : Box (W.alloc (.cells (ns.map (Value.int .i64)).toArray 3)) W.heap.size 3 (ns.map (Value.int .i64)).toArray := Box.made _ _ _
  have h1 := h.below_size hF
  have hs := Src.of_box h1 hb (by decide) (by decide)
  exact (wnum_any base a _ ns ns.length bs _ h1 hs hl).mono fun e w' ⟨he, hw, hf⟩ => ⟨he, hw, (WF.of_below hF h.lt).trans hf⟩
set_option maxRecDepth 100000 in
theorem wtext_made {base a : Nat} {bs : List UInt8} (ss : List ByteArray) {W : World} (h : Wr W base a bs) (hl : bs.length + (ss.flatMap textBytes).length ≤ 70368744177664) (hn : ss.length ≤ 70368744177664) :
    Calls Tryd.prog 51 #[.pointer (some ⟨a, 0, none⟩), .slice (some ⟨W.heap.size, 0, none⟩) ss.length ss.length] (W.alloc (.cells (ss.map Value.string).toArray 9)) fun e w' => e = .returned (.tuple #[]) ∧ Wr w' base a (bs ++ ss.flatMap textBytes) ∧ WF a W w' := by
  have hF : Below W.heap.size W (W.alloc (.cells (ss.map Value.string).toArray 9)) := (Below.refl _ _).alloc (Nat.le_refl _) _
  have hb : Box (W.alloc (.cells (ss.map Value.string).toArray 9)) W.heap.size 9 (ss.map Value.string).toArray := Box.made _ _ _
  have h1 := h.below_size hF
  have hs := Src.of_box h1 hb (by decide) (by decide)
  exact (wtext_any base a _ ss ss.length bs _ h1 hs hl hn).mono fun e w' ⟨he, hw, hf⟩ => ⟨he, hw, (WF.of_below hF h.lt).trans hf⟩
set_option maxRecDepth 100000 in
theorem wdig_made {base a : Nat} {bs : List UInt8} {d : List UInt8} (hd : d.length = 32) {W : World} (h : Wr W base a bs) (hl : bs.length + 32 ≤ 70368744177664) :
    Calls Tryd.prog 35 #[.pointer (some ⟨a, 0, none⟩), .slice (some ⟨W.heap.size, 0, none⟩) 1 1] (W.alloc (.cells (d.map bv).toArray 32)) fun e w' => e = .returned (.tuple #[]) ∧ Wr w' base a (bs ++ d) ∧ WF a W w' := by
  have hF : Below W.heap.size W (W.alloc (.cells (d.map bv).toArray 32)) := (Below.refl _ _).alloc (Nat.le_refl _) _
  have hb : Box (W.alloc (.cells (d.map bv).toArray 32)) W.heap.size 32 (d.map bv).toArray := Box.made _ _ _
  have h1 := h.below_size hF
  have e : ([d] : List (List UInt8)).flatMap id = d := by simp
  have hs : Src (W.alloc (.cells (d.map bv).toArray 32)) a (some ⟨W.heap.size, 0, none⟩) ((([d] : List (List UInt8)).flatMap id).map bv) := by
    rw [e]
    exact Src.of_box h1 hb (by decide) (by decide)
  have hc := wdigest_any base a _ [d] (fun x hx => by obtain rfl := List.mem_singleton.1 hx; exact hd) 1 bs _ h1 hs hl
  rw [e] at hc
  exact hc.mono fun e w' ⟨he, hw, hf⟩ => ⟨he, hw, (WF.of_below hF h.lt).trans hf⟩

set_option maxRecDepth 100000 in
theorem laid_chg (w : World) (k i n : Int) {r : List UInt8} (hr : r.length = 32) (hh : Int) : ∃ w', (stChg (.pointer (some ⟨w.heap.size, 0, none⟩)) (.agg (chgL k i n r hh).toArray)).run Tryd.prog (w.alloc (.cells zchgV 62)) = .ok () w' ∧ Box w' w.heap.size 62 (chgL k i n r hh).toArray ∧ Below w.heap.size w w' := by
  obtain ⟨w', h1, h2, h3⟩ := (Box.made w 62 zchgV).st_chg rfl k i n hr hh
  exact ⟨w', h1, h2, ((Below.refl _ _).alloc (Nat.le_refl _) _).trans (below_only h3 (Nat.le_refl _) (by simp))⟩
set_option maxRecDepth 100000 in
theorem reqB_split (x : ReqX) : reqB x = ((([x.client, x.num, x.kind].flatMap numBytes ++ [x.key, x.val, x.old].flatMap textBytes) ++ [x.ck, x.cid, x.cn, x.high].flatMap numBytes) ++ x.root) := by
  unfold reqB
  simp only [List.flatMap_cons, List.flatMap_nil, List.append_nil, List.append_assoc]

attribute [local go_sem ↓] ldDigest_def stDigest_def bsAll_def ldChg_def stChg_def

set_option maxRecDepth 100000 in
set_option maxHeartbeats 2000000 in
theorem write_any9 (base a : Nat) (bs : List UInt8) (x : ReqX) (w : World) (h : Wr w base a bs) (hbs : bs.length ≤ 1099511627776) (hk : x.key.size ≤ 1099511627776) (hv : x.val.size ≤ 1099511627776) (ho : x.old.size ≤ 1099511627776) :
    Calls Tryd.prog 41 #[.pointer (some ⟨a, 0, none⟩), .agg x.cells.toArray] w fun e w' => e = .returned (.tuple #[]) ∧ Wr w' base a (bs ++ reqB x) ∧ WF a w w' := by
  have hF1 : Below w.heap.size w (w.alloc (.cells x.cells.toArray 66)) := (Below.refl _ _).alloc (Nat.le_refl _) _
  have HB1 : Hid (Box (w.alloc (.cells x.cells.toArray 66)) w.heap.size 66 x.cells.toArray) := Box.made _ _ _
  have HW1 := Lib.hid (h.below_size hF1)
  have HA1 := Lib.hid (WF.of_below hF1 h.lt)
  have lc : (ldChg (.pointer (some ⟨w.heap.size, 6, none⟩))).run Tryd.prog (w.alloc (.cells x.cells.toArray 66)) = .ok (.agg (chgL x.ck x.cid x.cn x.root x.high).toArray) (w.alloc (.cells x.cells.toArray 66)) :=
    run_loadAt_mid (P := Tryd.prog) _ w.heap.size 6 62 (chgL x.ck x.cid x.cn x.root x.high) _ HB1.out.rq_chg Tryd.underlying62 rfl (chg_list x.len _ _ _ _)
  obtain ⟨w2, hst, hb2, hf2⟩ := laid_chg (w.alloc (.cells x.cells.toArray 66)) x.ck x.cid x.cn x.len x.high
  have HW2 := Lib.hid (HW1.out.below_size hf2)
  have HA2 := Lib.hid (HA1.out.trans (WF.of_below hf2 HW1.out.lt))
  have HB2 := Lib.hid (HB1.out.below hf2 HB1.out.lt)
  have HC2 := Lib.hid hb2
  have HS := Lib.hid (reqB_split x)
  have HL : Hid (bs.length ≤ 1099511627776 ∧ x.key.size ≤ 1099511627776 ∧ x.val.size ≤ 1099511627776 ∧ x.old.size ≤ 1099511627776) := ⟨hbs, hk, hv, ho⟩
  have HR := Lib.hid x.len
  have c0 := HB2.out.rq_cell (j := 0) rfl
  have c1 := HB2.out.rq_cell (j := 1) rfl
  have c2 := HB2.out.rq_cell (j := 2) rfl
  clear hF1 h hbs hk hv ho hb2 hf2 HW1 HA1 HB1
  obtain ⟨g1, hg1⟩ : ∃ g1, (w.alloc (.cells x.cells.toArray 66)).heap.size = g1 := ⟨_, rfl⟩
  rw [hg1] at hst HC2
  have HG : Hid (g1 = w.heap.size + 1) := Lib.hid (by rw [← hg1]; simp)
  clear hg1
  obtain rfl : g1 = w.heap.size + 1 := HG.out
  have t3 := HB2.out.rq_cell (j := 3) rfl
  have t4 := HB2.out.rq_cell (j := 4) rfl
  have t5 := HB2.out.rq_cell (j := 5) rfl
  have HN : Hid (Calls Tryd.prog 34 #[.pointer (some ⟨a, 0, none⟩), .slice (some ⟨w2.heap.size, 0, none⟩) 3 3] (w2.alloc (.cells #[.int .i64 x.client, .int .i64 x.num, .int .i64 x.kind] 3)) fun e w' => e = .returned (.tuple #[]) ∧ Wr w' base a (bs ++ [x.client, x.num, x.kind].flatMap numBytes) ∧ WF a w2 w') :=
    wnum_made [x.client, x.num, x.kind] HW2.out (by have := HL.out; simp only [List.length_cons, List.length_nil]; omega)
  have HB1l : Hid ((bs ++ [x.client, x.num, x.kind].flatMap numBytes).length = bs.length + 24) := Lib.hid (by rw [List.length_append, nums_len]; rfl)
  generalize hb1 : bs ++ [x.client, x.num, x.kind].flatMap numBytes = b1 at *
  have HE1 := Lib.hid hb1
  clear hb1
  go_enter Tryd.func41, Tryd.ntmps41
  go_upto_region 2 with fail
  clear lc hst
  go_upto_region 3 with (go_at_call 34; (with_reducible refine (HN.out).mono ?_); rintro e w3 ⟨rfl, hw, hf⟩; have HB3 := Lib.hid (hf.box HW2.out HB2.out (by decide) (by decide)); have HC3 := Lib.hid (hf.box HW2.out HC2.out (by decide) (by decide)); have HW3 := Lib.hid hw; have HA3 := Lib.hid (HA2.out.trans hf); clear hw hf)
  clear c0 c1 c2 t3 t4 t5 HN HB2 HC2 HW2 HA2
  have t3 := HB3.out.rq_cell (j := 3) rfl
  have t4 := HB3.out.rq_cell (j := 4) rfl
  have t5 := HB3.out.rq_cell (j := 5) rfl
  have HN : Hid (Calls Tryd.prog 51 #[.pointer (some ⟨a, 0, none⟩), .slice (some ⟨w3.heap.size, 0, none⟩) 3 3] (w3.alloc (.cells #[.string x.key, .string x.val, .string x.old] 9)) fun e w' => e = .returned (.tuple #[]) ∧ Wr w' base a (b1 ++ [x.key, x.val, x.old].flatMap textBytes) ∧ WF a w3 w') :=
    wtext_made [x.key, x.val, x.old] HW3.out (by have := HL.out; have := HB1l.out; simp only [List.flatMap_cons, List.flatMap_nil, List.length_append, List.length_nil, textBytes_len]; omega) (by simp)
  have HB2l : Hid ((b1 ++ [x.key, x.val, x.old].flatMap textBytes).length ≤ 8796093022208) := Lib.hid (by have := HL.out; have := HB1l.out; simp only [List.flatMap_cons, List.flatMap_nil, List.length_append, List.length_nil, textBytes_len]; omega)
  generalize hb2 : b1 ++ [x.key, x.val, x.old].flatMap textBytes = b2 at *
  have HE2 := Lib.hid hb2
  clear hb2
  go_upto_region 4 with (go_at_call 51; (with_reducible refine (HN.out).mono ?_); rintro e w4 ⟨rfl, hw, hf⟩; have HC4 := Lib.hid (hf.box HW3.out HC3.out (by decide) (by decide)); have HW4 := Lib.hid hw; have HA4 := Lib.hid (HA3.out.trans hf); clear hw hf)
  clear t3 t4 t5 HN HB3 HC3 HW3 HA3
  have t0 : w4.cell? ⟨w.heap.size + 1, 0, none⟩ = some (.int .i64 x.ck) := (HC4.out.cell 0).trans rfl
  have t1 : w4.cell? ⟨w.heap.size + 1, 1, none⟩ = some (.int .i64 x.cid) := (HC4.out.cell 1).trans rfl
  have t2 : w4.cell? ⟨w.heap.size + 1, 2, none⟩ = some (.int .i64 x.cn) := (HC4.out.cell 2).trans rfl
  have t35 : w4.cell? ⟨w.heap.size + 1, 35, none⟩ = some (.int .i64 x.high) := HC4.out.chg_35 x.len
  have HN : Hid (Calls Tryd.prog 34 #[.pointer (some ⟨a, 0, none⟩), .slice (some ⟨w4.heap.size, 0, none⟩) 4 4] (w4.alloc (.cells #[.int .i64 x.ck, .int .i64 x.cid, .int .i64 x.cn, .int .i64 x.high] 3)) fun e w' => e = .returned (.tuple #[]) ∧ Wr w' base a (b2 ++ [x.ck, x.cid, x.cn, x.high].flatMap numBytes) ∧ WF a w4 w') :=
    wnum_made [x.ck, x.cid, x.cn, x.high] HW4.out (by have := HB2l.out; simp only [List.length_cons, List.length_nil]; omega)
  have HB3l : Hid ((b2 ++ [x.ck, x.cid, x.cn, x.high].flatMap numBytes).length ≤ 8796093022240) := Lib.hid (by have := HB2l.out; rw [List.length_append, nums_len]; simp only [List.length_cons, List.length_nil]; omega)
  generalize hb3 : b2 ++ [x.ck, x.cid, x.cn, x.high].flatMap numBytes = b3 at *
  have HE3 := Lib.hid hb3
  clear hb3
  go_upto_region 5 with (go_at_call 34; (with_reducible refine (HN.out).mono ?_); rintro e w5 ⟨rfl, hw, hf⟩; have HC5 := Lib.hid (hf.box HW4.out HC4.out (by decide) (by decide)); have HW5 := Lib.hid hw; have HA5 := Lib.hid (HA4.out.trans hf); clear hw hf)
  clear t0 t1 t2 t35 HN HC4 HW4 HA4
  have ld := range_load (HC5.out.chg_3) x.len
  have hbs := build_one x.root x.len w5
  have HN := Lib.hid (wdig_made x.len HW5.out (by have := HB3l.out; omega))
  have HEB : Hid (bs ++ reqB x = b3 ++ x.root) := Lib.hid (by rw [HS.out, ← HE3.out, ← HE2.out, ← HE1.out]; simp only [List.append_assoc])
  generalize x.root = r at *
  clear HS HE1 HE2 HE3
  go_wp2_with (go_at_call 35; (with_reducible refine (HN.out).mono ?_); rintro e w6 ⟨rfl, hw, hf⟩; have HW6 := Lib.hid hw; have HA6 := Lib.hid (HA5.out.trans hf); clear hw hf)
  go_end0
  refine ⟨rfl, ?_, HA6.out⟩
  rw [HEB.out]
  exact HW6.out

end Go.Proofs.YtbclepdcngaonaaDoor

namespace Go.Proofs.YtbclepdcngaonaaDoor
open Go.RowKit

set_option maxRecDepth 100000 in
theorem num_tail9 (s : ByteArray) (hs : s.size ≤ 140737488351232) : (numBytes (s.size : Int)).drop 4 = beBytes 4 s.size := by
  unfold numBytes
  have e : ((s.size : Int) % 18446744073709551616).toNat = s.size := by omega
  rw [e]
  rfl
set_option maxRecDepth 100000 in
theorem text_join9 (s : ByteArray) (hs : s.size ≤ 140737488351232) : (ByteArray.mk (numBytes (s.size : Int)).toArray).extract 4 8 ++ s = ByteArray.mk (textBytes s).toArray := by
  rw [ByteArray.extract_mk, num_tail9 s hs, List.take_of_length_le (by rw [beBytes_length]; decide)]
  obtain ⟨⟨l⟩⟩ := s
  rw [ByteArray.mk_append_mk]
  rfl
set_option maxRecDepth 100000 in
theorem mk_size (l : List UInt8) : (ByteArray.mk l.toArray).size = l.length := by show l.toArray.size = _; rw [List.size_toArray]

/-! ### Lists of texts compared -/
set_option maxRecDepth 100000 in
theorem texts_step {a b : List ByteArray} {k : Nat} (h : a.take k = b.take k) (ha : k < a.length) (hb : k < b.length) (e : a[k] = b[k]) : a.take (k + 1) = b.take (k + 1) := by
  rw [take_snoc' a k ha, take_snoc' b k hb, h, e]

/-! ### Replies -/
abbrev repV (c n k : Int) (A : Option Addr) (m z : Nat) : Array Value := #[.int .i64 c, .int .i64 n, .int .i64 k, .slice A m z]
def same9B (c n k : Int) (vs : List ByteArray) (c' n' k' : Int) (vs' : List ByteArray) : Bool := decide (c = c') && (decide (n = n') && (decide (k = k') && decide (vs = vs')))

def totT (vs : List ByteArray) : Nat := (vs.map ByteArray.size).sum
set_option maxRecDepth 100000 in
theorem tot_take (vs : List ByteArray) (k : Nat) (h : k < vs.length) : totT (vs.take (k + 1)) = totT (vs.take k) + (vs[k]).size := by
  unfold totT
  rw [take_snoc' vs k h, List.map_append, List.sum_append]
  simp
set_option maxRecDepth 100000 in
theorem tot_le (vs : List ByteArray) (k : Nat) : totT (vs.take k) ≤ totT vs := by
  unfold totT
  conv => rhs; rw [← List.take_append_drop k vs, List.map_append, List.sum_append]
  omega
set_option maxRecDepth 100000 in
theorem tot_mem : ∀ {vs : List ByteArray} {s : ByteArray}, s ∈ vs → s.size ≤ totT vs
  | [], _, h => by cases h
  | x :: r, s, h => by
    have e : totT (x :: r) = x.size + totT r := rfl
    rcases List.mem_cons.1 h with rfl | h
    · omega
    · have := tot_mem h
      omega
set_option maxRecDepth 100000 in
theorem tot_flat (vs : List ByteArray) : (vs.flatMap textBytes).length = 4 * vs.length + totT vs := by
  induction vs with
  | nil => rfl
  | cons s r ih =>
    unfold totT at *
    rw [List.flatMap_cons, List.length_append, ih, textBytes_len, List.map_cons, List.sum_cons, List.length_cons]
    omega
def largeB (vs : List ByteArray) : Bool := decide (400 < vs.length) || decide (16384 < totT vs)

end Go.Proofs.YtbclepdcngaonaaDoor

namespace Go.Proofs.YtbclepdcngaonaaDoor
open Go.RowKit

set_option maxRecDepth 100000 in
theorem repB_len (c n k : Int) (vs : List ByteArray) : (repB c n k vs).length = 32 + 4 * vs.length + totT vs := by
  unfold repB
  simp only [List.length_append, numBytes_len, tot_flat]
  omega
set_option maxRecDepth 100000 in
theorem repB_split (c n k : Int) (vs : List ByteArray) : repB c n k vs = [c, n, k, (vs.length : Int)].flatMap numBytes ++ vs.flatMap textBytes := by
  unfold repB
  simp only [List.flatMap_cons, List.flatMap_nil, List.append_nil, List.append_assoc]

set_option maxRecDepth 100000 in
theorem flat_take_text (vs : List ByteArray) (j : Nat) (h : j < vs.length) : (vs.take (j + 1)).flatMap textBytes = (vs.take j).flatMap textBytes ++ textBytes vs[j] := by
  rw [take_snoc' vs j h, List.flatMap_append]
  simp

end Go.Proofs.YtbclepdcngaonaaDoor

namespace Go.Proofs.YtbclepdcngaonaaDoor
open Go.RowKit

/-! ### A block that is filled while a reader is turned -/
structure QW (R : World → Nat → List UInt8 → Bool → Prop) (T : TypeId) (Z : Array Value) (w0 : World) (a r b : Nat) (cs : Array Value) (s : List UInt8 × Bool) (w : World) : Prop where
  out : Box w r T Z
  box : Box w b T cs
  rd : R w a s.1 s.2
  far : w0.grownBy w (some a)
  ha : a < w0.heap.size
  hr : w0.heap.size ≤ r
  hb : w0.heap.size ≤ b
  ne : r ≠ b
set_option maxRecDepth 100000 in
theorem QW.turn {R : World → Nat → List UInt8 → Bool → Prop} {T : TypeId} {Z : Array Value} {w0 w w' : World} {a r b : Nat} {cs : Array Value} {s s' : List UInt8 × Bool} (h : QW R T Z w0 a r b cs s w) (hg : w.grownBy w' (some a)) (hr : R w' a s'.1 s'.2) : QW R T Z w0 a r b cs s' w' :=
  ⟨h.out.grown hg (by have := h.ha; have := h.hr; intro e; cases e; omega), h.box.grown hg (by have := h.ha; have := h.hb; intro e; cases e; omega), hr, only_trans h.far hg, h.ha, h.hr, h.hb, h.ne⟩
set_option maxRecDepth 100000 in
theorem QW.put {R : World → Nat → List UInt8 → Bool → Prop} {T : TypeId} {Z : Array Value} {w0 w w' : World} {a r b : Nat} {cs cs' : Array Value} {s : List UInt8 × Bool} (h : QW R T Z w0 a r b cs s w)
    (hR : ∀ {w w' : World} {a g : Nat} {l : List UInt8} {b : Bool}, R w a l b → w.grownBy w' (some g) → a < g → R w' a l b) (hb : Box w' b T cs') (hg : w.grownBy w' (some b)) : QW R T Z w0 a r b cs' s w' :=
  ⟨h.out.grown hg (by intro e; cases e; exact h.ne rfl), hb, hR h.rd hg (by have := h.ha; have := h.hb; omega), only_new h.far hg h.hb, h.ha, h.hr, h.hb, h.ne⟩
set_option maxRecDepth 100000 in
theorem rc1_eq (l : List UInt8) (b : Bool) : nuV (rc0 l b).2.1 (rc0 l b).2.2 = rc1 l b := rfl
set_option maxRecDepth 100000 in
theorem rc2_eq (l : List UInt8) (b : Bool) : nuV (rc1 l b).2.1 (rc1 l b).2.2 = rc2 l b := rfl
set_option maxRecDepth 100000 in
theorem rc3_eq (l : List UInt8) (b : Bool) : nuV (rc2 l b).2.1 (rc2 l b).2.2 = rc3 l b := rfl
set_option maxRecDepth 100000 in
theorem rc4_eq (l : List UInt8) (b : Bool) : dgV (rc3 l b).2.1 (rc3 l b).2.2 = rc4 l b := rfl
set_option maxRecDepth 100000 in
theorem pair_eta {α β : Type} (p : α × β) : (p.1, p.2) = p := by cases p; rfl
set_option maxRecDepth 100000 in
theorem rqF_eq (l : List UInt8) (b : Bool) : rqF l b = (rc4 (rq5 l b).2.1 (rq5 l b).2.2).2 := pair_eta _
set_option maxRecDepth 100000 in
theorem rq0_eq (l : List UInt8) (b : Bool) : inV 1 64 l b = rq0 l b := rfl
set_option maxRecDepth 100000 in
theorem rc0_eq (l : List UInt8) (b : Bool) : nuV l b = rc0 l b := rfl
set_option maxRecDepth 100000 in
theorem rq1_eq (l : List UInt8) (b : Bool) : inV 1 1099511627776 (rq0 l b).2.1 (rq0 l b).2.2 = rq1 l b := rfl
set_option maxRecDepth 100000 in
theorem rq2_eq (l : List UInt8) (b : Bool) : inV 1 7 (rq1 l b).2.1 (rq1 l b).2.2 = rq2 l b := rfl
set_option maxRecDepth 100000 in
theorem rq3_eq (l : List UInt8) (b : Bool) : txtV 1024 (rq2 l b).2.1 (rq2 l b).2.2 = rq3 l b := rfl
set_option maxRecDepth 100000 in
theorem rq4_eq (l : List UInt8) (b : Bool) : txtV 1024 (rq3 l b).2.1 (rq3 l b).2.2 = rq4 l b := rfl
set_option maxRecDepth 100000 in
theorem rq5_eq (l : List UInt8) (b : Bool) : txtV 1024 (rq4 l b).2.1 (rq4 l b).2.2 = rq5 l b := rfl
set_option maxRecDepth 100000 in
theorem rqX_good {l : List UInt8} {b : Bool} (h : (rqF l b).2 = false) (hl : (rc4 (rq5 l b).2.1 (rq5 l b).2.2).1.length = 32) : rqX l b = ⟨(rq0 l b).1, (rq1 l b).1, (rq2 l b).1, ⟨(rq3 l b).1.toArray⟩, ⟨(rq4 l b).1.toArray⟩, ⟨(rq5 l b).1.toArray⟩,
    (rc0 (rq5 l b).2.1 (rq5 l b).2.2).1, (rc1 (rq5 l b).2.1 (rq5 l b).2.2).1, (rc2 (rq5 l b).2.1 (rq5 l b).2.2).1, (rc4 (rq5 l b).2.1 (rq5 l b).2.2).1, (rc3 (rq5 l b).2.1 (rq5 l b).2.2).1, hl⟩ := by
  unfold rqX
  rw [if_neg (by rw [h]; simp)]
set_option maxRecDepth 100000 in
theorem rqX_bad {l : List UInt8} {b : Bool} (h : (rqF l b).2 = true) : rqX l b = zreq := by
  unfold rqX
  rw [if_pos h]

/-! ### readWhose -/
/-! ### readChange -/
attribute [local go_sem ↓] ldDigest_def stDigest_def ldChg_def stChg_def ldReq_def stReq_def bdReq_def
end Go.Proofs.YtbclepdcngaonaaDoor
