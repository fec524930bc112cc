/-
  Requests and replies written: request.Write, request.WriteReply.
-/
import Derived.Test.YtoamcdbemhbphaaDoorRqGood
import Derived.Test.YtoamcdbemhbphaaDoorWr
import Derived.Test.YtoamcdbemhbphaaDoorOC
namespace Go.Proofs.YtoamcdbemhbphaaDoor
open Go.RowKit

/-! ### What is written lies in a block of its own, just laid -/
set_option maxRecDepth 100000 in
theorem wnum_made {base a : Nat} {bs : List UInt8} (ns : List Int) {W : World} (h : Wr W base a bs) (hl : bs.length + 8 * ns.length ≤ 70368744177664) :
    Calls Tryd.prog 12 #[.pointer (some ⟨a, 0, none⟩), .slice (some ⟨W.heap.size, 0, none⟩) ns.length ns.length] (W.alloc (.cells (ns.map (Value.int .i64)).toArray 3)) fun e w' => e = .returned (.tuple #[]) ∧ Wr w' base a (bs ++ ns.flatMap numBytes) ∧ WF a W w' := by
  have hF : Below W.heap.size W (W.alloc (.cells (ns.map (Value.int .i64)).toArray 3)) := (Below.refl _ _).alloc (Nat.le_refl _) _
  have hb : Box (W.alloc (.cells (ns.map (Value.int .i64)).toArray 3)) W.heap.size 3 (ns.map (Value.int .i64)).toArray := Box.made _ _ _
  have h1 := h.below_size hF
  have hs := Src.of_box h1 hb (by decide) (by decide)
  exact (wnum_any base a _ ns ns.length bs _ h1 hs hl).mono fun e w' ⟨he, hw, hf⟩ => ⟨he, hw, (WF.of_below hF h.lt).trans hf⟩
set_option maxRecDepth 100000 in
theorem wtext_made {base a : Nat} {bs : List UInt8} (ss : List ByteArray) {W : World} (h : Wr W base a bs) (hl : bs.length + (ss.flatMap textBytes).length ≤ 70368744177664) (hn : ss.length ≤ 70368744177664) :
    Calls Tryd.prog 13 #[.pointer (some ⟨a, 0, none⟩), .slice (some ⟨W.heap.size, 0, none⟩) ss.length ss.length] (W.alloc (.cells (ss.map Value.string).toArray 9)) fun e w' => e = .returned (.tuple #[]) ∧ Wr w' base a (bs ++ ss.flatMap textBytes) ∧ WF a W w' := by
  have hF : Below W.heap.size W (W.alloc (.cells (ss.map Value.string).toArray 9)) := (Below.refl _ _).alloc (Nat.le_refl _) _
  have hb : Box (W.alloc (.cells (ss.map Value.string).toArray 9)) W.heap.size 9 (ss.map Value.string).toArray := Box.made _ _ _
  have h1 := h.below_size hF
  have hs := Src.of_box h1 hb (by decide) (by decide)
  exact (wtext_any base a _ ss ss.length bs _ h1 hs hl hn).mono fun e w' ⟨he, hw, hf⟩ => ⟨he, hw, (WF.of_below hF h.lt).trans hf⟩
set_option maxRecDepth 100000 in
theorem wdig_made {base a : Nat} {bs : List UInt8} {d : List UInt8} (hd : d.length = 32) {W : World} (h : Wr W base a bs) (hl : bs.length + 32 ≤ 70368744177664) :
    Calls Tryd.prog 14 #[.pointer (some ⟨a, 0, none⟩), .slice (some ⟨W.heap.size, 0, none⟩) 1 1] (W.alloc (.cells (d.map bv).toArray 23)) fun e w' => e = .returned (.tuple #[]) ∧ Wr w' base a (bs ++ d) ∧ WF a W w' := by
  have hF : Below W.heap.size W (W.alloc (.cells (d.map bv).toArray 23)) := (Below.refl _ _).alloc (Nat.le_refl _) _
  have hb : Box (W.alloc (.cells (d.map bv).toArray 23)) W.heap.size 23 (d.map bv).toArray := Box.made _ _ _
  have h1 := h.below_size hF
  have e : ([d] : List (List UInt8)).flatMap id = d := by simp
  have hs : Src (W.alloc (.cells (d.map bv).toArray 23)) a (some ⟨W.heap.size, 0, none⟩) ((([d] : List (List UInt8)).flatMap id).map bv) := by
    rw [e]
    exact Src.of_box h1 hb (by decide) (by decide)
  have hc := wdigest_any base a _ [d] (fun x hx => by obtain rfl := List.mem_singleton.1 hx; exact hd) 1 bs _ h1 hs hl
  rw [e] at hc
  exact hc.mono fun e w' ⟨he, hw, hf⟩ => ⟨he, hw, (WF.of_below hF h.lt).trans hf⟩

set_option maxRecDepth 100000 in
theorem laid_chg (w : World) (k i n : Int) {r : List UInt8} (hr : r.length = 32) (hh : Int) : ∃ w', (stChg (.pointer (some ⟨w.heap.size, 0, none⟩)) (.agg (chgL k i n r hh).toArray)).run Tryd.prog (w.alloc (.cells zchgV 27)) = .ok () w' ∧ Box w' w.heap.size 27 (chgL k i n r hh).toArray ∧ Below w.heap.size w w' := by
  obtain ⟨w', h1, h2, h3⟩ := (Box.made w 27 zchgV).st_chg rfl k i n hr hh
  exact ⟨w', h1, h2, ((Below.refl _ _).alloc (Nat.le_refl _) _).trans (below_only h3 (Nat.le_refl _) (by simp))⟩
set_option maxRecDepth 100000 in
theorem reqB_split (x : ReqX) : reqB x = ((([x.client, x.num, x.kind].flatMap numBytes ++ [x.key, x.val, x.old].flatMap textBytes) ++ [x.ck, x.cid, x.cn, x.high].flatMap numBytes) ++ x.root) := by
  unfold reqB
  simp only [List.flatMap_cons, List.flatMap_nil, List.append_nil, List.append_assoc]

attribute [local go_sem ↓] ldDigest_def stDigest_def bsAll_def ldChg_def stChg_def

set_option maxRecDepth 100000 in
set_option maxHeartbeats 2000000 in
theorem write_any9 (base a : Nat) (bs : List UInt8) (x : ReqX) (w : World) (h : Wr w base a bs) (hbs : bs.length ≤ 1099511627776) (hk : x.key.size ≤ 1099511627776) (hv : x.val.size ≤ 1099511627776) (ho : x.old.size ≤ 1099511627776) :
    Calls Tryd.prog 6 #[.pointer (some ⟨a, 0, none⟩), .agg x.cells.toArray] w fun e w' => e = .returned (.tuple #[]) ∧ Wr w' base a (bs ++ reqB x) ∧ WF a w w' := by
  have hF1 : Below w.heap.size w (w.alloc (.cells x.cells.toArray 31)) := (Below.refl _ _).alloc (Nat.le_refl _) _
  have HB1 : Hid (Box (w.alloc (.cells x.cells.toArray 31)) w.heap.size 31 x.cells.toArray) := Box.made _ _ _
  have HW1 := Lib.hid (h.below_size hF1)
  have HA1 := Lib.hid (WF.of_below hF1 h.lt)
  have lc : (ldChg (.pointer (some ⟨w.heap.size, 6, none⟩))).run Tryd.prog (w.alloc (.cells x.cells.toArray 31)) = .ok (.agg (chgL x.ck x.cid x.cn x.root x.high).toArray) (w.alloc (.cells x.cells.toArray 31)) :=
    run_loadAt_mid (P := Tryd.prog) _ w.heap.size 6 27 (chgL x.ck x.cid x.cn x.root x.high) _ HB1.out.rq_chg Tryd.underlying27 rfl (chg_list x.len _ _ _ _)
  obtain ⟨w2, hst, hb2, hf2⟩ := laid_chg (w.alloc (.cells x.cells.toArray 31)) x.ck x.cid x.cn x.len x.high
  have HW2 := Lib.hid (HW1.out.below_size hf2)
  have HA2 := Lib.hid (HA1.out.trans (WF.of_below hf2 HW1.out.lt))
  have HB2 := Lib.hid (HB1.out.below hf2 HB1.out.lt)
  have HC2 := Lib.hid hb2
  have HS := Lib.hid (reqB_split x)
  have HL : Hid (bs.length ≤ 1099511627776 ∧ x.key.size ≤ 1099511627776 ∧ x.val.size ≤ 1099511627776 ∧ x.old.size ≤ 1099511627776) := ⟨hbs, hk, hv, ho⟩
  have HR := Lib.hid x.len
  have c0 := HB2.out.rq_cell (j := 0) rfl
  have c1 := HB2.out.rq_cell (j := 1) rfl
  have c2 := HB2.out.rq_cell (j := 2) rfl
  clear hF1 h hbs hk hv ho hb2 hf2 HW1 HA1 HB1
  obtain ⟨g1, hg1⟩ : ∃ g1, (w.alloc (.cells x.cells.toArray 31)).heap.size = g1 := ⟨_, rfl⟩
  rw [hg1] at hst HC2
  have HG : Hid (g1 = w.heap.size + 1) := Lib.hid (by rw [← hg1]; simp)
  clear hg1
  obtain rfl : g1 = w.heap.size + 1 := HG.out
  have t3 := HB2.out.rq_cell (j := 3) rfl
  have t4 := HB2.out.rq_cell (j := 4) rfl
  have t5 := HB2.out.rq_cell (j := 5) rfl
  have HN : Hid (Calls Tryd.prog 12 #[.pointer (some ⟨a, 0, none⟩), .slice (some ⟨w2.heap.size, 0, none⟩) 3 3] (w2.alloc (.cells #[.int .i64 x.client, .int .i64 x.num, .int .i64 x.kind] 3)) fun e w' => e = .returned (.tuple #[]) ∧ Wr w' base a (bs ++ [x.client, x.num, x.kind].flatMap numBytes) ∧ WF a w2 w') :=
    wnum_made [x.client, x.num, x.kind] HW2.out (by have := HL.out; simp only [List.length_cons, List.length_nil]; omega)
  have HB1l : Hid ((bs ++ [x.client, x.num, x.kind].flatMap numBytes).length = bs.length + 24) := Lib.hid (by rw [List.length_append, nums_len]; rfl)
  generalize hb1 : bs ++ [x.client, x.num, x.kind].flatMap numBytes = b1 at *
  have HE1 := Lib.hid hb1
  clear hb1
  go_enter Tryd.func6, Tryd.ntmps6
  go_upto_region 2 with fail
  clear lc hst
  go_upto_region 3 with (go_at_call 12; (with_reducible refine (HN.out).mono ?_); rintro e w3 ⟨rfl, hw, hf⟩; have HB3 := Lib.hid (hf.box HW2.out HB2.out (by decide) (by decide)); have HC3 := Lib.hid (hf.box HW2.out HC2.out (by decide) (by decide)); have HW3 := Lib.hid hw; have HA3 := Lib.hid (HA2.out.trans hf); clear hw hf)
  clear c0 c1 c2 t3 t4 t5 HN HB2 HC2 HW2 HA2
  have t3 := HB3.out.rq_cell (j := 3) rfl
  have t4 := HB3.out.rq_cell (j := 4) rfl
  have t5 := HB3.out.rq_cell (j := 5) rfl
  have HN : Hid (Calls Tryd.prog 13 #[.pointer (some ⟨a, 0, none⟩), .slice (some ⟨w3.heap.size, 0, none⟩) 3 3] (w3.alloc (.cells #[.string x.key, .string x.val, .string x.old] 9)) fun e w' => e = .returned (.tuple #[]) ∧ Wr w' base a (b1 ++ [x.key, x.val, x.old].flatMap textBytes) ∧ WF a w3 w') :=
    wtext_made [x.key, x.val, x.old] HW3.out (by have := HL.out; have := HB1l.out; simp only [List.flatMap_cons, List.flatMap_nil, List.length_append, List.length_nil, textBytes_len]; omega) (by simp)
  have HB2l : Hid ((b1 ++ [x.key, x.val, x.old].flatMap textBytes).length ≤ 8796093022208) := Lib.hid (by have := HL.out; have := HB1l.out; simp only [List.flatMap_cons, List.flatMap_nil, List.length_append, List.length_nil, textBytes_len]; omega)
  generalize hb2 : b1 ++ [x.key, x.val, x.old].flatMap textBytes = b2 at *
  have HE2 := Lib.hid hb2
  clear hb2
  go_upto_region 4 with (go_at_call 13; (with_reducible refine (HN.out).mono ?_); rintro e w4 ⟨rfl, hw, hf⟩; have HC4 := Lib.hid (hf.box HW3.out HC3.out (by decide) (by decide)); have HW4 := Lib.hid hw; have HA4 := Lib.hid (HA3.out.trans hf); clear hw hf)
  clear t3 t4 t5 HN HB3 HC3 HW3 HA3
  have t0 : w4.cell? ⟨w.heap.size + 1, 0, none⟩ = some (.int .i64 x.ck) := (HC4.out.cell 0).trans rfl
  have t1 : w4.cell? ⟨w.heap.size + 1, 1, none⟩ = some (.int .i64 x.cid) := (HC4.out.cell 1).trans rfl
  have t2 : w4.cell? ⟨w.heap.size + 1, 2, none⟩ = some (.int .i64 x.cn) := (HC4.out.cell 2).trans rfl
  have t35 : w4.cell? ⟨w.heap.size + 1, 35, none⟩ = some (.int .i64 x.high) := HC4.out.chg_35 x.len
  have HN : Hid (Calls Tryd.prog 12 #[.pointer (some ⟨a, 0, none⟩), .slice (some ⟨w4.heap.size, 0, none⟩) 4 4] (w4.alloc (.cells #[.int .i64 x.ck, .int .i64 x.cid, .int .i64 x.cn, .int .i64 x.high] 3)) fun e w' => e = .returned (.tuple #[]) ∧ Wr w' base a (b2 ++ [x.ck, x.cid, x.cn, x.high].flatMap numBytes) ∧ WF a w4 w') :=
    wnum_made [x.ck, x.cid, x.cn, x.high] HW4.out (by have := HB2l.out; simp only [List.length_cons, List.length_nil]; omega)
  have HB3l : Hid ((b2 ++ [x.ck, x.cid, x.cn, x.high].flatMap numBytes).length ≤ 8796093022240) := Lib.hid (by have := HB2l.out; rw [List.length_append, nums_len]; simp only [List.length_cons, List.length_nil]; omega)
  generalize hb3 : b2 ++ [x.ck, x.cid, x.cn, x.high].flatMap numBytes = b3 at *
  have HE3 := Lib.hid hb3
  clear hb3
  go_upto_region 5 with (go_at_call 12; (with_reducible refine (HN.out).mono ?_); rintro e w5 ⟨rfl, hw, hf⟩; have HC5 := Lib.hid (hf.box HW4.out HC4.out (by decide) (by decide)); have HW5 := Lib.hid hw; have HA5 := Lib.hid (HA4.out.trans hf); clear hw hf)
  clear t0 t1 t2 t35 HN HC4 HW4 HA4
  have ld := range_load (HC5.out.chg_3) x.len
  have hbs := build_one x.root x.len w5
  have HN := Lib.hid (wdig_made x.len HW5.out (by have := HB3l.out; omega))
  have HEB : Hid (bs ++ reqB x = b3 ++ x.root) := Lib.hid (by rw [HS.out, ← HE3.out, ← HE2.out, ← HE1.out]; simp only [List.append_assoc])
  generalize x.root = r at *
  clear HS HE1 HE2 HE3
  go_wp2_with (go_at_call 14; (with_reducible refine (HN.out).mono ?_); rintro e w6 ⟨rfl, hw, hf⟩; have HW6 := Lib.hid hw; have HA6 := Lib.hid (HA5.out.trans hf); clear hw hf)
  go_end0
  refine ⟨rfl, ?_, HA6.out⟩
  rw [HEB.out]
  exact HW6.out

end Go.Proofs.YtoamcdbemhbphaaDoor
