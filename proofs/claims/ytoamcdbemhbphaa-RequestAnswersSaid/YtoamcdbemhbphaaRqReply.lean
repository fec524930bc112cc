/-
  Replies written: request.WriteReply, wapentakeref09.ReplyBytes.
-/
import Derived.Test.YtoamcdbemhbphaaRqText
namespace Go.Proofs.Ytoamcdbemhbphaa
open Go.RowKit

set_option maxRecDepth 100000 in
theorem repB_len (c n k : Int) (vs : List ByteArray) : (repB c n k vs).length = 32 + 4 * vs.length + totT vs := by
  unfold repB
  simp only [List.length_append, numBytes_len, tot_flat]
  omega
set_option maxRecDepth 100000 in
theorem repB_split (c n k : Int) (vs : List ByteArray) : repB c n k vs = [c, n, k, (vs.length : Int)].flatMap numBytes ++ vs.flatMap textBytes := by
  unfold repB
  simp only [List.flatMap_cons, List.flatMap_nil, List.append_nil, List.append_assoc]

set_option maxRecDepth 100000 in
set_option maxHeartbeats 2000000 in
theorem wreply_any (base a : Nat) (bs : List UInt8) (c n k : Int) (A : Option Addr) (vs : List ByteArray) (z : Nat) (w : World) (h : Wr w base a bs) (hbs : bs.length ≤ 1099511627776) (hl : vs.length ≤ 1073741824) (ht : totT vs ≤ 1099511627776) (hA : Sees w base A (vs.map Value.string)) :
    Calls Try.prog 19 #[.pointer (some ⟨a, 0, none⟩), .agg (repV c n k A vs.length z)] w fun e w' => e = .returned (.tuple #[]) ∧ Wr w' base a (bs ++ repB c n k vs) ∧ WF a w w' := by
  have hF1 : Below w.heap.size w (w.alloc (.cells (repV c n k A vs.length z) 51)) := (Below.refl _ _).alloc (Nat.le_refl _) _
  have HB1 : Hid (Box (w.alloc (.cells (repV c n k A vs.length z) 51)) w.heap.size 51 (repV c n k A vs.length z)) := Box.made _ _ _
  have HW1 := Lib.hid (h.below_size hF1)
  have HA1 := Lib.hid (WF.of_below hF1 h.lt)
  have HSA := Lib.hid (hA.below (hF1.mono h.2.1))
  have HS := Lib.hid (repB_split c n k vs)
  have HTL := Lib.hid (tot_flat vs)
  have HL : Hid (bs.length ≤ 1099511627776 ∧ vs.length ≤ 1073741824 ∧ totT vs ≤ 1099511627776) := ⟨hbs, hl, ht⟩
  have x0 := HB1.out.cell 0
  have x1 := HB1.out.cell 1
  have x2 := HB1.out.cell 2
  have x3 := HB1.out.cell 3
  simp only [List.getElem?_toArray, List.getElem?_cons_zero, List.getElem?_cons_succ] at x0 x1 x2 x3
  clear hF1 h hbs hl ht hA
  go_enter Try.func19, Try.ntmps19
  go_upto_region 1 with fail
  change Code.wp _ _ _ _ (w.alloc (.cells (repV c n k A vs.length z) 51))
  generalize w.alloc (.cells (repV c n k A vs.length z) 51) = w1 at *
  have HN : Hid (Calls Try.prog 35 #[.pointer (some ⟨a, 0, none⟩), .slice (some ⟨w1.heap.size, 0, none⟩) 4 4] (w1.alloc (.cells #[.int .i64 c, .int .i64 n, .int .i64 k, .int .i64 (vs.length : Int)] 3)) fun e w' => e = .returned (.tuple #[]) ∧ Wr w' base a (bs ++ [c, n, k, (vs.length : Int)].flatMap numBytes) ∧ WF a w1 w') :=
    wnum_made [c, n, k, (vs.length : Int)] HW1.out (by have := HL.out; simp only [List.length_cons, List.length_nil]; omega)
  have HB1l : Hid ((bs ++ [c, n, k, (vs.length : Int)].flatMap numBytes).length = bs.length + 32) := Lib.hid (by rw [List.length_append, nums_len]; rfl)
  generalize hb1 : bs ++ [c, n, k, (vs.length : Int)].flatMap numBytes = b1 at *
  have HE1 := Lib.hid hb1
  clear hb1
  go_upto_region 2 with (go_at_call 35; (with_reducible refine (HN.out).mono ?_); rintro e w3 ⟨rfl, hw, hf⟩; have HB3 := Lib.hid (hf.box HW1.out HB1.out (by decide) (by decide)); have HSA3 := Lib.hid (HSA.out.below (hf.below HW1.out)); have HW3 := Lib.hid hw; have HA3 := Lib.hid (HA1.out.trans hf); clear hw hf)
  clear x0 x1 x2 x3 HN HB1 HW1 HA1 HSA
  have x3 := HB3.out.cell 3
  simp only [List.getElem?_toArray, List.getElem?_cons_zero, List.getElem?_cons_succ] at x3
  have HN := Lib.hid (wtext_any base a A vs z b1 w3 HW3.out (Src.of_sees HW3.out HSA3.out) (by have := HL.out; have := HB1l.out; have := HTL.out; omega) (by have := HL.out; omega))
  have HEB : Hid (bs ++ repB c n k vs = b1 ++ vs.flatMap textBytes) := Lib.hid (by rw [HS.out, ← HE1.out, List.append_assoc])
  clear HS HE1
  go_wp2_with (go_at_call 36; (with_reducible refine (HN.out).mono ?_); rintro e w6 ⟨rfl, hw, hf⟩; have HW6 := Lib.hid hw; have HA6 := Lib.hid (HA3.out.trans hf); clear hw hf)
  go_end0
  refine ⟨rfl, ?_, HA6.out⟩
  rw [HEB.out]
  exact HW6.out

set_option maxRecDepth 100000 in
theorem flat_take_text (vs : List ByteArray) (j : Nat) (h : j < vs.length) : (vs.take (j + 1)).flatMap textBytes = (vs.take j).flatMap textBytes ++ textBytes vs[j] := by
  rw [take_snoc' vs j h, List.flatMap_append]
  simp

set_option maxRecDepth 100000 in
set_option maxHeartbeats 2000000 in
theorem repbytes_any (c n k : Int) (hc : R64 c) (hn : R64 n) (hk : R64 k) (A : Option Addr) (vs : List ByteArray) (z : Nat) (hl : vs.length ≤ 1073741824) (ht : totT vs ≤ 1099511627776) (w : World) (hA : Sees w w.heap.size A (vs.map Value.string)) :
    Calls Try.prog 20 #[.agg (repV c n k A vs.length z)] w fun e w' => e = .returned (str (repB c n k vs)) ∧ Below w.heap.size w w' := by
  have HB1 : Hid (Box (w.alloc (.cells (repV c n k A vs.length z) 51)) w.heap.size 51 (repV c n k A vs.length z)) := Box.made _ _ _
  have HF : Hid (Below w.heap.size w (w.alloc (.cells (repV c n k A vs.length z) 51))) := (Below.refl _ _).alloc (Nat.le_refl _) _
  have HA := Lib.hid (hA.below HF.out)
  have HL : Hid (vs.length ≤ 1073741824 ∧ totT vs ≤ 1099511627776) := ⟨hl, ht⟩
  have HI : Hid (∀ m ∈ [c, n, k, (vs.length : Int)], R64 m) := Lib.hid (by
    intro m hm
    simp only [List.mem_cons, List.not_mem_nil, or_false] at hm
    rcases hm with rfl | rfl | rfl | rfl
    · exact hc
    · exact hn
    · exact hk
    · unfold R64; omega)
  have HS := Lib.hid (repB_split c n k vs)
  have HTL := Lib.hid (tot_flat vs)
  clear hA hl ht hc hn hk
  have x0 := HB1.out.cell 0
  have x1 := HB1.out.cell 1
  have x2 := HB1.out.cell 2
  have x3 := HB1.out.cell 3
  simp only [List.getElem?_toArray, List.getElem?_cons_zero, List.getElem?_cons_succ] at x0 x1 x2 x3
  go_enter Try.func20, Try.ntmps20
  go_upto_region 1 with fail
  change Code.wp _ _ _ _ (w.alloc (.cells (repV c n k A vs.length z) 51))
  generalize w.alloc (.cells (repV c n k A vs.length z) 51) = w1 at *
  have HN : Hid (Calls Try.prog 38 #[.slice (some ⟨w1.heap.size, 0, none⟩) 4 4] (w1.alloc (.cells #[.int .i64 c, .int .i64 n, .int .i64 k, .int .i64 (vs.length : Int)] 3)) fun e w' => e = .returned (str ([c, n, k, (vs.length : Int)].flatMap numBytes)) ∧ Below w1.heap.size w1 w') := Lib.hid (by
    have hb : Box (w1.alloc (.cells #[.int .i64 c, .int .i64 n, .int .i64 k, .int .i64 (vs.length : Int)] 3)) w1.heap.size 3 #[.int .i64 c, .int .i64 n, .int .i64 k, .int .i64 (vs.length : Int)] := Box.made _ _ _
    have hf : Below w1.heap.size w1 (w1.alloc (.cells #[.int .i64 c, .int .i64 n, .int .i64 k, .int .i64 (vs.length : Int)] 3)) := (Below.refl _ _).alloc (Nat.le_refl _) _
    exact (nums_any [c, n, k, (vs.length : Int)] (some ⟨w1.heap.size, 0, none⟩) 4 _ HI.out (by simp) (Sees.of_box hb hb.lt)).mono fun e w' ⟨he, hb⟩ => ⟨he, hf.trans (hb.mono hf.size)⟩)
  have HDL : Hid (([c, n, k, (vs.length : Int)].flatMap numBytes).length = 32) := Lib.hid (by rw [nums_len]; rfl)
  generalize [c, n, k, (vs.length : Int)].flatMap numBytes = hd at *
  clear HI
  go_upto_region 2 with (go_at_call 38; (with_reducible refine (HN.out).mono ?_); rintro e w2 ⟨rfl, hb⟩; have HF2 := Lib.hid (HF.out.trans (hb.mono HF.out.size)); have HB2 := Lib.hid (HB1.out.below hb HB1.out.lt); have HA2 := Lib.hid (HA.out.below (hb.mono HF.out.size)); clear hb)
  clear x0 x1 x2 x3 HN HB1 HF HA
  have x3 := HB2.out.cell 3
  simp only [List.getElem?_toArray, List.getElem?_cons_zero, List.getElem?_cons_succ] at x3
  go_upto_region 3 with fail
  clear x3 HB2
  go_loopw [3, 5, 20] (fun s _ i wr => ∃ (j : Nat) (S : ByteArray), j ≤ vs.length ∧ s = .string S ∧ Hid (S = ⟨(hd ++ (vs.take j).flatMap textBytes).toArray⟩) ∧ i = .int .i64 (j : Int) ∧ Hid (Below w2.heap.size w2 wr)) (fun _ _ i _ => vs.length - (intOf i).toNat)
  case atStart => exact ⟨0, _, Nat.zero_le _, rfl, Lib.hid (by simp), rfl, Lib.hid (Below.refl _ _)⟩
  case round =>
    obtain ⟨j, S, hj, rfl, HQ, rfl, HF⟩ := hrel
    by_cases hlt : j < vs.length
    · obtain ⟨g, o, rfl, _, hcell⟩ := (HA2.out.below (HF.out.mono HF2.out.size)).at_ (k := j) (by simpa using hlt)
      simp only [List.getElem_map] at hcell
      have HX := Lib.hid (tot_mem (List.getElem_mem hlt))
      have HFT := Lib.hid (flat_take_text vs j hlt)
      have HTK := Lib.hid (tot_flat (vs.take j))
      have HTO := Lib.hid (tot_le vs j)
      obtain ⟨x, hx⟩ : ∃ x, vs[j] = x := ⟨_, rfl⟩
      rw [hx] at hcell HX HFT
      have HC := Lib.hid (reftext_any9 x (by have := HX.out; have := HL.out; omega) wr)
      have HL8 : Hid ((textBytes x).length = 4 + x.size) := Lib.hid (textBytes_len x)
      have HQ2 : Hid (S ++ ⟨(textBytes x).toArray⟩ = ⟨(hd ++ (vs.take (j + 1)).flatMap textBytes).toArray⟩) := Lib.hid (by
        rw [HQ.out, bytes_cat, HFT.out, List.append_assoc])
      have hz1 : S.size ≤ 4398046511104 := by
        rw [HQ.out, mk_size, List.length_append, HDL.out, HTK.out, List.length_take]
        have := HL.out
        have := HTO.out
        omega
      have hz2 : (ByteArray.mk (textBytes x).toArray).size ≤ 4398046511104 := by rw [mk_size, HL8.out]; have := HX.out; have := HL.out; omega
      have wk : IntKind.i64.wrap ((j : Int) + 1) = ((j + 1 : Nat) : Int) := by
        rw [IntKind.wrap_i64]
        have := HL.out
        omega
      have HLT := Lib.hid hlt
      generalize textBytes x = nb at *
      clear hx HL8 HQ HFT HTK HTO HX
      go_wp2_with (go_at_call 39; (with_reducible refine (HC.out).mono ?_); rintro e w4 ⟨rfl, hB⟩; have HB := Lib.hid hB; clear hB)
      go_roundw
      case rel => exact ⟨j + 1, _, HLT.out, rfl, HQ2, by go_num, Lib.hid (HF.out.trans (HB.out.mono HF.out.size))⟩
      case measure => have := HLT.out; simp [intOf]; omega
    · go_wp2
      go_ret
      have hq := HQ.out
      rw [List.take_of_length_le (by omega), ← HS.out] at hq
      exact ⟨ret_val (congrArg Value.string hq), HF2.out.trans (HF.out.mono HF2.out.size)⟩

end Go.Proofs.Ytoamcdbemhbphaa
