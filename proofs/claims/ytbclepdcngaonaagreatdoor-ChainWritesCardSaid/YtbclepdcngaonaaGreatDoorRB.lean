/-
  Requests and replies written: request.Write, request.WriteReply.
  Texts and numbers as the document writes them (wapentakeref01.Text, wapentakeref09.nums); lists of texts compared (slices.Equal, wapentakeref09.Texts); how much texts are (wapentakelaw09.large).
  Requests read: request.readWhose, request.readChange, request.Read.
-/
import Derived.Test.YtbclepdcngaonaaGreatDoorRA
import Derived.Test.YtbclepdcngaonaaGreatDoorWr
import Derived.Test.YtbclepdcngaonaaGreatDoorOC
import Derived.Test.YtbclepdcngaonaaGreatDoorOB
import Derived.Test.YtbclepdcngaonaaGreatDoorTG
import Derived.Test.YtbclepdcngaonaaGreatDoorRd
namespace Go.Proofs.YtbclepdcngaonaaGreatDoor
open Go.RowKit

/-! ### What is written lies in a block of its own, just laid -/
set_option maxRecDepth 100000 in
theorem wnum_made {base a : Nat} {bs : List UInt8} (ns : List Int) {W : World} (h : Wr W base a bs) (hl : bs.length + 8 * ns.length ≤ 70368744177664) :
    Calls Tryz.prog 62 #[.pointer (some ⟨a, 0, none⟩), .slice (some ⟨W.heap.size, 0, none⟩) ns.length ns.length] (W.alloc (.cells (ns.map (Value.int .i64)).toArray 3)) fun e w' => e = .returned (.tuple #[]) ∧ Wr w' base a (bs ++ ns.flatMap numBytes) ∧ WF a W w' := by
  have hF : Below W.heap.size W (W.alloc (.cells (ns.map (Value.int .i64)).toArray 3)) := (Below.refl _ _).alloc (Nat.le_refl _) _
  have hb : Box (W.alloc (.cells (ns.map (Value.int .i64)).toArray 3)) W.heap.size 3 (ns.map (Value.int .i64)).toArray := Box.made _ _ _
  have h1 := h.below_size hF
  have hs := Src.of_box h1 hb (by decide) (by decide)
  exact (wnum_any base a _ ns ns.length bs _ h1 hs hl).mono fun e w' ⟨he, hw, hf⟩ => ⟨he, hw, (WF.of_below hF h.lt).trans hf⟩
set_option maxRecDepth 100000 in
theorem wtext_made {base a : Nat} {bs : List UInt8} (ss : List ByteArray) {W : World} (h : Wr W base a bs) (hl : bs.length + (ss.flatMap textBytes).length ≤ 70368744177664) (hn : ss.length ≤ 70368744177664) :
    Calls Tryz.prog 101 #[.pointer (some ⟨a, 0, none⟩), .slice (some ⟨W.heap.size, 0, none⟩) ss.length ss.length] (W.alloc (.cells (ss.map Value.string).toArray 9)) fun e w' => e = .returned (.tuple #[]) ∧ Wr w' base a (bs ++ ss.flatMap textBytes) ∧ WF a W w' := by
  have hF : Below W.heap.size W (W.alloc (.cells (ss.map Value.string).toArray 9)) := (Below.refl _ _).alloc (Nat.le_refl _) _
  have hb : Box (W.alloc (.cells (ss.map Value.string).toArray 9)) W.heap.size 9 (ss.map Value.string).toArray := Box.made _ _ _
  have h1 := h.below_size hF
  have hs := Src.of_box h1 hb (by decide) (by decide)
  exact (wtext_any base a _ ss ss.length bs _ h1 hs hl hn).mono fun e w' ⟨he, hw, hf⟩ => ⟨he, hw, (WF.of_below hF h.lt).trans hf⟩
set_option maxRecDepth 100000 in
theorem wdig_made {base a : Nat} {bs : List UInt8} {d : List UInt8} (hd : d.length = 32) {W : World} (h : Wr W base a bs) (hl : bs.length + 32 ≤ 70368744177664) :
    Calls Tryz.prog 64 #[.pointer (some ⟨a, 0, none⟩), .slice (some ⟨W.heap.size, 0, none⟩) 1 1] (W.alloc (.cells (d.map bv).toArray 29)) fun e w' => e = .returned (.tuple #[]) ∧ Wr w' base a (bs ++ d) ∧ WF a W w' := by
  have hF : Below W.heap.size W (W.alloc (.cells (d.map bv).toArray 29)) := (Below.refl _ _).alloc (Nat.le_refl _) _
  have hb : Box (W.alloc (.cells (d.map bv).toArray 29)) W.heap.size 29 (d.map bv).toArray := Box.made _ _ _
  have h1 := h.below_size hF
  have e : ([d] : List (List UInt8)).flatMap id = d := by simp
  have hs : Src (W.alloc (.cells (d.map bv).toArray 29)) a (some ⟨W.heap.size, 0, none⟩) ((([d] : List (List UInt8)).flatMap id).map bv) := by
    rw [e]
    exact Src.of_box h1 hb (by decide) (by decide)
  have hc := wdigest_any base a _ [d] (fun x hx => by obtain rfl := List.mem_singleton.1 hx; exact hd) 1 bs _ h1 hs hl
  rw [e] at hc
  exact hc.mono fun e w' ⟨he, hw, hf⟩ => ⟨he, hw, (WF.of_below hF h.lt).trans hf⟩

set_option maxRecDepth 100000 in
theorem laid_chg (w : World) (k i n : Int) {r : List UInt8} (hr : r.length = 32) (hh : Int) : ∃ w', (stChg (.pointer (some ⟨w.heap.size, 0, none⟩)) (.agg (chgL k i n r hh).toArray)).run Tryz.prog (w.alloc (.cells zchgV 96)) = .ok () w' ∧ Box w' w.heap.size 96 (chgL k i n r hh).toArray ∧ Below w.heap.size w w' := by
  obtain ⟨w', h1, h2, h3⟩ := (Box.made w 96 zchgV).st_chg rfl k i n hr hh
  exact ⟨w', h1, h2, ((Below.refl _ _).alloc (Nat.le_refl _) _).trans (below_only h3 (Nat.le_refl _) (by simp))⟩
set_option maxRecDepth 100000 in
theorem reqB_split (x : ReqX) : reqB x = ((([x.client, x.num, x.kind].flatMap numBytes ++ [x.key, x.val, x.old].flatMap textBytes) ++ [x.ck, x.cid, x.cn, x.high].flatMap numBytes) ++ x.root) := by
  unfold reqB
  simp only [List.flatMap_cons, List.flatMap_nil, List.append_nil, List.append_assoc]

attribute [local go_sem ↓] ldDigest_def stDigest_def bsAll_def ldChg_def stChg_def

set_option maxRecDepth 100000 in
set_option maxHeartbeats 2000000 in
theorem write_any9 (base a : Nat) (bs : List UInt8) (x : ReqX) (w : World) (h : Wr w base a bs) (hbs : bs.length ≤ 1099511627776) (hk : x.key.size ≤ 1099511627776) (hv : x.val.size ≤ 1099511627776) (ho : x.old.size ≤ 1099511627776) :
    Calls Tryz.prog 65 #[.pointer (some ⟨a, 0, none⟩), .agg x.cells.toArray] w fun e w' => e = .returned (.tuple #[]) ∧ Wr w' base a (bs ++ reqB x) ∧ WF a w w' := by
  have hF1 : Below w.heap.size w (w.alloc (.cells x.cells.toArray 100)) := (Below.refl _ _).alloc (Nat.le_refl _) _
  have HB1 : Hid (Box (w.alloc (.cells x.cells.toArray 100)) w.heap.size 100 x.cells.toArray) := Box.made _ _ _
  have HW1 := Lib.hid (h.below_size hF1)
  have HA1 := Lib.hid (WF.of_below hF1 h.lt)
  have lc : (ldChg (.pointer (some ⟨w.heap.size, 6, none⟩))).run Tryz.prog (w.alloc (.cells x.cells.toArray 100)) = .ok (.agg (chgL x.ck x.cid x.cn x.root x.high).toArray) (w.alloc (.cells x.cells.toArray 100)) :=
    run_loadAt_mid (P := Tryz.prog) _ w.heap.size 6 96 (chgL x.ck x.cid x.cn x.root x.high) _ HB1.out.rq_chg Tryz.underlying96 rfl (chg_list x.len _ _ _ _)
  obtain ⟨w2, hst, hb2, hf2⟩ := laid_chg (w.alloc (.cells x.cells.toArray 100)) x.ck x.cid x.cn x.len x.high
  have HW2 := Lib.hid (HW1.out.below_size hf2)
  have HA2 := Lib.hid (HA1.out.trans (WF.of_below hf2 HW1.out.lt))
  have HB2 := Lib.hid (HB1.out.below hf2 HB1.out.lt)
  have HC2 := Lib.hid hb2
  have HS := Lib.hid (reqB_split x)
  have HL : Hid (bs.length ≤ 1099511627776 ∧ x.key.size ≤ 1099511627776 ∧ x.val.size ≤ 1099511627776 ∧ x.old.size ≤ 1099511627776) := ⟨hbs, hk, hv, ho⟩
  have HR := Lib.hid x.len
  have c0 := HB2.out.rq_cell (j := 0) rfl
  have c1 := HB2.out.rq_cell (j := 1) rfl
  have c2 := HB2.out.rq_cell (j := 2) rfl
  clear hF1 h hbs hk hv ho hb2 hf2 HW1 HA1 HB1
  obtain ⟨g1, hg1⟩ : ∃ g1, (w.alloc (.cells x.cells.toArray 100)).heap.size = g1 := ⟨_, rfl⟩
  rw [hg1] at hst HC2
  have HG : Hid (g1 = w.heap.size + 1) := Lib.hid (by rw [← hg1]; simp)
  clear hg1
  obtain rfl : g1 = w.heap.size + 1 := HG.out
  have t3 := HB2.out.rq_cell (j := 3) rfl
  have t4 := HB2.out.rq_cell (j := 4) rfl
  have t5 := HB2.out.rq_cell (j := 5) rfl
  have HN : Hid (Calls Tryz.prog 62 #[.pointer (some ⟨a, 0, none⟩), .slice (some ⟨w2.heap.size, 0, none⟩) 3 3] (w2.alloc (.cells #[.int .i64 x.client, .int .i64 x.num, .int .i64 x.kind] 3)) fun e w' => e = .returned (.tuple #[]) ∧ Wr w' base a (bs ++ [x.client, x.num, x.kind].flatMap numBytes) ∧ WF a w2 w') :=
    wnum_made [x.client, x.num, x.kind] HW2.out (by have := HL.out; simp only [List.length_cons, List.length_nil]; omega)
  have HB1l : Hid ((bs ++ [x.client, x.num, x.kind].flatMap numBytes).length = bs.length + 24) := Lib.hid (by rw [List.length_append, nums_len]; rfl)
  generalize hb1 : bs ++ [x.client, x.num, x.kind].flatMap numBytes = b1 at *
  have HE1 := Lib.hid hb1
  clear hb1
  go_enter Tryz.func65, Tryz.ntmps65
  go_upto_region 2 with fail
  clear lc hst
  go_upto_region 3 with (go_at_call 62; (with_reducible refine (HN.out).mono ?_); rintro e w3 ⟨rfl, hw, hf⟩; have HB3 := Lib.hid (hf.box HW2.out HB2.out (by decide) (by decide)); have HC3 := Lib.hid (hf.box HW2.out HC2.out (by decide) (by decide)); have HW3 := Lib.hid hw; have HA3 := Lib.hid (HA2.out.trans hf); clear hw hf)
  clear c0 c1 c2 t3 t4 t5 HN HB2 HC2 HW2 HA2
  have t3 := HB3.out.rq_cell (j := 3) rfl
  have t4 := HB3.out.rq_cell (j := 4) rfl
  have t5 := HB3.out.rq_cell (j := 5) rfl
  have HN : Hid (Calls Tryz.prog 101 #[.pointer (some ⟨a, 0, none⟩), .slice (some ⟨w3.heap.size, 0, none⟩) 3 3] (w3.alloc (.cells #[.string x.key, .string x.val, .string x.old] 9)) fun e w' => e = .returned (.tuple #[]) ∧ Wr w' base a (b1 ++ [x.key, x.val, x.old].flatMap textBytes) ∧ WF a w3 w') :=
    wtext_made [x.key, x.val, x.old] HW3.out (by have := HL.out; have := HB1l.out; simp only [List.flatMap_cons, List.flatMap_nil, List.length_append, List.length_nil, textBytes_len]; omega) (by simp)
  have HB2l : Hid ((b1 ++ [x.key, x.val, x.old].flatMap textBytes).length ≤ 8796093022208) := Lib.hid (by have := HL.out; have := HB1l.out; simp only [List.flatMap_cons, List.flatMap_nil, List.length_append, List.length_nil, textBytes_len]; omega)
  generalize hb2 : b1 ++ [x.key, x.val, x.old].flatMap textBytes = b2 at *
  have HE2 := Lib.hid hb2
  clear hb2
  go_upto_region 4 with (go_at_call 101; (with_reducible refine (HN.out).mono ?_); rintro e w4 ⟨rfl, hw, hf⟩; have HC4 := Lib.hid (hf.box HW3.out HC3.out (by decide) (by decide)); have HW4 := Lib.hid hw; have HA4 := Lib.hid (HA3.out.trans hf); clear hw hf)
  clear t3 t4 t5 HN HB3 HC3 HW3 HA3
  have t0 : w4.cell? ⟨w.heap.size + 1, 0, none⟩ = some (.int .i64 x.ck) := (HC4.out.cell 0).trans rfl
  have t1 : w4.cell? ⟨w.heap.size + 1, 1, none⟩ = some (.int .i64 x.cid) := (HC4.out.cell 1).trans rfl
  have t2 : w4.cell? ⟨w.heap.size + 1, 2, none⟩ = some (.int .i64 x.cn) := (HC4.out.cell 2).trans rfl
  have t35 : w4.cell? ⟨w.heap.size + 1, 35, none⟩ = some (.int .i64 x.high) := HC4.out.chg_35 x.len
  have HN : Hid (Calls Tryz.prog 62 #[.pointer (some ⟨a, 0, none⟩), .slice (some ⟨w4.heap.size, 0, none⟩) 4 4] (w4.alloc (.cells #[.int .i64 x.ck, .int .i64 x.cid, .int .i64 x.cn, .int .i64 x.high] 3)) fun e w' => e = .returned (.tuple #[]) ∧ Wr w' base a (b2 ++ [x.ck, x.cid, x.cn, x.high].flatMap numBytes) ∧ WF a w4 w') :=
    wnum_made [x.ck, x.cid, x.cn, x.high] HW4.out (by have := HB2l.out; simp only [List.length_cons, List.length_nil]; omega)
  have HB3l : Hid ((b2 ++ [x.ck, x.cid, x.cn, x.high].flatMap numBytes).length ≤ 8796093022240) := Lib.hid (by have := HB2l.out; rw [List.length_append, nums_len]; simp only [List.length_cons, List.length_nil]; omega)
  generalize hb3 : b2 ++ [x.ck, x.cid, x.cn, x.high].flatMap numBytes = b3 at *
  have HE3 := Lib.hid hb3
  clear hb3
  go_upto_region 5 with (go_at_call 62; (with_reducible refine (HN.out).mono ?_); rintro e w5 ⟨rfl, hw, hf⟩; have HC5 := Lib.hid (hf.box HW4.out HC4.out (by decide) (by decide)); have HW5 := Lib.hid hw; have HA5 := Lib.hid (HA4.out.trans hf); clear hw hf)
  clear t0 t1 t2 t35 HN HC4 HW4 HA4
  have ld := range_load (HC5.out.chg_3) x.len
  have hbs := build_one x.root x.len w5
  have HN := Lib.hid (wdig_made x.len HW5.out (by have := HB3l.out; omega))
  have HEB : Hid (bs ++ reqB x = b3 ++ x.root) := Lib.hid (by rw [HS.out, ← HE3.out, ← HE2.out, ← HE1.out]; simp only [List.append_assoc])
  generalize x.root = r at *
  clear HS HE1 HE2 HE3
  go_wp2_with (go_at_call 64; (with_reducible refine (HN.out).mono ?_); rintro e w6 ⟨rfl, hw, hf⟩; have HW6 := Lib.hid hw; have HA6 := Lib.hid (HA5.out.trans hf); clear hw hf)
  go_end0
  refine ⟨rfl, ?_, HA6.out⟩
  rw [HEB.out]
  exact HW6.out

end Go.Proofs.YtbclepdcngaonaaGreatDoor

namespace Go.Proofs.YtbclepdcngaonaaGreatDoor
open Go.RowKit

set_option maxRecDepth 100000 in
theorem num_tail9 (s : ByteArray) (hs : s.size ≤ 140737488351232) : (numBytes (s.size : Int)).drop 4 = beBytes 4 s.size := by
  unfold numBytes
  have e : ((s.size : Int) % 18446744073709551616).toNat = s.size := by omega
  rw [e]
  rfl
set_option maxRecDepth 100000 in
theorem text_join9 (s : ByteArray) (hs : s.size ≤ 140737488351232) : (ByteArray.mk (numBytes (s.size : Int)).toArray).extract 4 8 ++ s = ByteArray.mk (textBytes s).toArray := by
  rw [ByteArray.extract_mk, num_tail9 s hs, List.take_of_length_le (by rw [beBytes_length]; decide)]
  obtain ⟨⟨l⟩⟩ := s
  rw [ByteArray.mk_append_mk]
  rfl
set_option maxRecDepth 100000 in
set_option maxHeartbeats 800000 in
theorem reftext_any9 (s : ByteArray) (hs : s.size ≤ 140737488351232) (w : World) :
    Calls Tryz.prog 105 #[.string s] w fun e w' => e = .returned (str (textBytes s)) ∧ Below w.heap.size w w' := by
  have HN := Lib.hid (refnum_any (s.size : Int) (by omega) (by omega) w)
  have hj := Lib.hid (text_join9 s hs)
  have hl := numBytes_len (s.size : Int)
  generalize numBytes (s.size : Int) = nb at *
  have HL := Lib.hid hl
  have hsz : (ByteArray.mk nb.toArray).size = 8 := by show nb.toArray.size = 8; rw [List.size_toArray, hl]
  clear hl
  go_enter Tryz.func105, Tryz.ntmps105
  go_wp2_with (go_at_call 66; (with_reducible refine (HN.out).mono ?_); rintro e w1 ⟨rfl, hB⟩; have HB := Lib.hid hB; clear hB)
  go_ret
  exact ⟨ret_val (by show Value.string _ = _; rw [hj.out]), HB.out⟩

set_option maxRecDepth 100000 in
theorem mk_size (l : List UInt8) : (ByteArray.mk l.toArray).size = l.length := by show l.toArray.size = _; rw [List.size_toArray]

set_option maxRecDepth 100000 in
set_option maxHeartbeats 800000 in
theorem nums_any (ns : List Int) (A : Option Addr) (c : Nat) (w : World) (hI : ∀ n ∈ ns, R64 n) (hn : ns.length ≤ 4096) (hS : Sees w w.heap.size A (ns.map (Value.int .i64))) :
    Calls Tryz.prog 104 #[.slice A ns.length c] w fun e w' => e = .returned (str (ns.flatMap numBytes)) ∧ Below w.heap.size w w' := by
  have HS := Lib.hid hS
  have HI := Lib.hid hI
  have HN := Lib.hid hn
  clear hS hI hn
  go_enter Tryz.func104, Tryz.ntmps104
  go_wp2
  go_loopw [3, 5, 8] (fun s _ i wr => ∃ (k : Nat) (S : ByteArray), k ≤ ns.length ∧ s = .string S ∧ Hid (S = ⟨((ns.take k).flatMap numBytes).toArray⟩) ∧ i = .int .i64 (k : Int) ∧ Hid (Below w.heap.size w wr)) (fun _ _ i _ => ns.length - (intOf i).toNat)
  case atStart => exact ⟨0, ⟨#[]⟩, Nat.zero_le _, rfl, Lib.hid rfl, rfl, Lib.hid (Below.refl _ _)⟩
  case round =>
    obtain ⟨k, S, hk, rfl, HQ, rfl, HF⟩ := hrel
    by_cases hlt : k < ns.length
    · obtain ⟨g, o, rfl, _, hcell⟩ := (HS.out.below HF.out).at_ (k := k) (by simpa using hlt)
      simp only [List.getElem_map] at hcell
      have HX := HI.out _ (List.getElem_mem hlt)
      obtain ⟨x, hx⟩ : ∃ x, x = ns[k] := ⟨_, rfl⟩
      rw [← hx] at hcell HX
      have HC := Lib.hid (refnum_any x HX.1 HX.2 wr)
      have HL8 : Hid ((numBytes x).length = 8) := Lib.hid (numBytes_len x)
      have HQ2 : Hid (S ++ ⟨(numBytes x).toArray⟩ = ⟨((ns.take (k + 1)).flatMap numBytes).toArray⟩) := Lib.hid (by
        rw [HQ.out, bytes_cat, take_snoc' ns k hlt, List.flatMap_append, hx]
        simp)
      have hz1 : S.size ≤ 32768 := by
        rw [HQ.out, mk_size, nums_len, List.length_take]
        have := HN.out
        omega
      have hz2 : (ByteArray.mk (numBytes x).toArray).size ≤ 8 := by rw [mk_size, HL8.out]; exact Nat.le_refl _
      have wk : IntKind.i64.wrap ((k : Int) + 1) = ((k + 1 : Nat) : Int) := by
        rw [IntKind.wrap_i64]
        have := HN.out
        omega
      have HLT := Lib.hid hlt
      generalize numBytes x = nb at *
      clear hx HX HL8 HQ
      go_wp2_with (go_at_call 66; (with_reducible refine (HC.out).mono ?_); rintro e w1 ⟨rfl, hB⟩; have HB := Lib.hid hB; clear hB)
      go_roundw
      case rel => exact ⟨k + 1, _, HLT.out, rfl, HQ2, by go_num, Lib.hid (HF.out.trans (HB.out.mono HF.out.size))⟩
      case measure => have := HLT.out; simp [intOf]; omega
    · go_wp2
      go_ret
      have hq := HQ.out
      rw [List.take_of_length_le (by omega)] at hq
      exact ⟨ret_val (congrArg Value.string hq), HF.out⟩

/-! ### Lists of texts compared -/
/-! ### Replies -/
end Go.Proofs.YtbclepdcngaonaaGreatDoor

namespace Go.Proofs.YtbclepdcngaonaaGreatDoor
open Go.RowKit

/-! ### A block that is filled while a reader is turned -/
structure QW (R : World → Nat → List UInt8 → Bool → Prop) (T : TypeId) (Z : Array Value) (w0 : World) (a r b : Nat) (cs : Array Value) (s : List UInt8 × Bool) (w : World) : Prop where
  out : Box w r T Z
  box : Box w b T cs
  rd : R w a s.1 s.2
  far : w0.grownBy w (some a)
  ha : a < w0.heap.size
  hr : w0.heap.size ≤ r
  hb : w0.heap.size ≤ b
  ne : r ≠ b
set_option maxRecDepth 100000 in
theorem QW.turn {R : World → Nat → List UInt8 → Bool → Prop} {T : TypeId} {Z : Array Value} {w0 w w' : World} {a r b : Nat} {cs : Array Value} {s s' : List UInt8 × Bool} (h : QW R T Z w0 a r b cs s w) (hg : w.grownBy w' (some a)) (hr : R w' a s'.1 s'.2) : QW R T Z w0 a r b cs s' w' :=
  ⟨h.out.grown hg (by have := h.ha; have := h.hr; intro e; cases e; omega), h.box.grown hg (by have := h.ha; have := h.hb; intro e; cases e; omega), hr, only_trans h.far hg, h.ha, h.hr, h.hb, h.ne⟩
set_option maxRecDepth 100000 in
theorem QW.put {R : World → Nat → List UInt8 → Bool → Prop} {T : TypeId} {Z : Array Value} {w0 w w' : World} {a r b : Nat} {cs cs' : Array Value} {s : List UInt8 × Bool} (h : QW R T Z w0 a r b cs s w)
    (hR : ∀ {w w' : World} {a g : Nat} {l : List UInt8} {b : Bool}, R w a l b → w.grownBy w' (some g) → a < g → R w' a l b) (hb : Box w' b T cs') (hg : w.grownBy w' (some b)) : QW R T Z w0 a r b cs' s w' :=
  ⟨h.out.grown hg (by intro e; cases e; exact h.ne rfl), hb, hR h.rd hg (by have := h.ha; have := h.hb; omega), only_new h.far hg h.hb, h.ha, h.hr, h.hb, h.ne⟩
set_option maxRecDepth 100000 in
theorem rd_put {w w' : World} {a g : Nat} {l : List UInt8} {b : Bool} (h : Rd w a l b) (hg : w.grownBy w' (some g)) (hl : a < g) : Rd w' a l b := h.only hg hl

set_option maxRecDepth 100000 in
theorem rc1_eq (l : List UInt8) (b : Bool) : nuV (rc0 l b).2.1 (rc0 l b).2.2 = rc1 l b := rfl
set_option maxRecDepth 100000 in
theorem rc2_eq (l : List UInt8) (b : Bool) : nuV (rc1 l b).2.1 (rc1 l b).2.2 = rc2 l b := rfl
set_option maxRecDepth 100000 in
theorem rc3_eq (l : List UInt8) (b : Bool) : nuV (rc2 l b).2.1 (rc2 l b).2.2 = rc3 l b := rfl
set_option maxRecDepth 100000 in
theorem rc4_eq (l : List UInt8) (b : Bool) : dgV (rc3 l b).2.1 (rc3 l b).2.2 = rc4 l b := rfl
set_option maxRecDepth 100000 in
theorem pair_eta {α β : Type} (p : α × β) : (p.1, p.2) = p := by cases p; rfl
set_option maxRecDepth 100000 in
theorem rqF_eq (l : List UInt8) (b : Bool) : rqF l b = (rc4 (rq5 l b).2.1 (rq5 l b).2.2).2 := pair_eta _
set_option maxRecDepth 100000 in
theorem rq0_eq (l : List UInt8) (b : Bool) : inV 1 64 l b = rq0 l b := rfl
set_option maxRecDepth 100000 in
theorem rc0_eq (l : List UInt8) (b : Bool) : nuV l b = rc0 l b := rfl
set_option maxRecDepth 100000 in
theorem rq1_eq (l : List UInt8) (b : Bool) : inV 1 1099511627776 (rq0 l b).2.1 (rq0 l b).2.2 = rq1 l b := rfl
set_option maxRecDepth 100000 in
theorem rq2_eq (l : List UInt8) (b : Bool) : inV 1 7 (rq1 l b).2.1 (rq1 l b).2.2 = rq2 l b := rfl
set_option maxRecDepth 100000 in
theorem rq3_eq (l : List UInt8) (b : Bool) : txtV 1024 (rq2 l b).2.1 (rq2 l b).2.2 = rq3 l b := rfl
set_option maxRecDepth 100000 in
theorem rq4_eq (l : List UInt8) (b : Bool) : txtV 1024 (rq3 l b).2.1 (rq3 l b).2.2 = rq4 l b := rfl
set_option maxRecDepth 100000 in
theorem rq5_eq (l : List UInt8) (b : Bool) : txtV 1024 (rq4 l b).2.1 (rq4 l b).2.2 = rq5 l b := rfl
set_option maxRecDepth 100000 in
theorem rqX_good {l : List UInt8} {b : Bool} (h : (rqF l b).2 = false) (hl : (rc4 (rq5 l b).2.1 (rq5 l b).2.2).1.length = 32) : rqX l b = ⟨(rq0 l b).1, (rq1 l b).1, (rq2 l b).1, ⟨(rq3 l b).1.toArray⟩, ⟨(rq4 l b).1.toArray⟩, ⟨(rq5 l b).1.toArray⟩,
    (rc0 (rq5 l b).2.1 (rq5 l b).2.2).1, (rc1 (rq5 l b).2.1 (rq5 l b).2.2).1, (rc2 (rq5 l b).2.1 (rq5 l b).2.2).1, (rc4 (rq5 l b).2.1 (rq5 l b).2.2).1, (rc3 (rq5 l b).2.1 (rq5 l b).2.2).1, hl⟩ := by
  unfold rqX
  rw [if_neg (by rw [h]; simp)]
set_option maxRecDepth 100000 in
theorem rqX_bad {l : List UInt8} {b : Bool} (h : (rqF l b).2 = true) : rqX l b = zreq := by
  unfold rqX
  rw [if_pos h]

/-! ### readWhose -/
set_option maxRecDepth 100000 in
set_option maxHeartbeats 1000000 in
theorem whose_any (a : Nat) (l : List UInt8) (b : Bool) (w : World) (h : Rd w a l b) :
    Calls Tryz.prog 110 #[.pointer (some ⟨a, 0, none⟩)] w fun e w' => e = .returned (.tuple #[.int .i64 (rq0 l b).1, .int .i64 (rq1 l b).1]) ∧ Rd w' a (rq1 l b).2.1 (rq1 l b).2.2 ∧ w.grownBy w' (some a) := by
  have HC : Hid (Calls Tryz.prog 71 #[.pointer (some ⟨a, 0, none⟩), .int .i64 1, .int .i64 64] w fun e w' => e = .returned (.int .i64 (rq0 l b).1) ∧ Rd w' a (rq0 l b).2.1 (rq0 l b).2.2 ∧ w.grownBy w' (some a)) := in_any a 1 64 l b w h
  have e1 := rq1_eq l b
  generalize rq0 l b = r0 at *
  generalize rq1 l b = r1 at *
  have E1 := Lib.hid e1
  clear e1 h
  go_enter Tryz.func110, Tryz.ntmps110
  go_upto_region 2 with (go_at_call 71; (with_reducible refine (HC.out).mono ?_); rintro e w1 ⟨rfl, hr, hg⟩; have HR1 := Lib.hid hr; have HG1 := Lib.hid hg; clear hr hg)
  have hc := in_any a 1 1099511627776 r0.2.1 r0.2.2 w1 HR1.out
  rw [E1.out] at hc
  have HC2 := Lib.hid hc
  clear hc HC
  go_wp2_with (go_at_call 71; (with_reducible refine (HC2.out).mono ?_); rintro e w2 ⟨rfl, hr, hg⟩; have HR2 := Lib.hid hr; have HG2 := Lib.hid (only_trans HG1.out hg); clear hr hg)
  go_ret2
  exact ⟨rfl, HR2.out, HG2.out⟩

/-! ### readChange -/
attribute [local go_sem ↓] ldDigest_def stDigest_def ldChg_def stChg_def ldReq_def stReq_def bdReq_def
set_option maxRecDepth 100000 in
set_option maxHeartbeats 2000000 in
theorem rchg_any (a : Nat) (l : List UInt8) (b : Bool) (w : World) (h : Rd w a l b) :
    Calls Tryz.prog 112 #[.pointer (some ⟨a, 0, none⟩)] w fun e w' => e = .returned (.agg (chgL (rc0 l b).1 (rc1 l b).1 (rc2 l b).1 (rc4 l b).1 (rc3 l b).1).toArray) ∧ Rd w' a (rc4 l b).2.1 (rc4 l b).2.2 ∧ w.grownBy w' (some a) := by
  have HW1 : Hid (QW Rd 96 zchgV w a w.heap.size (w.heap.size + 1) (chgL 0 0 0 zeros 0).toArray (l, b) ((w.alloc (.cells zchgV 96)).alloc (.cells zchgV 96))) :=
    ⟨(Box.made _ _ _).alloc _, Box.made_at (by simp) _ _, (h.alloc _).alloc _, only_trans (World.grownBy_alloc w _ _) (World.grownBy_alloc _ _ _), h.lt, Nat.le_refl _, by omega, by omega⟩
  have HNM : Hid (∀ w' cs (s : List UInt8 × Bool) (r : Int × List UInt8 × Bool), nuV s.1 s.2 = r → QW Rd 96 zchgV w a w.heap.size (w.heap.size + 1) cs s w' → Calls Tryz.prog 107 #[.pointer (some ⟨a, 0, none⟩)] w' fun e w'' => e = .returned (.int .i64 r.1) ∧ QW Rd 96 zchgV w a w.heap.size (w.heap.size + 1) cs r.2 w'') :=
    Lib.hid (fun w' cs s r hr hw => by subst hr; exact (num_any a s.1 s.2 w' hw.rd).mono fun e w'' ⟨he, hr, hg⟩ => ⟨he, hw.turn hg hr⟩)
  have HDG : Hid (∀ w' cs (s : List UInt8 × Bool) (r : List UInt8 × List UInt8 × Bool), dgV s.1 s.2 = r → QW Rd 96 zchgV w a w.heap.size (w.heap.size + 1) cs s w' → Calls Tryz.prog 72 #[.pointer (some ⟨a, 0, none⟩)] w' fun e w'' => e = .returned (.agg (r.1.map bv).toArray) ∧ QW Rd 96 zchgV w a w.heap.size (w.heap.size + 1) cs r.2 w'') :=
    Lib.hid (fun w' cs s r hr hw => by subst hr; exact (digest_any a s.1 s.2 w' hw.rd).mono fun e w'' ⟨he, hr, hg⟩ => ⟨he, hw.turn hg hr⟩)
  have e1 := rc1_eq l b
  have e2 := rc2_eq l b
  have e3 := rc3_eq l b
  have e4 := rc4_eq l b
  have e0 := rc0_eq l b
  have h4 := rc4_len l b
  generalize rc0 l b = r0 at *
  generalize rc1 l b = r1 at *
  generalize rc2 l b = r2 at *
  generalize rc3 l b = r3 at *
  generalize rc4 l b = r4 at *
  have E0 := Lib.hid e0
  have E1 := Lib.hid e1
  have E2 := Lib.hid e2
  have E3 := Lib.hid e3
  have E4 := Lib.hid e4
  have H4 := Lib.hid h4
  clear e0 e1 e2 e3 e4 h4 h
  go_enter Tryz.func112, Tryz.ntmps112
  go_upto_region 2 with fail
  change Code.wp _ _ _ _ ((w.alloc (.cells zchgV 96)).alloc (.cells zchgV 96))
  generalize (w.alloc (.cells zchgV 96)).alloc (.cells zchgV 96) = w1 at *
  have HB : Hid (w.heap.size + 1 = w.heap.size + 1) := Lib.hid rfl
  clear HB
  have HC := Lib.hid (HNM.out w1 _ _ r0 E0.out HW1.out)
  go_upto_region 3 with (go_at_call 107; (with_reducible refine (HC.out).mono ?_); rintro e w2 ⟨rfl, hw⟩; have m0 : w2.cell? ⟨w.heap.size + 1, 0, none⟩ = some (.int .i64 0) := (hw.box.cell 0).trans rfl; have f0 := hw.box.free 0; have HW2 := Lib.hid hw; clear hw)
  have HW3 : Hid (QW Rd 96 zchgV w a w.heap.size (w.heap.size + 1) (chgL r0.1 0 0 zeros 0).toArray r0.2 (w2.setCell ⟨w.heap.size + 1, 0, none⟩ (.int .i64 r0.1))) := Lib.hid (HW2.out.put rd_put (Box.chg_ck HW2.out.box  _) (only_put (only_refl _ _) _ _))
  clear m0 f0 HC HW1 HW2
  generalize w2.setCell ⟨w.heap.size + 1, 0, none⟩ (.int .i64 r0.1) = w3 at *
  have HC := Lib.hid (HNM.out w3 _ _ r1 E1.out HW3.out)
  go_upto_region 4 with (go_at_call 107; (with_reducible refine (HC.out).mono ?_); rintro e w4 ⟨rfl, hw⟩; have m0 : w4.cell? ⟨w.heap.size + 1, 1, none⟩ = some (.int .i64 0) := (hw.box.cell 1).trans rfl; have f0 := hw.box.free 1; have HW4 := Lib.hid hw; clear hw)
  have HW5 : Hid (QW Rd 96 zchgV w a w.heap.size (w.heap.size + 1) (chgL r0.1 r1.1 0 zeros 0).toArray r1.2 (w4.setCell ⟨w.heap.size + 1, 1, none⟩ (.int .i64 r1.1))) := Lib.hid (HW4.out.put rd_put (Box.chg_cid HW4.out.box  _) (only_put (only_refl _ _) _ _))
  clear m0 f0 HC HW3 HW4
  generalize w4.setCell ⟨w.heap.size + 1, 1, none⟩ (.int .i64 r1.1) = w5 at *
  have HC := Lib.hid (HNM.out w5 _ _ r2 E2.out HW5.out)
  go_upto_region 5 with (go_at_call 107; (with_reducible refine (HC.out).mono ?_); rintro e w6 ⟨rfl, hw⟩; have m0 : w6.cell? ⟨w.heap.size + 1, 2, none⟩ = some (.int .i64 0) := (hw.box.cell 2).trans rfl; have f0 := hw.box.free 2; have HW6 := Lib.hid hw; clear hw)
  have HW7 : Hid (QW Rd 96 zchgV w a w.heap.size (w.heap.size + 1) (chgL r0.1 r1.1 r2.1 zeros 0).toArray r2.2 (w6.setCell ⟨w.heap.size + 1, 2, none⟩ (.int .i64 r2.1))) := Lib.hid (HW6.out.put rd_put (Box.chg_cn HW6.out.box  _) (only_put (only_refl _ _) _ _))
  clear m0 f0 HC HW5 HW6
  generalize w6.setCell ⟨w.heap.size + 1, 2, none⟩ (.int .i64 r2.1) = w7 at *
  have HC := Lib.hid (HNM.out w7 _ _ r3 E3.out HW7.out)
  go_upto_region 6 with (go_at_call 107; (with_reducible refine (HC.out).mono ?_); rintro e w8 ⟨rfl, hw⟩; have m0 : w8.cell? ⟨w.heap.size + 1, 35, none⟩ = some (.int .i64 0) := hw.box.chg_35 zeros_len; have f0 := hw.box.free 35; have HW8 := Lib.hid hw; clear hw)
  have HW9 : Hid (QW Rd 96 zchgV w a w.heap.size (w.heap.size + 1) (chgL r0.1 r1.1 r2.1 zeros r3.1).toArray r3.2 (w8.setCell ⟨w.heap.size + 1, 35, none⟩ (.int .i64 r3.1))) := Lib.hid (HW8.out.put rd_put (Box.chg_high HW8.out.box zeros_len _) (only_put (only_refl _ _) _ _))
  clear m0 f0 HC HW7 HW8
  generalize w8.setCell ⟨w.heap.size + 1, 35, none⟩ (.int .i64 r3.1) = w9 at *
  have HC := Lib.hid (HDG.out w9 _ _ r4 E4.out HW9.out)
  go_upto_region 7 with (go_at_call 72; (with_reducible refine (HC.out).mono ?_); rintro e w10 ⟨rfl, hw⟩; obtain ⟨hst, hb, hg⟩ := hw.box.chg_root zeros_len r4.1 H4.out; have HW11 := Lib.hid (hw.put rd_put hb hg); clear hw hb hg)
  clear HC HW9 hst
  generalize w10.setCells (w.heap.size + 1) 3 (r4.1.map bv) = w11 at *
  have lc := ld_chg H4.out HW11.out.box
  obtain ⟨w12, hst, hb, hg⟩ := HW11.out.out.st_chg rfl r0.1 r1.1 r2.1 H4.out r3.1
  have HB12 := Lib.hid hb
  have HR12 := Lib.hid (rd_put HW11.out.rd hg (Nat.lt_of_lt_of_le HW11.out.ha (Nat.le_refl _)))
  have HG12 := Lib.hid (only_new HW11.out.far hg (Nat.le_refl _))
  clear hb hg HW11
  go_wp2
  exact ret_chg rfl rfl rfl H4.out HB12.out ⟨rfl, HR12.out, HG12.out⟩

set_option maxRecDepth 100000 in
set_option maxHeartbeats 4000000 in
theorem read_any9 (a : Nat) (l : List UInt8) (b : Bool) (w : World) (h : Rd w a l b) :
    Calls Tryz.prog 73 #[.pointer (some ⟨a, 0, none⟩)] w fun e w' => e = .returned (.agg (rqX l b).cells.toArray) ∧ Rd w' a (rqF l b).1 (rqF l b).2 ∧ w.grownBy w' (some a) := by
  have HW1 : Hid (QW Rd 100 zreqV w a w.heap.size (w.heap.size + 1) (ReqX.mk 0 0 0 ⟨#[]⟩ ⟨#[]⟩ ⟨#[]⟩ 0 0 0 zeros 0 zeros_len).cells.toArray (l, b) ((w.alloc (.cells zreqV 100)).alloc (.cells zreqV 100))) :=
    ⟨(Box.made _ _ _).alloc _, Box.made_at (by simp) _ _, (h.alloc _).alloc _, only_trans (World.grownBy_alloc w _ _) (World.grownBy_alloc _ _ _), h.lt, Nat.le_refl _, by omega, by omega⟩
  have HIN : Hid (∀ w' cs (lo hi : Int) (s : List UInt8 × Bool) (r : Int × List UInt8 × Bool), inV lo hi s.1 s.2 = r → QW Rd 100 zreqV w a w.heap.size (w.heap.size + 1) cs s w' → Calls Tryz.prog 71 #[.pointer (some ⟨a, 0, none⟩), .int .i64 lo, .int .i64 hi] w' fun e w'' => e = .returned (.int .i64 r.1) ∧ QW Rd 100 zreqV w a w.heap.size (w.heap.size + 1) cs r.2 w'') :=
    Lib.hid (fun w' cs lo hi s r hr hw => by subst hr; exact (in_any a lo hi s.1 s.2 w' hw.rd).mono fun e w'' ⟨he, hr, hg⟩ => ⟨he, hw.turn hg hr⟩)
  have HTX : Hid (∀ w' cs (s : List UInt8 × Bool) (r : List UInt8 × List UInt8 × Bool), txtV 1024 s.1 s.2 = r → QW Rd 100 zreqV w a w.heap.size (w.heap.size + 1) cs s w' → Calls Tryz.prog 111 #[.pointer (some ⟨a, 0, none⟩), .int .i64 1024] w' fun e w'' => e = .returned (.string ⟨r.1.toArray⟩) ∧ QW Rd 100 zreqV w a w.heap.size (w.heap.size + 1) cs r.2 w'') :=
    Lib.hid (fun w' cs s r hr hw => by subst hr; exact (rdtext_any a 1024 s.1 s.2 w' hw.rd).mono fun e w'' ⟨he, hr, hg⟩ => ⟨he, hw.turn hg hr⟩)
  have HGD : Hid (∀ w' cs (s : List UInt8 × Bool), QW Rd 100 zreqV w a w.heap.size (w.heap.size + 1) cs s w' → Calls Tryz.prog 19 #[.pointer (some ⟨a, 0, none⟩)] w' fun e w'' => e = .returned (.bool !s.2) ∧ w' = w'') := Lib.hid (fun w' cs s hw => good_any a s.1 s.2 w' hw.rd)
  have HWH : Hid (∀ w' cs, QW Rd 100 zreqV w a w.heap.size (w.heap.size + 1) cs (l, b) w' → Calls Tryz.prog 110 #[.pointer (some ⟨a, 0, none⟩)] w' fun e w'' => e = .returned (.tuple #[.int .i64 (rq0 l b).1, .int .i64 (rq1 l b).1]) ∧ QW Rd 100 zreqV w a w.heap.size (w.heap.size + 1) cs (rq1 l b).2 w'') := Lib.hid (fun w' cs hw => (whose_any a l b w' hw.rd).mono fun e w'' ⟨he, hr, hg⟩ => ⟨he, hw.turn hg hr⟩)
  have HCH : Hid (∀ w' cs (s : List UInt8 × Bool), QW Rd 100 zreqV w a w.heap.size (w.heap.size + 1) cs s w' → Calls Tryz.prog 112 #[.pointer (some ⟨a, 0, none⟩)] w' fun e w'' => e = .returned (.agg (chgL (rc0 s.1 s.2).1 (rc1 s.1 s.2).1 (rc2 s.1 s.2).1 (rc4 s.1 s.2).1 (rc3 s.1 s.2).1).toArray) ∧ QW Rd 100 zreqV w a w.heap.size (w.heap.size + 1) cs (rc4 s.1 s.2).2 w'') := Lib.hid (fun w' cs s hw => (rchg_any a s.1 s.2 w' hw.rd).mono fun e w'' ⟨he, hr, hg⟩ => ⟨he, hw.turn hg hr⟩)
  have HCH5 := fun w' cs => HCH.out w' cs (rq5 l b).2
  have hxg := rqX_good (l := l) (b := b)
  have hxb := rqX_bad (l := l) (b := b)
  have hF := rqF_eq l b
  have h4 := rc4_len (rq5 l b).2.1 (rq5 l b).2.2
  have e0 := rq0_eq l b
  have e1 := rq1_eq l b
  have e2 := rq2_eq l b
  have e3 := rq3_eq l b
  have e4 := rq4_eq l b
  have e5 := rq5_eq l b
  have d0 := rc0_eq (rq5 l b).2.1 (rq5 l b).2.2
  have d1 := rc1_eq (rq5 l b).2.1 (rq5 l b).2.2
  have d2 := rc2_eq (rq5 l b).2.1 (rq5 l b).2.2
  have d3 := rc3_eq (rq5 l b).2.1 (rq5 l b).2.2
  have d4 := rc4_eq (rq5 l b).2.1 (rq5 l b).2.2
  generalize hr0 : rq0 l b = r0 at *
  generalize hr1 : rq1 l b = r1 at *
  generalize hr2 : rq2 l b = r2 at *
  generalize hr3 : rq3 l b = r3 at *
  generalize hr4 : rq4 l b = r4 at *
  generalize hr5 : rq5 l b = r5 at *
  generalize rc0 r5.2.1 r5.2.2 = s0 at *
  generalize rc1 r5.2.1 r5.2.2 = s1 at *
  generalize rc2 r5.2.1 r5.2.2 = s2 at *
  generalize rc3 r5.2.1 r5.2.2 = s3 at *
  generalize rc4 r5.2.1 r5.2.2 = s4 at *
  have HCC : Hid (∀ w' cs, QW Rd 100 zreqV w a w.heap.size (w.heap.size + 1) cs r5.2 w' → Calls Tryz.prog 112 #[.pointer (some ⟨a, 0, none⟩)] w' fun e w'' => e = .returned (.agg (chgL s0.1 s1.1 s2.1 s4.1 s3.1).toArray) ∧ QW Rd 100 zreqV w a w.heap.size (w.heap.size + 1) cs s4.2 w'') := Lib.hid HCH5
  clear HCH5 HCH
  generalize rqX l b = X at *
  generalize rqF l b = F at *
  have HXG := Lib.hid hxg
  have HXB := Lib.hid hxb
  have HF := Lib.hid hF
  have H4 := Lib.hid h4
  have E0 := Lib.hid e0
  have E1 := Lib.hid e1
  have E2 := Lib.hid e2
  have E3 := Lib.hid e3
  have E4 := Lib.hid e4
  have E5 := Lib.hid e5
  have D0 := Lib.hid d0
  have D1 := Lib.hid d1
  have D2 := Lib.hid d2
  have D3 := Lib.hid d3
  have D4 := Lib.hid d4
  clear hxg hxb hF h4 h e0 hr0 e1 hr1 e2 hr2 e3 hr3 e4 hr4 e5 hr5 d0 d1 d2 d3 d4
  go_enter Tryz.func73, Tryz.ntmps73
  go_upto_region 2 with fail
  change Code.wp _ _ _ _ ((w.alloc (.cells zreqV 100)).alloc (.cells zreqV 100))
  generalize (w.alloc (.cells zreqV 100)).alloc (.cells zreqV 100) = w1 at *
  have HC := Lib.hid (HWH.out w1 _ HW1.out)
  go_upto_region 3 with (go_at_call 110; (with_reducible refine (HC.out).mono ?_); rintro e w2 ⟨rfl, hw⟩; have m0 : w2.cell? ⟨w.heap.size + 1, 0, none⟩ = some (.int .i64 0) := hw.box.rq_cell rfl; have f0 := hw.box.free 0; have m1 : w2.cell? ⟨w.heap.size + 1, 1, none⟩ = some (.int .i64 0) := hw.box.rq_cell rfl; have f1 := hw.box.free 1; have HW2 := Lib.hid hw; clear hw)
  have HW3 : Hid (QW Rd 100 zreqV w a w.heap.size (w.heap.size + 1) (ReqX.mk r0.1 r1.1 0 ⟨#[]⟩ ⟨#[]⟩ ⟨#[]⟩ 0 0 0 zeros 0 zeros_len).cells.toArray r1.2 ((w2.setCell ⟨w.heap.size + 1, 0, none⟩ (.int .i64 r0.1)).setCell ⟨w.heap.size + 1, 1, none⟩ (.int .i64 r1.1))) := Lib.hid (HW2.out.put rd_put (Box.rk_num (Box.rk_client HW2.out.box r0.1) r1.1) (only_put (only_put (only_refl _ _) _ _) _ _))
  clear m0 f0 m1 f1 HC HW1 HW2
  generalize (w2.setCell ⟨w.heap.size + 1, 0, none⟩ (.int .i64 r0.1)).setCell ⟨w.heap.size + 1, 1, none⟩ (.int .i64 r1.1) = w3 at *
  have HC := Lib.hid (HIN.out w3 _ 1 7 _ r2 E2.out HW3.out)
  go_upto_region 4 with (go_at_call 71; (with_reducible refine (HC.out).mono ?_); rintro e w4 ⟨rfl, hw⟩; have m0 : w4.cell? ⟨w.heap.size + 1, 2, none⟩ = some (.int .i64 0) := hw.box.rq_cell rfl; have f0 := hw.box.free 2; have HW4 := Lib.hid hw; clear hw)
  have HW5 : Hid (QW Rd 100 zreqV w a w.heap.size (w.heap.size + 1) (ReqX.mk r0.1 r1.1 r2.1 ⟨#[]⟩ ⟨#[]⟩ ⟨#[]⟩ 0 0 0 zeros 0 zeros_len).cells.toArray r2.2 (w4.setCell ⟨w.heap.size + 1, 2, none⟩ (.int .i64 r2.1))) := Lib.hid (HW4.out.put rd_put (Box.rk_kind HW4.out.box _) (only_put (only_refl _ _) _ _))
  clear m0 f0 HC HW3 HW4
  generalize w4.setCell ⟨w.heap.size + 1, 2, none⟩ (.int .i64 r2.1) = w5 at *
  have HC := Lib.hid (HTX.out w5 _ _ r3 E3.out HW5.out)
  go_upto_region 5 with (go_at_call 111; (with_reducible refine (HC.out).mono ?_); rintro e w6 ⟨rfl, hw⟩; have m0 : w6.cell? ⟨w.heap.size + 1, 3, none⟩ = some (.string ⟨#[]⟩) := hw.box.rq_cell rfl; have f0 := hw.box.free 3; have HW6 := Lib.hid hw; clear hw)
  have HW7 : Hid (QW Rd 100 zreqV w a w.heap.size (w.heap.size + 1) (ReqX.mk r0.1 r1.1 r2.1 ⟨r3.1.toArray⟩ ⟨#[]⟩ ⟨#[]⟩ 0 0 0 zeros 0 zeros_len).cells.toArray r3.2 (w6.setCell ⟨w.heap.size + 1, 3, none⟩ (.string ⟨r3.1.toArray⟩))) := Lib.hid (HW6.out.put rd_put (Box.rk_key HW6.out.box _) (only_put (only_refl _ _) _ _))
  clear m0 f0 HC HW5 HW6
  generalize w6.setCell ⟨w.heap.size + 1, 3, none⟩ (.string ⟨r3.1.toArray⟩) = w7 at *
  have HC := Lib.hid (HTX.out w7 _ _ r4 E4.out HW7.out)
  go_upto_region 6 with (go_at_call 111; (with_reducible refine (HC.out).mono ?_); rintro e w8 ⟨rfl, hw⟩; have m0 : w8.cell? ⟨w.heap.size + 1, 4, none⟩ = some (.string ⟨#[]⟩) := hw.box.rq_cell rfl; have f0 := hw.box.free 4; have HW8 := Lib.hid hw; clear hw)
  have HW9 : Hid (QW Rd 100 zreqV w a w.heap.size (w.heap.size + 1) (ReqX.mk r0.1 r1.1 r2.1 ⟨r3.1.toArray⟩ ⟨r4.1.toArray⟩ ⟨#[]⟩ 0 0 0 zeros 0 zeros_len).cells.toArray r4.2 (w8.setCell ⟨w.heap.size + 1, 4, none⟩ (.string ⟨r4.1.toArray⟩))) := Lib.hid (HW8.out.put rd_put (Box.rk_val HW8.out.box _) (only_put (only_refl _ _) _ _))
  clear m0 f0 HC HW7 HW8
  generalize w8.setCell ⟨w.heap.size + 1, 4, none⟩ (.string ⟨r4.1.toArray⟩) = w9 at *
  have HC := Lib.hid (HTX.out w9 _ _ r5 E5.out HW9.out)
  go_upto_region 7 with (go_at_call 111; (with_reducible refine (HC.out).mono ?_); rintro e w10 ⟨rfl, hw⟩; have m0 : w10.cell? ⟨w.heap.size + 1, 5, none⟩ = some (.string ⟨#[]⟩) := hw.box.rq_cell rfl; have f0 := hw.box.free 5; have HW10 := Lib.hid hw; clear hw)
  have HW11 : Hid (QW Rd 100 zreqV w a w.heap.size (w.heap.size + 1) (ReqX.mk r0.1 r1.1 r2.1 ⟨r3.1.toArray⟩ ⟨r4.1.toArray⟩ ⟨r5.1.toArray⟩ 0 0 0 zeros 0 zeros_len).cells.toArray r5.2 (w10.setCell ⟨w.heap.size + 1, 5, none⟩ (.string ⟨r5.1.toArray⟩))) := Lib.hid (HW10.out.put rd_put (Box.rk_old HW10.out.box _) (only_put (only_refl _ _) _ _))
  clear m0 f0 HC HW9 HW10
  generalize w10.setCell ⟨w.heap.size + 1, 5, none⟩ (.string ⟨r5.1.toArray⟩) = w11 at *
  have HC := Lib.hid (HCC.out w11 _ HW11.out)
  go_upto_region 8 with (go_at_call 112; (with_reducible refine (HC.out).mono ?_); rintro e w12 ⟨rfl, hw⟩; obtain ⟨hst, hb, hg⟩ := hw.box.rk_chg s0.1 s1.1 s2.1 H4.out s3.1; have HW13 := Lib.hid (hw.put rd_put hb hg); clear hw hb hg)
  clear HC HW11 hst
  generalize w12.setCells (w.heap.size + 1) 6 (chgL s0.1 s1.1 s2.1 s4.1 s3.1) = w13 at *
  have HC := Lib.hid (HGD.out w13 _ _ HW13.out)
  obtain ⟨gd, hgd⟩ : ∃ gd, s4.2.2 = gd := ⟨_, rfl⟩
  rw [hgd] at HC
  rcases gd with _ | _
  · have HX : Hid (X = (ReqX.mk r0.1 r1.1 r2.1 ⟨r3.1.toArray⟩ ⟨r4.1.toArray⟩ ⟨r5.1.toArray⟩ s0.1 s1.1 s2.1 s4.1 s3.1 H4.out)) := Lib.hid (HXG.out (by rw [HF.out]; exact hgd) H4.out)
    rw [← HX.out] at HW13
    have lc := HW13.out.box.ld_req
    obtain ⟨wz, hst, hb, hg⟩ := HW13.out.out.st_req rfl X
    have HBZ := Lib.hid hb
    have HRZ := Lib.hid (rd_put HW13.out.rd hg (Nat.lt_of_lt_of_le HW13.out.ha (Nat.le_refl _)))
    have HGZ := Lib.hid (only_new HW13.out.far hg (Nat.le_refl _))
    clear hb hg HW13 HX HXG HXB hgd
    go_wp2_with (go_at_call 19; (with_reducible refine (HC.out).mono ?_); rintro e wg ⟨rfl, rfl⟩)
    exact ret_req rfl rfl rfl HBZ.out ⟨rfl, by rw [HF.out]; exact HRZ.out, HGZ.out⟩
  · have HX : Hid (X = zreq) := Lib.hid (HXB.out (by rw [HF.out]; exact hgd))
    have hbd := bd_req0 w13
    obtain ⟨wz, hst, hb, hg⟩ := HW13.out.out.st_req rfl zreq
    rw [zreq_cells] at hst
    have HBZ := Lib.hid hb
    have HRZ := Lib.hid (rd_put HW13.out.rd hg (Nat.lt_of_lt_of_le HW13.out.ha (Nat.le_refl _)))
    have HGZ := Lib.hid (only_new HW13.out.far hg (Nat.le_refl _))
    clear hb hg HW13 HXG HXB hgd
    go_wp2_with (go_at_call 19; (with_reducible refine (HC.out).mono ?_); rintro e wg ⟨rfl, rfl⟩)
    exact ret_req rfl rfl rfl HBZ.out ⟨by rw [HX.out], by rw [HF.out]; exact HRZ.out, HGZ.out⟩

end Go.Proofs.YtbclepdcngaonaaGreatDoor
