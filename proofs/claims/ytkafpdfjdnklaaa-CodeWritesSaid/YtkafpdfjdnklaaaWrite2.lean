/-
  The Writer of package code, on: Num, Text.
-/
import Derived.Test.YtkafpdfjdnklaaaWrite
namespace Go.Proofs.Ytkafpdfjdnklaaa
open Go.RowKit

attribute [local go_sem ↓] Go.wp_at_zero Go.wp_at_succ

/-- A slice that reads as the cells xs, in no block of the Writer's. -/
def Src (w : World) (a : Nat) (A : Option Addr) (xs : List Value) : Prop :=
  xs = [] ∨ ∃ g o, A = some ⟨g, o, none⟩ ∧ g < w.heap.size ∧ ¬ Mine w a g ∧ ∀ j u, xs[j]? = some u → w.cell? ⟨g, o + j, none⟩ = some u
theorem Src.at_ {w wr : World} {a k : Nat} {A : Option Addr} {xs : List Value} (h : Src w a A xs) (hf : WF a w wr) (hk : k < xs.length) : ∃ g o, A = some ⟨g, o, none⟩ ∧ wr.cell? ⟨g, o + k, none⟩ = some xs[k] := by
  rcases h with rfl | ⟨g, o, e, hg, hn, hc⟩
  · simp at hk
  · exact ⟨g, o, e, (World.cell?_of_block (hf.block g hg hn)).trans (hc k _ (List.getElem?_eq_getElem hk))⟩
theorem Src.of_sees {w : World} {base a : Nat} {bs : List UInt8} {A : Option Addr} {xs : List Value} (hw : Wr w base a bs) (h : Sees w base A xs) : Src w a A xs := by
  rcases h with h | ⟨g, o, e, hg, hc⟩
  · exact .inl h
  · exact .inr ⟨g, o, e, Nat.lt_of_lt_of_le hg hw.2.1, fun hm => by have := hw.mine_ge hm; omega, hc⟩
theorem Src.of_box {w : World} {base a g : Nat} {bs : List UInt8} {t : TypeId} {cs : Array Value} (hw : Wr w base a bs) (h : Box w g t cs) (h1 : t ≠ 5) (h2 : t ≠ 32) : Src w a (some ⟨g, 0, none⟩) cs.toList :=
  .inr ⟨g, 0, rfl, h.lt, hw.not_mine h h1 h2, fun j u hu => by rw [Nat.zero_add, h.cell]; simpa using hu⟩

/-- The eight bytes of a number. -/
def numBytes (n : Int) : List UInt8 := beBytes 8 (n % 18446744073709551616).toNat
theorem numBytes_len (n : Int) : (numBytes n).length = 8 := beBytes_length _ _
theorem nums_len : ∀ ns : List Int, (ns.flatMap numBytes).length = 8 * ns.length
  | [] => rfl
  | n :: r => by rw [List.flatMap_cons, List.length_append, nums_len r, numBytes_len, List.length_cons]; omega
theorem wrap_u64_nat (n : Int) : IntKind.u64.wrap n = (((n % 18446744073709551616).toNat : Nat) : Int) := by
  have e : IntKind.u64.wrap n = n % 18446744073709551616 := by simp [IntKind.wrap, IntKind.bits, IntKind.signed]
  rw [e]
  omega

set_option maxHeartbeats 400000 in
theorem wnum_nil (v : Value) (w : World) : Calls Try.prog 14 #[.pointer none, v] w fun e w' => e = .returned (.tuple #[]) ∧ w = w' := by
  go_enter Try.func14, Try.ntmps14
  go_wp2
  refine bodyPost_ret (Go.Proofs.Ytkafpdfjdnklaaa.results_none rfl _ _ _) rfl ?_
  exact ⟨rfl, rfl⟩

set_option maxHeartbeats 400000 in
theorem wnum_any (base a : Nat) (A : Option Addr) (ns : List Int) (c : Nat) (bs : List UInt8) (w : World) (h : Wr w base a bs) (hs : Src w a A (ns.map (Value.int .i64))) (hb : bs.length + 8 * ns.length ≤ 70368744177664) :
    Calls Try.prog 14 #[.pointer (some ⟨a, 0, none⟩), .slice A ns.length c] w fun e w' =>
      e = .returned (.tuple #[]) ∧ Wr w' base a (bs ++ ns.flatMap numBytes) ∧ WF a w w' := by
  go_enter Try.func14, Try.ntmps14
  go_wp2
  go_loopw [5, 10] (fun _ i wr => ∃ k : Nat, k ≤ ns.length ∧ i = .int .i64 k ∧ Hid (Wr wr base a (bs ++ (ns.take k).flatMap numBytes)) ∧ Hid (WF a w wr)) (fun _ i _ => ns.length - (intOf i).toNat)
  case atStart => exact ⟨0, Nat.zero_le _, rfl, (by show Wr w base a (bs ++ []); rw [List.append_nil]; exact h), WF.refl _ _⟩
  case round =>
    obtain ⟨k, hk, rfl, hW, hF⟩ := hrel
    by_cases hlt : k < ns.length
    · obtain ⟨g, o, rfl, hcell0⟩ := hs.at_ hF.out (k := k) (by simpa using hlt)
      simp only [List.getElem_map] at hcell0
      obtain ⟨x, hx⟩ : ∃ x, x = ns[k] := ⟨_, rfl⟩
      rw [← hx] at hcell0
      have hP := Lib.hid (put_any base a (x % 18446744073709551616).toNat 8 _ wr (by decide) hW.out (by
        rw [List.length_append, nums_len, List.length_take]
        omega))
      have hwr := wrap_u64_nat x
      have HB : Hid (bs ++ (ns.take (k + 1)).flatMap numBytes = bs ++ (ns.take k).flatMap numBytes ++ beBytes 8 (x % 18446744073709551616).toNat) := by
        show _ = _
        rw [take_snoc' ns k hlt, List.flatMap_append, List.append_assoc, hx]
        simp [numBytes]
      generalize (x % 18446744073709551616).toNat = N at *
      clear hx hs hW h
      go_wp2_with (go_at_call 33; refine (hP.out).mono ?_; rintro e w1 ⟨rfl, hW1, hF1⟩; have HW1 := Lib.hid hW1; have HF1 := Lib.hid (hF.out.trans hF1); clear hW1 hF1)
      go_roundw
      case rel => exact ⟨k + 1, by omega, by go_num, (by show Wr w1 base a _; rw [HB.out]; exact HW1.out), HF1⟩
      case measure => simp [intOf]; omega
    · go_wp2
      go_end0
      have hW' := hW.out
      rw [List.take_of_length_le (by omega)] at hW'
      exact ⟨rfl, hW', hF.out⟩


/-- The bytes of a text. -/
def textBytes (s : ByteArray) : List UInt8 := beBytes 4 s.size ++ s.data.toList
theorem size_data (s : ByteArray) : s.data.toList.length = s.size := by rw [Array.length_toList]; rfl
theorem textBytes_len (s : ByteArray) : (textBytes s).length = 4 + s.size := by unfold textBytes; rw [List.length_append, beBytes_length, size_data]
theorem flat_take {α : Type} (f : α → List UInt8) (l : List α) (k : Nat) (h : k < l.length) : ((l.take k).flatMap f).length + (f l[k]).length ≤ (l.flatMap f).length := by
  have e : l.flatMap f = (l.take (k + 1)).flatMap f ++ (l.drop (k + 1)).flatMap f := by rw [← List.flatMap_append, List.take_append_drop]
  rw [e, take_snoc' l k h, List.flatMap_append, List.length_append, List.length_append]
  simp

set_option maxHeartbeats 400000 in
theorem wtext_nil (v : Value) (w : World) : Calls Try.prog 16 #[.pointer none, v] w fun e w' => e = .returned (.tuple #[]) ∧ w = w' := by
  go_enter Try.func16, Try.ntmps16
  go_wp2
  refine bodyPost_ret (Go.Proofs.Ytkafpdfjdnklaaa.results_none rfl _ _ _) rfl ?_
  exact ⟨rfl, rfl⟩

set_option maxHeartbeats 400000 in
theorem wtext_any (base a : Nat) (A : Option Addr) (ss : List ByteArray) (c : Nat) (bs : List UInt8) (w : World) (h : Wr w base a bs) (hs : Src w a A (ss.map Value.string)) (hb : bs.length + (ss.flatMap textBytes).length ≤ 70368744177664) (hn : ss.length ≤ 70368744177664) :
    Calls Try.prog 16 #[.pointer (some ⟨a, 0, none⟩), .slice A ss.length c] w fun e w' =>
      e = .returned (.tuple #[]) ∧ Wr w' base a (bs ++ ss.flatMap textBytes) ∧ WF a w w' := by
  go_enter Try.func16, Try.ntmps16
  go_wp2
  go_loopw [5, 10] (fun _ i wr => ∃ k : Nat, k ≤ ss.length ∧ i = .int .i64 k ∧ Hid (Wr wr base a (bs ++ (ss.take k).flatMap textBytes)) ∧ Hid (WF a w wr)) (fun _ i _ => ss.length - (intOf i).toNat)
  case atStart => exact ⟨0, Nat.zero_le _, rfl, (by show Wr w base a (bs ++ []); rw [List.append_nil]; exact h), WF.refl _ _⟩
  case round =>
    obtain ⟨k, hk, rfl, hW, hF⟩ := hrel
    by_cases hlt : k < ss.length
    · obtain ⟨g, o, rfl, hcell0⟩ := hs.at_ hF.out (k := k) (by simpa using hlt)
      simp only [List.getElem_map] at hcell0
      have hft := flat_take textBytes ss k hlt
      obtain ⟨x, hx⟩ : ∃ x, x = ss[k] := ⟨_, rfl⟩
      rw [← hx] at hcell0
      rw [← hx, textBytes_len] at hft
      have HB : Hid (bs ++ (ss.take (k + 1)).flatMap textBytes = bs ++ (ss.take k).flatMap textBytes ++ beBytes 4 x.size ++ x.data.toList) := by
        show _ = _
        rw [take_snoc' ss k hlt, List.flatMap_append, hx]
        simp [textBytes]
      clear hx
      have hbx : (bs ++ (ss.take k).flatMap textBytes).length + 4 + x.size ≤ 70368744177664 := by rw [List.length_append]; omega
      generalize bs ++ (ss.take k).flatMap textBytes = bk at *
      have hxs : x.size ≤ 70368744177664 := by omega
      have hP := Lib.hid (put_any base a x.size 4 bk wr (by decide) hW.out (by omega))
      have hl4 : (bk ++ beBytes 4 x.size).length = bk.length + 4 := by rw [List.length_append, beBytes_length]
      generalize bk ++ beBytes 4 x.size = b2 at *
      have hl5 : 0 < b2.length := by omega
      have hl6 : b2.length + x.size ≤ 70368744177664 := by omega
      clear hs hW h hft hbx hl4
      obtain ⟨i0, hi0, hz0, hz1, hz2⟩ := info_parts w_byte_info
      go_wp2_with (first
        | (go_at_call 33; refine (hP.out).mono ?_; rintro e w1 ⟨rfl, hW1, hF1⟩; have HF1 := Lib.hid (hF.out.trans hF1); obtain ⟨hba, hbs, v1, hbox1, hown0⟩ := hW1; obtain ⟨g1, cap1, rfl, hg1, hg2⟩ := hown0.form hl5; have c0 := hbox1.cell 0; have f0 := hbox1.free 0; simp only [List.getElem?_toArray, List.getElem?_cons_zero] at c0; have HOW := Lib.hid hown0; have HLT := Lib.hid hbox1.lt; clear hown0 hF1)
        | (at_builtin; refine wpList_append_str rfl (.tmp 23) (.tmp 24) _ _ rfl base 5 i0 _ Try.underlying27 Try.underlying9 hi0 hz0 hz1 hz2 rfl g1 cap1 b2.length (b2.map bv) rfl HOW.out x rfl hl6 hbs ?_; intro gg cap2 w2 hown2 hgrow hat; have hb1 := hbox1.grown hgrow (Ne.symm (hbox1.own_ne HOW.out (by decide))); have k0 := hb1.cell 0; have k1 := hb1.free 0; simp only [List.getElem?_toArray, List.getElem?_cons_zero] at k0))
      go_roundw
      case rel =>
        have R := Wr.step (m := b2.length + x.size) hba hbs hbox1 HOW.out (Below.refl _ _) hgrow (more := x.data.toList) hown2 (hat.imp (fun e => by rw [e]; rfl) (fun e => by omega)) (by rw [size_data])
        exact ⟨k + 1, by omega, by go_num, (by show Wr _ base a _; rw [HB.out]; exact R.1), HF1.out.trans R.2⟩
      case measure => simp [intOf]; omega
    · go_wp2
      go_end0
      have hW' := hW.out
      rw [List.take_of_length_le (by omega)] at hW'
      exact ⟨rfl, hW', hF.out⟩

end Go.Proofs.Ytkafpdfjdnklaaa
