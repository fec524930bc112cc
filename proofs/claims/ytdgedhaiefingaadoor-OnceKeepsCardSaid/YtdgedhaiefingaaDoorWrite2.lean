/-
  The Writer of package code, on: Num.
-/
import Derived.Test.YtdgedhaiefingaaDoorWrite
namespace Go.Proofs.YtdgedhaiefingaaDoor
open Go.RowKit

attribute [local go_sem ↓] Go.wp_at_zero Go.wp_at_succ

/-- A slice that reads as the cells xs, in no block of the Writer's. -/
def Src (w : World) (a : Nat) (A : Option Addr) (xs : List Value) : Prop :=
  xs = [] ∨ ∃ g o, A = some ⟨g, o, none⟩ ∧ g < w.heap.size ∧ ¬ Mine w a g ∧ ∀ j u, xs[j]? = some u → w.cell? ⟨g, o + j, none⟩ = some u
theorem Src.at_ {w wr : World} {a k : Nat} {A : Option Addr} {xs : List Value} (h : Src w a A xs) (hf : WF a w wr) (hk : k < xs.length) : ∃ g o, A = some ⟨g, o, none⟩ ∧ wr.cell? ⟨g, o + k, none⟩ = some xs[k] := by
  rcases h with rfl | ⟨g, o, e, hg, hn, hc⟩
  · simp at hk
  · exact ⟨g, o, e, (World.cell?_of_block (hf.block g hg hn)).trans (hc k _ (List.getElem?_eq_getElem hk))⟩
theorem Src.of_sees {w : World} {base a : Nat} {bs : List UInt8} {A : Option Addr} {xs : List Value} (hw : Wr w base a bs) (h : Sees w base A xs) : Src w a A xs := by
  rcases h with h | ⟨g, o, e, hg, hc⟩
  · exact .inl h
  · exact .inr ⟨g, o, e, Nat.lt_of_lt_of_le hg hw.2.1, fun hm => by have := hw.mine_ge hm; omega, hc⟩
theorem Src.of_box {w : World} {base a g : Nat} {bs : List UInt8} {t : TypeId} {cs : Array Value} (hw : Wr w base a bs) (h : Box w g t cs) (h1 : t ≠ 5) (h2 : t ≠ 39) : Src w a (some ⟨g, 0, none⟩) cs.toList :=
  .inr ⟨g, 0, rfl, h.lt, hw.not_mine h h1 h2, fun j u hu => by rw [Nat.zero_add, h.cell]; simpa using hu⟩

/-- The eight bytes of a number. -/
def numBytes (n : Int) : List UInt8 := beBytes 8 (n % 18446744073709551616).toNat
theorem numBytes_len (n : Int) : (numBytes n).length = 8 := beBytes_length _ _
theorem nums_len : ∀ ns : List Int, (ns.flatMap numBytes).length = 8 * ns.length
  | [] => rfl
  | n :: r => by rw [List.flatMap_cons, List.length_append, nums_len r, numBytes_len, List.length_cons]; omega
theorem wrap_u64_nat (n : Int) : IntKind.u64.wrap n = (((n % 18446744073709551616).toNat : Nat) : Int) := by
  have e : IntKind.u64.wrap n = n % 18446744073709551616 := by simp [IntKind.wrap, IntKind.bits, IntKind.signed]
  rw [e]
  omega

set_option maxHeartbeats 400000 in
theorem wnum_nil (v : Value) (w : World) : Calls Tryd.prog 27 #[.pointer none, v] w fun e w' => e = .returned (.tuple #[]) ∧ w = w' := by
  go_enter Tryd.func27, Tryd.ntmps27
  go_wp2
  refine bodyPost_ret (Go.Proofs.YtdgedhaiefingaaDoor.results_none rfl _ _ _) rfl ?_
  exact ⟨rfl, rfl⟩

set_option maxHeartbeats 400000 in
theorem wnum_any (base a : Nat) (A : Option Addr) (ns : List Int) (c : Nat) (bs : List UInt8) (w : World) (h : Wr w base a bs) (hs : Src w a A (ns.map (Value.int .i64))) (hb : bs.length + 8 * ns.length ≤ 70368744177664) :
    Calls Tryd.prog 27 #[.pointer (some ⟨a, 0, none⟩), .slice A ns.length c] w fun e w' =>
      e = .returned (.tuple #[]) ∧ Wr w' base a (bs ++ ns.flatMap numBytes) ∧ WF a w w' := by
  go_enter Tryd.func27, Tryd.ntmps27
  go_wp2
  go_loopw [5, 10] (fun _ i wr => ∃ k : Nat, k ≤ ns.length ∧ i = .int .i64 k ∧ Hid (Wr wr base a (bs ++ (ns.take k).flatMap numBytes)) ∧ Hid (WF a w wr)) (fun _ i _ => ns.length - (intOf i).toNat)
  case atStart => exact ⟨0, Nat.zero_le _, rfl, (by show Wr w base a (bs ++ []); rw [List.append_nil]; exact h), WF.refl _ _⟩
  case round =>
    obtain ⟨k, hk, rfl, hW, hF⟩ := hrel
    by_cases hlt : k < ns.length
    · obtain ⟨g, o, rfl, hcell0⟩ := hs.at_ hF.out (k := k) (by simpa using hlt)
      simp only [List.getElem_map] at hcell0
      obtain ⟨x, hx⟩ : ∃ x, x = ns[k] := ⟨_, rfl⟩
      rw [← hx] at hcell0
      have hP := Lib.hid (put_any base a (x % 18446744073709551616).toNat 8 _ wr (by decide) hW.out (by
        rw [List.length_append, nums_len, List.length_take]
        omega))
      have hwr := wrap_u64_nat x
      have HB : Hid (bs ++ (ns.take (k + 1)).flatMap numBytes = bs ++ (ns.take k).flatMap numBytes ++ beBytes 8 (x % 18446744073709551616).toNat) := by
        show _ = _
        rw [take_snoc' ns k hlt, List.flatMap_append, List.append_assoc, hx]
        simp [numBytes]
      generalize (x % 18446744073709551616).toNat = N at *
      clear hx hs hW h
      go_wp2_with (go_at_call 33; refine (hP.out).mono ?_; rintro e w1 ⟨rfl, hW1, hF1⟩; have HW1 := Lib.hid hW1; have HF1 := Lib.hid (hF.out.trans hF1); clear hW1 hF1)
      go_roundw
      case rel => exact ⟨k + 1, by omega, by go_num, (by show Wr w1 base a _; rw [HB.out]; exact HW1.out), HF1⟩
      case measure => simp [intOf]; omega
    · go_wp2
      go_end0
      have hW' := hW.out
      rw [List.take_of_length_le (by omega)] at hW'
      exact ⟨rfl, hW', hF.out⟩

end Go.Proofs.YtdgedhaiefingaaDoor
