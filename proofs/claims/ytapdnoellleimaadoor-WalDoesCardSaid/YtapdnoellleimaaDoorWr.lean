/-
  The Writer of package code: what each of its methods does, said of the bytes that were written.
  The Writer of package code, on: Num.
  The Writer of package code, on: Text.
  The Writer of package code, on: Digest, Bytes.
  The Writer of package code, on: Bytes.
-/
import Derived.Test.YtapdnoellleimaaDoorProg
import Derived.Test.YtapdnoellleimaaDoorKB
import Derived.WalkSpells
import Derived.WalkLawsBesides
import Derived.Lib.Hide
import Derived.Deep.RegionHeld3
import Derived.Deep.RegionLaw
import Derived.Deep.DrawnRows
import Derived.Deep.Cut
import Derived.Deep.RegionLawGrows
namespace Go.Proofs.YtapdnoellleimaaDoor
open Go.RowKit

attribute [local go_sem ↓] Go.wp_at_zero Go.wp_at_succ

theorem wr_byte_info : (Tryd.prog.info? 5).map (fun i => (i.zero, i.size, i.bytes)) = some (some (.int .u8 0), 1, 1) := by kernel_rfl

/-- The Writer in block a has written the bytes bs; it, and the row that it owns, lie from base on. -/
def Wr (w : World) (base a : Nat) (bs : List UInt8) : Prop :=
  base ≤ a ∧ base ≤ w.heap.size ∧ ∃ v, Box w a 106 #[v] ∧ w.ownsRow base 5 1 v bs.length (bs.map bv)

/-- The blocks that are the Writer's: its own, and the row that it owns. -/
def Mine (w : World) (a k : Nat) : Prop := k = a ∨ ∃ v, w.cell? ⟨a, 0, none⟩ = some v ∧ v.ownBlock = some k

/-- Nothing but what is the Writer's, and what is new, has turned; and of what was there nothing more has become the Writer's. -/
structure WF (a : Nat) (w w' : World) : Prop where
  os : w'.os = w.os
  tape : w'.tape = w.tape
  output : w'.output = w.output
  size : w.heap.size ≤ w'.heap.size
  block : ∀ k, k < w.heap.size → ¬ Mine w a k → w'.heap[k]? = w.heap[k]?
  mine : ∀ k, k < w.heap.size → ¬ Mine w a k → ¬ Mine w' a k

theorem WF.refl (a : Nat) (w : World) : WF a w w := ⟨rfl, rfl, rfl, Nat.le_refl _, fun _ _ _ => rfl, fun _ _ h => h⟩
theorem WF.trans {a : Nat} {u v w : World} (h : WF a u v) (k : WF a v w) : WF a u w :=
  ⟨k.os.trans h.os, k.tape.trans h.tape, k.output.trans h.output, Nat.le_trans h.size k.size,
    fun i hi hn => (k.block i (Nat.lt_of_lt_of_le hi h.size) (h.mine i hi hn)).trans (h.block i hi hn), fun i hi hn => k.mine i (Nat.lt_of_lt_of_le hi h.size) (h.mine i hi hn)⟩
/-- A step that leaves all blocks that were there alone, the Writer's too. -/
theorem WF.of_below {a : Nat} {w w' : World} (h : Below w.heap.size w w') (ha : a < w.heap.size) : WF a w w' :=
  ⟨h.os, h.tape, h.output, h.size, fun k hk _ => h.block k hk, fun k _ hn hm => hn (by
    rcases hm with rfl | ⟨v, hv, ho⟩
    · exact .inl rfl
    · exact .inr ⟨v, (h.cell (p := ⟨a, 0, none⟩) ha) ▸ hv, ho⟩)⟩
theorem Wr.lt {w : World} {base a : Nat} {bs : List UInt8} (h : Wr w base a bs) : a < w.heap.size := by
  obtain ⟨_, _, v, hb, _⟩ := h
  exact hb.lt
theorem Wr.mine_ge {w : World} {base a k : Nat} {bs : List UInt8} (h : Wr w base a bs) (hm : Mine w a k) : base ≤ k := by
  obtain ⟨hba, _, v, hb, ho⟩ := h
  rcases hm with rfl | ⟨v', hv, hk⟩
  · exact hba
  · have e := hb.cell 0
    rw [hv] at e
    simp only [List.getElem?_toArray, List.getElem?_cons_zero, Option.some.injEq] at e
    subst e
    exact (ho.lt k hk).1
theorem Wr.not_mine {w : World} {base a g : Nat} {bs : List UInt8} (h : Wr w base a bs) {t : TypeId} {cs : Array Value} (hg : Box w g t cs) (h1 : t ≠ 5) (h2 : t ≠ 106) : ¬ Mine w a g := by
  obtain ⟨_, _, v, hb, ho⟩ := h
  rintro (rfl | ⟨v', hv, hk⟩)
  · exact Box.apart hg hb h2 rfl
  · have e := hb.cell 0
    rw [hv] at e
    simp only [List.getElem?_toArray, List.getElem?_cons_zero, Option.some.injEq] at e
    subst e
    exact hg.own_ne ho (Ne.symm h1) hk
theorem WF.below {w w' : World} {base a : Nat} {bs : List UInt8} (h : WF a w w') (hw : Wr w base a bs) : Below base w w' :=
  ⟨h.os, h.tape, h.output, h.size, fun k hk => h.block k (Nat.lt_of_lt_of_le hk hw.2.1) (fun hm => by have := hw.mine_ge hm; omega)⟩
theorem Wr.below_size {w w' : World} {base a : Nat} {bs : List UInt8} (h : Wr w base a bs) (hb : Below w.heap.size w w') : Wr w' base a bs := by
  have hlt := h.lt
  obtain ⟨h1, h2, v, h3, h4⟩ := h
  refine ⟨h1, Nat.le_trans h2 hb.size, v, h3.below hb hlt, h4.kept (row := none) ⟨hb.os, hb.tape, hb.output, hb.size, fun k hk _ => hb.block k hk⟩ ?_⟩
  rcases h4.2 with ⟨rfl, _⟩ | ⟨g, cap, cur, rfl, _⟩
  · exact .inl rfl
  · exact .inr (by simp [Value.ownBlock])

/-- What an append, laid into the Writer, makes of it: from the worlds ahead (wr), behind what was laid for it (w0), and behind the append (w1). -/
theorem Wr.step {wr w0 w1 : World} {base a gg cap m : Nat} {bs more : List UInt8} {v : Value} (hba : base ≤ a) (hbs : base ≤ wr.heap.size) (hbox : Box wr a 106 #[v]) (hown : wr.ownsRow base 5 1 v bs.length (bs.map bv))
    (h0 : Below wr.heap.size wr w0) (hgrow : w0.grownBy w1 v.ownBlock) (hown1 : w1.ownsRow base 5 1 (.slice (some ⟨gg, 0, none⟩) m cap) m (bs.map bv ++ more.map bv)) (hat : v.ownBlock = some gg ∨ wr.heap.size ≤ gg) (hm : m = bs.length + more.length) :
    Wr (w1.setCell ⟨a, 0, none⟩ (.slice (some ⟨gg, 0, none⟩) m cap)) base a (bs ++ more) ∧ WF a wr (w1.setCell ⟨a, 0, none⟩ (.slice (some ⟨gg, 0, none⟩) m cap)) := by
  subst hm
  have hne := hbox.own_ne hown (by decide)
  have hb0 := hbox.below h0 hbox.lt
  have hb1 := hb0.grown hgrow (Ne.symm hne)
  have hne1 := hb1.own_ne hown1 (by decide)
  have hs1 : wr.heap.size ≤ w1.heap.size := Nat.le_trans h0.size hgrow.size
  have hput := hb1.put 0 (.slice (some ⟨gg, 0, none⟩) (bs.length + more.length) cap)
  have hput' : Box (w1.setCell ⟨a, 0, none⟩ (.slice (some ⟨gg, 0, none⟩) (bs.length + more.length) cap)) a 106 #[.slice (some ⟨gg, 0, none⟩) (bs.length + more.length) cap] := by simpa using hput
  have hmine : ∀ k, v.ownBlock = some k → Mine wr a k := fun k hk => .inr ⟨v, by rw [hbox.cell]; rfl, hk⟩
  refine ⟨⟨hba, ?_, .slice (some ⟨gg, 0, none⟩) (bs.length + more.length) cap, hput', ?_⟩, ⟨(hgrow.os.trans h0.os), (hgrow.tape.trans h0.tape), (hgrow.output.trans h0.output), by simpa [World.setCell] using hs1, fun k hk hn => ?_, fun k hk hn hm => ?_⟩⟩
  · simp [World.setCell]
    omega
  · have := ownsRow_setCell_other hown1 (a := ⟨a, 0, none⟩) hne1 (.slice (some ⟨gg, 0, none⟩) (bs.length + more.length) cap)
    rw [List.length_append, List.map_append]
    exact this
  · rw [heap_setCell_other _ _ _ _ (fun e => hn (.inl e)), hgrow.block k (Nat.lt_of_lt_of_le hk h0.size) (fun e => hn (hmine k e.symm)), h0.block k hk]
  · rcases hm with rfl | ⟨v', hv, ho⟩
    · exact hn (.inl rfl)
    · have e := hput'.cell 0
      rw [hv] at e
      simp only [List.getElem?_toArray, List.getElem?_cons_zero, Option.some.injEq] at e
      subst e
      have hk2 : k = gg := by simpa [Value.ownBlock] using ho.symm
      subst hk2
      rcases hat with h | h
      · exact hn (hmine k h)
      · omega

set_option maxRecDepth 100000 in
set_option maxHeartbeats 800000 in
theorem put_any (base a n k : Nat) (bs : List UInt8) (w : World) (hk : k ≤ 8) (h : Wr w base a bs) (hb : bs.length + k ≤ 70368744177664) :
    Calls Tryd.prog 73 #[.pointer (some ⟨a, 0, none⟩), .int .u64 n, .int .i64 k] w fun e w' =>
      e = .returned (.tuple #[]) ∧ Wr w' base a (bs ++ beBytes k n) ∧ WF a w w' := by
  go_enter Tryd.func73, Tryd.ntmps73
  go_wp2
  go_loopw [6] (fun s wr => ∃ (j : Nat) (S : Int) (done : List UInt8), j ≤ k ∧ s = .int .i64 S ∧ Hid (S = 8 * (j : Int) - 8) ∧ Hid (done ++ beBytes j n = beBytes k n) ∧ Hid (Wr wr base a (bs ++ done)) ∧ Hid (WF a w wr)) (fun s _ => (intOf s + 8).toNat)
  case atStart => exact ⟨k, _, [], Nat.le_refl _, rfl, (by show 8 * ((k : Int) - 1) = _; omega), rfl, (by rw [List.append_nil]; exact h), WF.refl _ _⟩
  case round =>
    obtain ⟨j, S, done, hj, rfl, hS, hd, hW, hB⟩ := hrel
    rcases j with _ | j
    · have hS0 : S < 0 := by have := hS.out; omega
      go_wp2
      go_end0
      have e : done = beBytes k n := by
        have := hd.out
        simpa [beBytes] using this
      subst e
      exact ⟨rfl, hW.out, hB.out⟩
    · have hS0 : 0 ≤ S := by have := hS.out; omega
      have hS1 : S ≤ 56 := by have := hS.out; omega
      obtain ⟨hba, hbs, v, hbox, hown⟩ := hW.out
      have c0 := hbox.cell 0
      have f0 := hbox.free 0
      simp only [List.getElem?_toArray, List.getElem?_cons_zero] at c0
      obtain ⟨i0, hi0, hz0, hz1, hz2⟩ := info_parts wr_byte_info
      have hlt := hbox.lt
      have hne := hbox.own_ne hown (by decide)
      have hdl : done.length + (j + 1) = k := by
        have e := congrArg List.length hd.out
        rw [List.length_append, beBytes_length, beBytes_length] at e
        exact e
      have hm1 : (bs ++ done).length + 1 ≤ maxLen := by rw [List.length_append]; unfold maxLen; omega
      have hm2 : ((bs ++ done).length + 1) * 1 ≤ 140737488355328 := by rw [List.length_append]; omega
      go_wp2
      go_region_law ((refine step_append_lies _ (by rfl) _ _ _ (by rfl) base 5 i0 _ 1 1 Tryd.underlying22 hi0 hz0 hz1 hz2 rfl (by omega) v (bs ++ done).length ((bs ++ done).map bv) (by rfl) ((hown.alloc _).drew) ⟨wr.heap.size, 0, none⟩ 1 1 _ (by rfl) (by rfl) (World.news_of_block (heap_alloc_new wr _)) (by simp [Value.oneCell']) (by omega) hm1 hm2 (by simp; omega) (wr.heap.size + 1) (by simp) ?_; intro gg cap w1 hown1 hgrow hat hlt1; have hb1 := ((hbox.alloc _).drew).grown hgrow (Ne.symm hne); have k0 := hb1.cell 0; have k1 := hb1.free 0; simp only [List.getElem?_toArray, List.getElem?_cons_zero] at k0))
      all_goals
        have hbyte := put_byte n j S hS.out
        have hown2 : w1.ownsRow base 5 1 (.slice (some ⟨gg, 0, none⟩) (bs.length + done.length + 1) cap) (bs.length + done.length + 1) ((bs ++ done).map bv ++ [UInt8.ofNat (n / 256 ^ j)].map bv) := by
          rw [hbyte] at hown1
          rw [List.length_append] at hown1
          exact hown1
        have R := Wr.step (m := bs.length + done.length + 1) hba hbs hbox hown (((Below.refl _ _).alloc (Nat.le_refl _) _).drew) hgrow hown2 (hat.imp_right (fun e => by omega)) (by simp)
        have HR1 := Lib.hid R.1
        have HR2 := Lib.hid (hB.out.trans R.2)
        have HS2 : Hid (S - 8 = 8 * (j : Int) - 8) := by
          show _ = _
          have := hS.out
          omega
        have HD2 := Lib.hid (beBytes_step done j n k hd.out)
        clear R hown2 hbyte hown1 hgrow hat hb1 k0 k1 hown hbox c0 f0 hne hm1 hm2 hdl hz0 hz1 hz2 hi0 hW hB hd hS h
        go_wp2
        go_roundw
        case rel => exact ⟨j, S - 8, done ++ [UInt8.ofNat (n / 256 ^ j)], by omega, rfl, HS2, HD2, (by rw [← List.append_assoc]; exact HR1), HR2⟩
        case measure => simp [intOf]; omega

end Go.Proofs.YtapdnoellleimaaDoor

namespace Go.Proofs.YtapdnoellleimaaDoor
open Go.RowKit

attribute [local go_sem ↓] Go.wp_at_zero Go.wp_at_succ

/-- A slice that reads as the cells xs, in no block of the Writer's. -/
def Src (w : World) (a : Nat) (A : Option Addr) (xs : List Value) : Prop :=
  xs = [] ∨ ∃ g o, A = some ⟨g, o, none⟩ ∧ g < w.heap.size ∧ ¬ Mine w a g ∧ ∀ j u, xs[j]? = some u → w.cell? ⟨g, o + j, none⟩ = some u
theorem Src.at_ {w wr : World} {a k : Nat} {A : Option Addr} {xs : List Value} (h : Src w a A xs) (hf : WF a w wr) (hk : k < xs.length) : ∃ g o, A = some ⟨g, o, none⟩ ∧ wr.cell? ⟨g, o + k, none⟩ = some xs[k] := by
  rcases h with rfl | ⟨g, o, e, hg, hn, hc⟩
  · simp at hk
  · exact ⟨g, o, e, (World.cell?_of_block (hf.block g hg hn)).trans (hc k _ (List.getElem?_eq_getElem hk))⟩
theorem Src.of_sees {w : World} {base a : Nat} {bs : List UInt8} {A : Option Addr} {xs : List Value} (hw : Wr w base a bs) (h : Sees w base A xs) : Src w a A xs := by
  rcases h with h | ⟨g, o, e, hg, hc⟩
  · exact .inl h
  · exact .inr ⟨g, o, e, Nat.lt_of_lt_of_le hg hw.2.1, fun hm => by have := hw.mine_ge hm; omega, hc⟩
theorem Src.of_box {w : World} {base a g : Nat} {bs : List UInt8} {t : TypeId} {cs : Array Value} (hw : Wr w base a bs) (h : Box w g t cs) (h1 : t ≠ 5) (h2 : t ≠ 106) : Src w a (some ⟨g, 0, none⟩) cs.toList :=
  .inr ⟨g, 0, rfl, h.lt, hw.not_mine h h1 h2, fun j u hu => by rw [Nat.zero_add, h.cell]; simpa using hu⟩

theorem WF.box {w w' : World} {base a g : Nat} {bs : List UInt8} {t : TypeId} {cs : Array Value} (h : WF a w w') (hw : Wr w base a bs) (hb : Box w g t cs) (h1 : t ≠ 5) (h2 : t ≠ 106) : Box w' g t cs := (h.block g hb.lt (hw.not_mine hb h1 h2)).trans hb

/-- The eight bytes of a number. -/
def numBytes (n : Int) : List UInt8 := beBytes 8 (n % 18446744073709551616).toNat
theorem numBytes_len (n : Int) : (numBytes n).length = 8 := beBytes_length _ _
theorem nums_len : ∀ ns : List Int, (ns.flatMap numBytes).length = 8 * ns.length
  | [] => rfl
  | n :: r => by rw [List.flatMap_cons, List.length_append, nums_len r, numBytes_len, List.length_cons]; omega
theorem wrap_u64_nat (n : Int) : IntKind.u64.wrap n = (((n % 18446744073709551616).toNat : Nat) : Int) := by
  have e : IntKind.u64.wrap n = n % 18446744073709551616 := by simp [IntKind.wrap, IntKind.bits, IntKind.signed]
  rw [e]
  omega

end Go.Proofs.YtapdnoellleimaaDoor

namespace Go.Proofs.YtapdnoellleimaaDoor
open Go.RowKit

attribute [local go_sem ↓] Go.wp_at_zero Go.wp_at_succ

/-- The bytes of a text. -/
def textBytes (s : ByteArray) : List UInt8 := beBytes 4 s.size ++ s.data.toList
theorem size_data (s : ByteArray) : s.data.toList.length = s.size := by rw [Array.length_toList]; rfl
theorem textBytes_len (s : ByteArray) : (textBytes s).length = 4 + s.size := by unfold textBytes; rw [List.length_append, beBytes_length, size_data]
theorem flat_take {α : Type} (f : α → List UInt8) (l : List α) (k : Nat) (h : k < l.length) : ((l.take k).flatMap f).length + (f l[k]).length ≤ (l.flatMap f).length := by
  have e : l.flatMap f = (l.take (k + 1)).flatMap f ++ (l.drop (k + 1)).flatMap f := by rw [← List.flatMap_append, List.take_append_drop]
  rw [e, take_snoc' l k h, List.flatMap_append, List.length_append, List.length_append]
  simp

set_option maxRecDepth 100000 in
set_option maxHeartbeats 400000 in
theorem wtext_nil (v : Value) (w : World) : Calls Tryd.prog 66 #[.pointer none, v] w fun e w' => e = .returned (.tuple #[]) ∧ w = w' := by
  go_enter Tryd.func66, Tryd.ntmps66
  go_wp2
  refine bodyPost_ret (Go.Proofs.YtapdnoellleimaaDoor.results_none rfl _ _ _) rfl ?_
  exact ⟨rfl, rfl⟩

set_option maxRecDepth 100000 in
set_option maxHeartbeats 400000 in
theorem wtext_any (base a : Nat) (A : Option Addr) (ss : List ByteArray) (c : Nat) (bs : List UInt8) (w : World) (h : Wr w base a bs) (hs : Src w a A (ss.map Value.string)) (hb : bs.length + (ss.flatMap textBytes).length ≤ 70368744177664) (hn : ss.length ≤ 70368744177664) :
    Calls Tryd.prog 66 #[.pointer (some ⟨a, 0, none⟩), .slice A ss.length c] w fun e w' =>
      e = .returned (.tuple #[]) ∧ Wr w' base a (bs ++ ss.flatMap textBytes) ∧ WF a w w' := by
  go_enter Tryd.func66, Tryd.ntmps66
  go_wp2
  go_loopw [5, 10] (fun _ i wr => ∃ k : Nat, k ≤ ss.length ∧ i = .int .i64 k ∧ Hid (Wr wr base a (bs ++ (ss.take k).flatMap textBytes)) ∧ Hid (WF a w wr)) (fun _ i _ => ss.length - (intOf i).toNat)
  case atStart => exact ⟨0, Nat.zero_le _, rfl, (by show Wr w base a (bs ++ []); rw [List.append_nil]; exact h), WF.refl _ _⟩
  case round =>
    obtain ⟨k, hk, rfl, hW, hF⟩ := hrel
    by_cases hlt : k < ss.length
    · obtain ⟨g, o, rfl, hcell0⟩ := hs.at_ hF.out (k := k) (by simpa using hlt)
      simp only [List.getElem_map] at hcell0
      have hft := flat_take textBytes ss k hlt
      obtain ⟨x, hx⟩ : ∃ x, x = ss[k] := ⟨_, rfl⟩
      rw [← hx] at hcell0
      rw [← hx, textBytes_len] at hft
      have HB : Hid (bs ++ (ss.take (k + 1)).flatMap textBytes = bs ++ (ss.take k).flatMap textBytes ++ beBytes 4 x.size ++ x.data.toList) := by
        show _ = _
        rw [take_snoc' ss k hlt, List.flatMap_append, hx]
        simp [textBytes]
      clear hx
      have hbx : (bs ++ (ss.take k).flatMap textBytes).length + 4 + x.size ≤ 70368744177664 := by rw [List.length_append]; omega
      generalize bs ++ (ss.take k).flatMap textBytes = bk at *
      have hxs : x.size ≤ 70368744177664 := by omega
      have hP := Lib.hid (put_any base a x.size 4 bk wr (by decide) hW.out (by omega))
      have hl4 : (bk ++ beBytes 4 x.size).length = bk.length + 4 := by rw [List.length_append, beBytes_length]
      generalize bk ++ beBytes 4 x.size = b2 at *
      have hl5 : 0 < b2.length := by omega
      have hl6 : b2.length + x.size ≤ 70368744177664 := by omega
      clear hs hW h hft hbx hl4
      obtain ⟨i0, hi0, hz0, hz1, hz2⟩ := info_parts wr_byte_info
      go_wp2_with (first
        | (go_at_call 73; refine (hP.out).mono ?_; rintro e w1 ⟨rfl, hW1, hF1⟩; have HF1 := Lib.hid (hF.out.trans hF1); obtain ⟨hba, hbs, v1, hbox1, hown0⟩ := hW1; obtain ⟨g1, cap1, rfl, hg1, hg2⟩ := hown0.form hl5; have c0 := hbox1.cell 0; have f0 := hbox1.free 0; simp only [List.getElem?_toArray, List.getElem?_cons_zero] at c0; have HOW := Lib.hid hown0; have HLT := Lib.hid hbox1.lt; clear hown0 hF1)
        | (at_builtin; refine wpList_append_str rfl (.tmp 23) (.tmp 24) _ _ rfl base 5 i0 _ Tryd.underlying22 Tryd.underlying9 hi0 hz0 hz1 hz2 rfl g1 cap1 b2.length (b2.map bv) rfl HOW.out x rfl hl6 hbs ?_; intro gg cap2 w2 hown2 hgrow hat; have hb1 := hbox1.grown hgrow (Ne.symm (hbox1.own_ne HOW.out (by decide))); have k0 := hb1.cell 0; have k1 := hb1.free 0; simp only [List.getElem?_toArray, List.getElem?_cons_zero] at k0))
      go_roundw
      case rel =>
        have R := Wr.step (m := b2.length + x.size) hba hbs hbox1 HOW.out (Below.refl _ _) hgrow (more := x.data.toList) hown2 (hat.imp (fun e => by rw [e]; rfl) (fun e => by omega)) (by rw [size_data])
        exact ⟨k + 1, by omega, by go_num, (by show Wr _ base a _; rw [HB.out]; exact R.1), HF1.out.trans R.2⟩
      case measure => simp [intOf]; omega
    · go_wp2
      go_end0
      have hW' := hW.out
      rw [List.take_of_length_le (by omega)] at hW'
      exact ⟨rfl, hW', hF.out⟩

end Go.Proofs.YtapdnoellleimaaDoor

namespace Go.Proofs.YtapdnoellleimaaDoor
open Go.RowKit

attribute [local go_sem ↓] Go.wp_at_zero Go.wp_at_succ

theorem flat_len32 : ∀ ds : List (List UInt8), (∀ d ∈ ds, d.length = 32) → (ds.flatMap id).length = 32 * ds.length
  | [], _ => rfl
  | d :: r, h => by
    rw [List.flatMap_cons, List.length_append, flat_len32 r (fun x hx => h x (List.mem_cons_of_mem _ hx)), List.length_cons]
    have := h d List.mem_cons_self
    simp only [id]
    omega
theorem flat_at32 : ∀ (ds : List (List UInt8)), (∀ d ∈ ds, d.length = 32) → ∀ (k : Nat) (h : k < ds.length) (j : Nat), j < 32 → (ds.flatMap id)[32 * k + j]? = ds[k][j]?
  | [], _, k, h, _, _ => by simp at h
  | d :: r, h, 0, _, j, hj => by
    have := h d List.mem_cons_self
    rw [List.flatMap_cons, List.getElem?_append_left (by simp only [id]; omega)]
    simp
  | d :: r, h, k + 1, hk, j, hj => by
    have := h d List.mem_cons_self
    rw [List.flatMap_cons, List.getElem?_append_right (by simp only [id]; omega)]
    have e : 32 * (k + 1) + j - (id d).length = 32 * k + j := by simp only [id]; omega
    rw [e, flat_at32 r (fun x hx => h x (List.mem_cons_of_mem _ hx)) k (by simpa using hk) j hj]
    simp

abbrev zcells' : Array Value := #[Value.int IntKind.u8 0, Value.int IntKind.u8 0, Value.int IntKind.u8 0, Value.int IntKind.u8 0, Value.int IntKind.u8 0, Value.int IntKind.u8 0, Value.int IntKind.u8 0, Value.int IntKind.u8 0, Value.int IntKind.u8 0, Value.int IntKind.u8 0, Value.int IntKind.u8 0, Value.int IntKind.u8 0, Value.int IntKind.u8 0, Value.int IntKind.u8 0, Value.int IntKind.u8 0, Value.int IntKind.u8 0, Value.int IntKind.u8 0, Value.int IntKind.u8 0, Value.int IntKind.u8 0, Value.int IntKind.u8 0, Value.int IntKind.u8 0, Value.int IntKind.u8 0, Value.int IntKind.u8 0, Value.int IntKind.u8 0, Value.int IntKind.u8 0, Value.int IntKind.u8 0, Value.int IntKind.u8 0, Value.int IntKind.u8 0, Value.int IntKind.u8 0, Value.int IntKind.u8 0, Value.int IntKind.u8 0, Value.int IntKind.u8 0]

end Go.Proofs.YtapdnoellleimaaDoor

namespace Go.Proofs.YtapdnoellleimaaDoor
open Go.RowKit

attribute [local go_sem ↓] Go.wp_at_zero Go.wp_at_succ

set_option maxRecDepth 100000 in
set_option maxHeartbeats 400000 in
theorem wbytes_nil (w : World) : Calls Tryd.prog 67 #[.pointer none] w fun e w' => e = .returned (.slice none 0 0) ∧ w = w' := by
  go_enter Tryd.func67, Tryd.ntmps67
  go_wp2
  go_ret
  exact ⟨rfl, rfl⟩

set_option maxRecDepth 100000 in
set_option maxHeartbeats 400000 in
theorem wbytes_any (base a : Nat) (bs : List UInt8) (w : World) (h : Wr w base a bs) (hb : bs.length ≤ 70368744177664) :
    Calls Tryd.prog 67 #[.pointer (some ⟨a, 0, none⟩)] w fun e w' => ∃ A c, e = .returned (.slice A bs.length c) ∧ c ≤ maxLen ∧
      (bs = [] ∨ w'.ownsRow w.heap.size 5 1 (.slice A bs.length c) bs.length (bs.map bv)) ∧ Below w.heap.size w w' := by
  obtain ⟨hba, hbs, v, hbox, hown⟩ := h
  have c0 := hbox.cell 0
  simp only [List.getElem?_toArray, List.getElem?_cons_zero] at c0
  obtain ⟨i0, hi0, hz0, hz1, hz2⟩ := info_parts wr_byte_info
  have hlt := hbox.lt
  rcases Nat.eq_zero_or_pos bs.length with hz | hpos
  · have hnil : bs = [] := List.eq_nil_of_length_eq_zero hz
    subst hnil
    obtain ⟨_, hv⟩ := hown
    rcases hv with ⟨rfl, _⟩ | ⟨g, cap, cur, rfl, _, hg, _, hcm, _⟩
    · clear hbox
      go_enter Tryd.func67, Tryd.ntmps67
      go_wp2
      go_region
      all_goals
        go_wp2
        go_ret
        exact ⟨none, 0, rfl, by simp [maxLen], .inl trivial, (Below.refl _ _).drew⟩
    · clear hbox hg
      go_enter Tryd.func67, Tryd.ntmps67
      go_wp2
      go_region
      all_goals
        go_wp2
        go_ret
        exact ⟨some ⟨g, 0, none⟩, 0, rfl, by simp [maxLen], .inl trivial, (Below.refl _ _).drew⟩
  · obtain ⟨g, cap, rfl, hg1, hg2⟩ := hown.form hpos
    have hN : ∀ j u, (bs.map bv)[j]? = some u → w.drew.cell? ((⟨g, 0, none⟩ : Addr).add j) = some u := hown.cells rfl
    have HN := Lib.hid hN
    have hone := Lib.hid (bv_one bs)
    have hlen : Hid ((bs.map bv).length = bs.length * 1) := by
      show _ = _
      rw [List.length_map, Nat.mul_one]
    have hm1 : 0 + bs.length ≤ maxLen := by unfold maxLen; omega
    have hm2 : (0 + bs.length) * 1 ≤ 140737488355328 := by omega
    have hm3 : 0 < 0 + bs.length := by omega
    have hcm : cap ≤ maxLen := by
      rcases hown.2 with ⟨h, _⟩ | ⟨g', cap', cur, hv, _, _, _, hm, _⟩
      · cases h
      · injection hv with _ _ e3
        rw [e3]
        exact hm
    unfold maxLen at hcm
    clear hbox hown hN
    go_enter Tryd.func67, Tryd.ntmps67
    go_wp2
    go_region_law ((refine step_append_grows (by rfl) _ _ _ (by rfl) 5 i0 _ 1 1 Tryd.underlying22 hi0 hz0 hz1 hz2 rfl (by omega) (some ⟨g, 0, none⟩) 0 0 [] (by rfl) (fun h => by cases h) (by rfl) (fun _ _ _ _ h => by simp at h) ⟨g, 0, none⟩ bs.length cap (bs.map bv) (by rfl) hlen.out HN.out hone.out hm3 hm1 hm2 ?_; intro v1 w1 hown1 hgrow))
    all_goals
      obtain ⟨g2, cap2, rfl, hg3, hg4⟩ := hown1.form hm3
      have hown2 : w1.ownsRow w.heap.size 5 1 (.slice (some ⟨g2, 0, none⟩) bs.length cap2) bs.length (bs.map bv) := by simpa using hown1
      have HO := Lib.hid hown2
      have HG := Lib.hid hgrow
      clear hown1 hown2 hgrow c0
      go_wp2
      go_ret
      have hcap : cap2 ≤ maxLen := by
        rcases HO.out.2 with ⟨h, _⟩ | ⟨g', cap', cur, hv, _, _, _, hm, _⟩
        · cases h
        · injection hv with _ _ e3
          rw [e3]
          exact hm
      refine ⟨some ⟨g2, 0, none⟩, cap2, ret_val ?_, hcap, .inr HO.out, (Below.refl w.heap.size w).drew.grown HG.out (Nat.le_refl _) (fun k h => by cases h)⟩
      show Value.slice _ (0 + bs.length) _ = _
      rw [Nat.zero_add]

end Go.Proofs.YtapdnoellleimaaDoor
