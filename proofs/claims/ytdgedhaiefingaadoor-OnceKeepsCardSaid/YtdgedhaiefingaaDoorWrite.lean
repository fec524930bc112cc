/-
  The Writer of package code: what each of its methods does, said of the bytes that were written.
-/
import Derived.Test.YtdgedhaiefingaaDoorProg
import Derived.Test.YtdgedhaiefingaaDoorKit
import Derived.Test.YtdgedhaiefingaaDoorBytes
import Derived.WalkSpells
import Derived.WalkLawsBesides
import Derived.Lib.Hide
import Derived.Deep.RegionHeld3
import Derived.Deep.RegionLaw
import Derived.Deep.DrawnRows
namespace Go.Proofs.YtdgedhaiefingaaDoor
open Go.RowKit

attribute [local go_sem ↓] Go.wp_at_zero Go.wp_at_succ

theorem wr_byte_info : (Tryd.prog.info? 5).map (fun i => (i.zero, i.size, i.bytes)) = some (some (.int .u8 0), 1, 1) := by kernel_rfl

/-- The Writer in block a has written the bytes bs; it, and the row that it owns, lie from base on. -/
def Wr (w : World) (base a : Nat) (bs : List UInt8) : Prop :=
  base ≤ a ∧ base ≤ w.heap.size ∧ ∃ v, Box w a 39 #[v] ∧ w.ownsRow base 5 1 v bs.length (bs.map bv)

/-- The blocks that are the Writer's: its own, and the row that it owns. -/
def Mine (w : World) (a k : Nat) : Prop := k = a ∨ ∃ v, w.cell? ⟨a, 0, none⟩ = some v ∧ v.ownBlock = some k

/-- Nothing but what is the Writer's, and what is new, has turned; and of what was there nothing more has become the Writer's. -/
structure WF (a : Nat) (w w' : World) : Prop where
  os : w'.os = w.os
  tape : w'.tape = w.tape
  output : w'.output = w.output
  size : w.heap.size ≤ w'.heap.size
  block : ∀ k, k < w.heap.size → ¬ Mine w a k → w'.heap[k]? = w.heap[k]?
  mine : ∀ k, k < w.heap.size → ¬ Mine w a k → ¬ Mine w' a k

theorem WF.refl (a : Nat) (w : World) : WF a w w := ⟨rfl, rfl, rfl, Nat.le_refl _, fun _ _ _ => rfl, fun _ _ h => h⟩
theorem WF.trans {a : Nat} {u v w : World} (h : WF a u v) (k : WF a v w) : WF a u w :=
  ⟨k.os.trans h.os, k.tape.trans h.tape, k.output.trans h.output, Nat.le_trans h.size k.size,
    fun i hi hn => (k.block i (Nat.lt_of_lt_of_le hi h.size) (h.mine i hi hn)).trans (h.block i hi hn), fun i hi hn => k.mine i (Nat.lt_of_lt_of_le hi h.size) (h.mine i hi hn)⟩
/-- A step that leaves all blocks that were there alone, the Writer's too. -/
theorem WF.of_below {a : Nat} {w w' : World} (h : Below w.heap.size w w') (ha : a < w.heap.size) : WF a w w' :=
  ⟨h.os, h.tape, h.output, h.size, fun k hk _ => h.block k hk, fun k _ hn hm => hn (by
    rcases hm with rfl | ⟨v, hv, ho⟩
    · exact .inl rfl
    · exact .inr ⟨v, (h.cell (p := ⟨a, 0, none⟩) ha) ▸ hv, ho⟩)⟩
theorem Wr.lt {w : World} {base a : Nat} {bs : List UInt8} (h : Wr w base a bs) : a < w.heap.size := by
  obtain ⟨_, _, v, hb, _⟩ := h
  exact hb.lt
theorem Wr.mine_ge {w : World} {base a k : Nat} {bs : List UInt8} (h : Wr w base a bs) (hm : Mine w a k) : base ≤ k := by
  obtain ⟨hba, _, v, hb, ho⟩ := h
  rcases hm with rfl | ⟨v', hv, hk⟩
  · exact hba
  · have e := hb.cell 0
    rw [hv] at e
    simp only [List.getElem?_toArray, List.getElem?_cons_zero, Option.some.injEq] at e
    subst e
    exact (ho.lt k hk).1
theorem Wr.not_mine {w : World} {base a g : Nat} {bs : List UInt8} (h : Wr w base a bs) {t : TypeId} {cs : Array Value} (hg : Box w g t cs) (h1 : t ≠ 5) (h2 : t ≠ 39) : ¬ Mine w a g := by
  obtain ⟨_, _, v, hb, ho⟩ := h
  rintro (rfl | ⟨v', hv, hk⟩)
  · exact Box.apart hg hb h2 rfl
  · have e := hb.cell 0
    rw [hv] at e
    simp only [List.getElem?_toArray, List.getElem?_cons_zero, Option.some.injEq] at e
    subst e
    exact hg.own_ne ho (Ne.symm h1) hk
theorem WF.below {w w' : World} {base a : Nat} {bs : List UInt8} (h : WF a w w') (hw : Wr w base a bs) : Below base w w' :=
  ⟨h.os, h.tape, h.output, h.size, fun k hk => h.block k (Nat.lt_of_lt_of_le hk hw.2.1) (fun hm => by have := hw.mine_ge hm; omega)⟩
theorem Wr.below_size {w w' : World} {base a : Nat} {bs : List UInt8} (h : Wr w base a bs) (hb : Below w.heap.size w w') : Wr w' base a bs := by
  have hlt := h.lt
  obtain ⟨h1, h2, v, h3, h4⟩ := h
  refine ⟨h1, Nat.le_trans h2 hb.size, v, h3.below hb hlt, h4.kept (row := none) ⟨hb.os, hb.tape, hb.output, hb.size, fun k hk _ => hb.block k hk⟩ ?_⟩
  rcases h4.2 with ⟨rfl, _⟩ | ⟨g, cap, cur, rfl, _⟩
  · exact .inl rfl
  · exact .inr (by simp [Value.ownBlock])

/-- What an append, laid into the Writer, makes of it: from the worlds ahead (wr), behind what was laid for it (w0), and behind the append (w1). -/
theorem Wr.step {wr w0 w1 : World} {base a gg cap m : Nat} {bs more : List UInt8} {v : Value} (hba : base ≤ a) (hbs : base ≤ wr.heap.size) (hbox : Box wr a 39 #[v]) (hown : wr.ownsRow base 5 1 v bs.length (bs.map bv))
    (h0 : Below wr.heap.size wr w0) (hgrow : w0.grownBy w1 v.ownBlock) (hown1 : w1.ownsRow base 5 1 (.slice (some ⟨gg, 0, none⟩) m cap) m (bs.map bv ++ more.map bv)) (hat : v.ownBlock = some gg ∨ wr.heap.size ≤ gg) (hm : m = bs.length + more.length) :
    Wr (w1.setCell ⟨a, 0, none⟩ (.slice (some ⟨gg, 0, none⟩) m cap)) base a (bs ++ more) ∧ WF a wr (w1.setCell ⟨a, 0, none⟩ (.slice (some ⟨gg, 0, none⟩) m cap)) := by
  subst hm
  have hne := hbox.own_ne hown (by decide)
  have hb0 := hbox.below h0 hbox.lt
  have hb1 := hb0.grown hgrow (Ne.symm hne)
  have hne1 := hb1.own_ne hown1 (by decide)
  have hs1 : wr.heap.size ≤ w1.heap.size := Nat.le_trans h0.size hgrow.size
  have hput := hb1.put 0 (.slice (some ⟨gg, 0, none⟩) (bs.length + more.length) cap)
  have hput' : Box (w1.setCell ⟨a, 0, none⟩ (.slice (some ⟨gg, 0, none⟩) (bs.length + more.length) cap)) a 39 #[.slice (some ⟨gg, 0, none⟩) (bs.length + more.length) cap] := by simpa using hput
  have hmine : ∀ k, v.ownBlock = some k → Mine wr a k := fun k hk => .inr ⟨v, by rw [hbox.cell]; rfl, hk⟩
  refine ⟨⟨hba, ?_, .slice (some ⟨gg, 0, none⟩) (bs.length + more.length) cap, hput', ?_⟩, ⟨(hgrow.os.trans h0.os), (hgrow.tape.trans h0.tape), (hgrow.output.trans h0.output), by simpa [World.setCell] using hs1, fun k hk hn => ?_, fun k hk hn hm => ?_⟩⟩
  · simp [World.setCell]
    omega
  · have := ownsRow_setCell_other hown1 (a := ⟨a, 0, none⟩) hne1 (.slice (some ⟨gg, 0, none⟩) (bs.length + more.length) cap)
    rw [List.length_append, List.map_append]
    exact this
  · rw [heap_setCell_other _ _ _ _ (fun e => hn (.inl e)), hgrow.block k (Nat.lt_of_lt_of_le hk h0.size) (fun e => hn (hmine k e.symm)), h0.block k hk]
  · rcases hm with rfl | ⟨v', hv, ho⟩
    · exact hn (.inl rfl)
    · have e := hput'.cell 0
      rw [hv] at e
      simp only [List.getElem?_toArray, List.getElem?_cons_zero, Option.some.injEq] at e
      subst e
      have hk2 : k = gg := by simpa [Value.ownBlock] using ho.symm
      subst hk2
      rcases hat with h | h
      · exact hn (hmine k h)
      · omega

set_option maxHeartbeats 800000 in
theorem put_any (base a n k : Nat) (bs : List UInt8) (w : World) (hk : k ≤ 8) (h : Wr w base a bs) (hb : bs.length + k ≤ 70368744177664) :
    Calls Tryd.prog 33 #[.pointer (some ⟨a, 0, none⟩), .int .u64 n, .int .i64 k] w fun e w' =>
      e = .returned (.tuple #[]) ∧ Wr w' base a (bs ++ beBytes k n) ∧ WF a w w' := by
  go_enter Tryd.func33, Tryd.ntmps33
  go_wp2
  go_loopw [6] (fun s wr => ∃ (j : Nat) (S : Int) (done : List UInt8), j ≤ k ∧ s = .int .i64 S ∧ Hid (S = 8 * (j : Int) - 8) ∧ Hid (done ++ beBytes j n = beBytes k n) ∧ Hid (Wr wr base a (bs ++ done)) ∧ Hid (WF a w wr)) (fun s _ => (intOf s + 8).toNat)
  case atStart => exact ⟨k, _, [], Nat.le_refl _, rfl, (by show 8 * ((k : Int) - 1) = _; omega), rfl, (by rw [List.append_nil]; exact h), WF.refl _ _⟩
  case round =>
    obtain ⟨j, S, done, hj, rfl, hS, hd, hW, hB⟩ := hrel
    rcases j with _ | j
    · have hS0 : S < 0 := by have := hS.out; omega
      go_wp2
      go_end0
      have e : done = beBytes k n := by
        have := hd.out
        simpa [beBytes] using this
      subst e
      exact ⟨rfl, hW.out, hB.out⟩
    · have hS0 : 0 ≤ S := by have := hS.out; omega
      have hS1 : S ≤ 56 := by have := hS.out; omega
      obtain ⟨hba, hbs, v, hbox, hown⟩ := hW.out
      have c0 := hbox.cell 0
      have f0 := hbox.free 0
      simp only [List.getElem?_toArray, List.getElem?_cons_zero] at c0
      obtain ⟨i0, hi0, hz0, hz1, hz2⟩ := info_parts wr_byte_info
      have hlt := hbox.lt
      have hne := hbox.own_ne hown (by decide)
      have hdl : done.length + (j + 1) = k := by
        have e := congrArg List.length hd.out
        rw [List.length_append, beBytes_length, beBytes_length] at e
        exact e
      have hm1 : (bs ++ done).length + 1 ≤ maxLen := by rw [List.length_append]; unfold maxLen; omega
      have hm2 : ((bs ++ done).length + 1) * 1 ≤ 140737488355328 := by rw [List.length_append]; omega
      go_wp2
      go_region_law ((refine step_append_lies _ (by rfl) _ _ _ (by rfl) base 5 i0 _ 1 1 Tryd.underlying37 hi0 hz0 hz1 hz2 rfl (by omega) v (bs ++ done).length ((bs ++ done).map bv) (by rfl) ((hown.alloc _).drew) ⟨wr.heap.size, 0, none⟩ 1 1 _ (by rfl) (by rfl) (World.news_of_block (heap_alloc_new wr _)) (by simp [Value.oneCell']) (by omega) hm1 hm2 (by simp; omega) (wr.heap.size + 1) (by simp) ?_; intro gg cap w1 hown1 hgrow hat hlt1; have hb1 := ((hbox.alloc _).drew).grown hgrow (Ne.symm hne); have k0 := hb1.cell 0; have k1 := hb1.free 0; simp only [List.getElem?_toArray, List.getElem?_cons_zero] at k0))
      all_goals
        have hbyte := put_byte n j S hS.out
        have hown2 : w1.ownsRow base 5 1 (.slice (some ⟨gg, 0, none⟩) (bs.length + done.length + 1) cap) (bs.length + done.length + 1) ((bs ++ done).map bv ++ [UInt8.ofNat (n / 256 ^ j)].map bv) := by
          rw [hbyte] at hown1
          rw [List.length_append] at hown1
          exact hown1
        have R := Wr.step (m := bs.length + done.length + 1) hba hbs hbox hown (((Below.refl _ _).alloc (Nat.le_refl _) _).drew) hgrow hown2 (hat.imp_right (fun e => by omega)) (by simp)
        have HR1 := Lib.hid R.1
        have HR2 := Lib.hid (hB.out.trans R.2)
        have HS2 : Hid (S - 8 = 8 * (j : Int) - 8) := by
          show _ = _
          have := hS.out
          omega
        have HD2 := Lib.hid (beBytes_step done j n k hd.out)
        clear R hown2 hbyte hown1 hgrow hat hb1 k0 k1 hown hbox c0 f0 hne hm1 hm2 hdl hz0 hz1 hz2 hi0 hW hB hd hS h
        go_wp2
        go_roundw
        case rel => exact ⟨j, S - 8, done ++ [UInt8.ofNat (n / 256 ^ j)], by omega, rfl, HS2, HD2, (by rw [← List.append_assoc]; exact HR1), HR2⟩
        case measure => simp [intOf]; omega

end Go.Proofs.YtdgedhaiefingaaDoor
