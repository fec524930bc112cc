/-
  Opening the handed arguments of block's laws: blocks.
-/
import Derived.Test.YtbclepdcngaonaaGreatDoorRX
import Derived.Test.YtbclepdcngaonaaGreatDoorBA
namespace Go.Proofs.YtbclepdcngaonaaGreatDoor
open Go.ChangeShapes Go.WideShapes Go.ChangeAt Go.RowKit Go.Deep

section
variable {H : Type} {enc : TypeId × Value → H} {w : World} {base : Nat} {spare : Nat → Bool} {held : Bool} {fuel : Nat} {cs : List Value} {x : DataW H × List MemPlace}
set_option maxRecDepth 100000 in
theorem cells_block12 : Tryz.prog.cellsOf 32 = 99 := by kernel_rfl
set_option maxRecDepth 100000 in
theorem cells_digest12 : Tryz.prog.cellsOf 29 = 32 := by kernel_rfl
set_option maxRecDepth 100000 in
theorem cells_reqs12 : Tryz.prog.cellsOf 30 = 1 := by kernel_rfl
/-- What is known of a block that is handed in. -/
structure BlkIn (w : World) (b : Nat) (m : BlkM) : Prop where
  epoch : R64 m.x.epoch
  height : R64 m.x.height
  len : m.x.reqs.length ≤ b
  see : QSee w w.heap.size m.A m.x.reqs
  num : ∀ q ∈ m.x.reqs, R64 q.client ∧ R64 q.num ∧ R64 q.kind ∧ R64 q.ck ∧ R64 q.cid ∧ R64 q.cn ∧ R64 q.high
  txt : ∀ q ∈ m.x.reqs, q.key.size ≤ b ∧ q.val.size ≤ b ∧ q.old.size ≤ b
set_option maxRecDepth 100000 in
theorem open_blk12 {b : Nat} (hw : ∀ u ∈ x.1.weights Tryz.prog 32, u ≤ b) (h : DataW.trod enc Tryz.prog w base spare held fuel 32 cs = some x) :
    ∃ m : BlkM, cs = m.cells ∧ BlkIn w b m := by
  obtain ⟨xs, m, _, hx, hl, hxl, hf⟩ := DataW.trod_struct Tryz.underlying32 h
  rw [cells_block12] at hl
  match xs, hxl with
  | [y0, y1, y2, y3, y4, y5], _ =>
    have h0 : DataW.trod enc Tryz.prog w base spare held m 3 ((cs.drop 0).take (Tryz.prog.cellsOf 3)) = some y0 := hf 0 _ rfl
    have h1 : DataW.trod enc Tryz.prog w base spare held m 3 ((cs.drop 1).take (Tryz.prog.cellsOf 3)) = some y1 := hf 1 _ rfl
    have h2 : DataW.trod enc Tryz.prog w base spare held m 29 ((cs.drop 2).take (Tryz.prog.cellsOf 29)) = some y2 := hf 2 _ rfl
    have h3 : DataW.trod enc Tryz.prog w base spare held m 29 ((cs.drop 34).take (Tryz.prog.cellsOf 29)) = some y3 := hf 3 _ rfl
    have h4 : DataW.trod enc Tryz.prog w base spare held m 29 ((cs.drop 66).take (Tryz.prog.cellsOf 29)) = some y4 := hf 4 _ rfl
    have h5 : DataW.trod enc Tryz.prog w base spare held m 30 ((cs.drop 98).take (Tryz.prog.cellsOf 30)) = some y5 := hf 5 _ rfl
    rw [cells_int9] at h0 h1
    rw [cells_digest12] at h2 h3 h4
    rw [cells_reqs12] at h5
    subst hx
    simp only [DataW.weights, DataW.weightsEach, Tryz.underlying32, List.map_cons, List.map_nil, List.mem_append, List.not_mem_nil, or_false] at hw
    obtain ⟨e, e0, _, w0⟩ := DataW.trod_int Tryz.underlying3 h0
    obtain ⟨hh, e1, _, w1⟩ := DataW.trod_int Tryz.underlying3 h1
    obtain ⟨p, hp, e2⟩ := open_digest8 h2
    obtain ⟨s, hs, e3⟩ := open_digest8 h3
    obtain ⟨n, hn, e4⟩ := open_digest8 h4
    obtain ⟨A, qs, z, e5, hlq, hsq, hq⟩ := open_reqs10 (fun u hu => hw u (.inr (.inr (.inr (.inr (.inr hu)))))) h5
    refine ⟨⟨⟨e, hh, p, s, n, qs, hp, hs, hn⟩, A, z⟩, ?_, ⟨i64_wf9 w0, i64_wf9 w1, by show qs.length ≤ b; omega, hsq, fun q h => (hq q h).1, fun q h => (hq q h).2⟩⟩
    have e : cs = cs.drop 0 := rfl
    rw [e, cut9 cs 0 1, e0, cut9 cs (0 + 1) 1, e1, cut9 cs (0 + 1 + 1) 32, e2, cut9 cs (0 + 1 + 1 + 32) 32, e3, cut9 cs (0 + 1 + 1 + 32 + 32) 32, e4, cut9 cs (0 + 1 + 1 + 32 + 32 + 32) 1, e5, List.drop_eq_nil_of_le (by omega)]
    show _ = bkL _ _ _ _ _ _
    unfold bkL
    simp
end
end Go.Proofs.YtbclepdcngaonaaGreatDoor
