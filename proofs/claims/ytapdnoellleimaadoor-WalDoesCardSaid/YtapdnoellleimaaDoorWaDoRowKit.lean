/-
  Opening a script of calls, and bytes, that are handed in.
-/
import Derived.Test.YtapdnoellleimaaDoorWaRowKit
import Derived.Test.YtapdnoellleimaaDoorWaDoes
namespace Go.Proofs.YtapdnoellleimaaDoor
open Go.ChangeShapes Go.WideShapes Go.ChangeAt Go.RowKit Go.Deep

section
variable {H : Type} {enc : TypeId × Value → H} {w : World} {base : Nat} {spare : Nat → Bool} {held : Bool} {fuel : Nat} {cs : List Value} {x : DataW H × List MemPlace}
set_option maxRecDepth 100000 in
theorem open_raw17 {b : Nat} (hw : ∀ u ∈ x.1.weights Tryd.prog 22, u ≤ b) (h : DataW.trod enc Tryd.prog w base spare held fuel 22 cs = some x) :
    ∃ (A : Option Addr) (l : List UInt8) (cap : Nat), cs = [.slice A l.length cap] ∧ l.length ≤ b ∧ True ∧ Sees w w.heap.size A (l.map bv) ∧ True := by
  obtain ⟨⟨A, l, c⟩, e, hs, hl⟩ := open_text16 hw h
  exact ⟨A, l, c, e, hl, trivial, hs, trivial⟩
set_option maxRecDepth 100000 in
theorem cells_call17 : Tryd.prog.cellsOf 44 = 5 := by kernel_rfl
set_option maxRecDepth 100000 in
theorem cells_texts17 : Tryd.prog.cellsOf 36 = 1 := by kernel_rfl
set_option maxRecDepth 100000 in
theorem cells_bytes17 : Tryd.prog.cellsOf 22 = 1 := by kernel_rfl
structure CaIn (w : World) (b : Nat) (m : CaX) : Prop where
  ints : m.InI
  list : TK.See w w.heap.size m.A m.ts
  len : m.ts.length ≤ b
  each : ∀ t ∈ m.ts, Sees w w.heap.size t.A (t.l.map bv) ∧ t.l.length ≤ b
  raw : Sees w w.heap.size m.b.A (m.b.l.map bv)
  rlen : m.b.l.length ≤ b
set_option maxRecDepth 100000 in
theorem open_call17 {b : Nat} (hw : ∀ u ∈ x.1.weights Tryd.prog 44, u ≤ b) (h : DataW.trod enc Tryd.prog w base spare held fuel 44 cs = some x) :
    ∃ m : CaX, cs = CaK.enc m ∧ CaIn w b m := by
  obtain ⟨xs, m, _, hx, hl, hxl, hf⟩ := DataW.trod_struct Tryd.underlying44 h
  rw [cells_call17] at hl
  match xs, hxl with
  | [y0, y1, y2, y3, y4], _ =>
    have h0 : DataW.trod enc Tryd.prog w base spare held m 3 ((cs.drop 0).take (Tryd.prog.cellsOf 3)) = some y0 := hf 0 _ rfl
    have h1 : DataW.trod enc Tryd.prog w base spare held m 36 ((cs.drop 1).take (Tryd.prog.cellsOf 36)) = some y1 := hf 1 _ rfl
    have h2 : DataW.trod enc Tryd.prog w base spare held m 3 ((cs.drop 2).take (Tryd.prog.cellsOf 3)) = some y2 := hf 2 _ rfl
    have h3 : DataW.trod enc Tryd.prog w base spare held m 3 ((cs.drop 3).take (Tryd.prog.cellsOf 3)) = some y3 := hf 3 _ rfl
    have h4 : DataW.trod enc Tryd.prog w base spare held m 22 ((cs.drop 4).take (Tryd.prog.cellsOf 22)) = some y4 := hf 4 _ rfl
    rw [cells_int9] at h0 h2 h3
    rw [cells_texts17] at h1
    rw [cells_bytes17] at h4
    subst hx
    simp only [DataW.weights, DataW.weightsEach, Tryd.underlying44, List.map_cons, List.map_nil, List.mem_append, List.not_mem_nil, or_false] at hw
    obtain ⟨k, e0, _, _⟩ := DataW.trod_int Tryd.underlying3 h0
    obtain ⟨A, ts, c, e1, g1, g2, g3⟩ := open_texts16 (b := b) (fun u hu => hw u (.inr (.inl hu))) h1
    obtain ⟨n, e2, _, w2⟩ := DataW.trod_int Tryd.underlying3 h2
    obtain ⟨k2, e3, _, w3⟩ := DataW.trod_int Tryd.underlying3 h3
    obtain ⟨t, e4, s1, s2⟩ := open_text16 (b := b) (fun u hu => hw u (.inr (.inr (.inr (.inr hu))))) h4
    have hn := i64_wf9 w2
    have hk := i64_wf9 w3
    unfold R64 at hn hk
    refine ⟨⟨k, A, ts, c, n, k2, t⟩, ?_, ⟨⟨by show _ ≤ n ∧ n < _; omega, by show _ ≤ k2 ∧ k2 < _; omega⟩, g2, g1, g3, s1, s2⟩⟩
    have ee : cs = cs.drop 0 := rfl
    rw [ee, cut9 cs 0 1, e0, cut9 cs (0 + 1) 1, e1, cut9 cs (0 + 1 + 1) 1, e2, cut9 cs (0 + 1 + 1 + 1) 1, e3, cut9 cs (0 + 1 + 1 + 1 + 1) 1, e4, List.drop_eq_nil_of_le (by omega)]
    rfl
set_option maxRecDepth 100000 in
theorem open_script17 {b : Nat} (hb : b ≤ 140737488351232) (hw : ∀ u ∈ x.1.weights Tryd.prog 23, u ≤ b) (h : DataW.trod enc Tryd.prog w base spare held fuel 23 cs = some x) :
    ∃ (A : Option Addr) (xs : List CaX) (cap : Nat), cs = [.slice A xs.length cap] ∧ xs.length ≤ b ∧ True ∧ CaSee w A xs ∧ ∀ m ∈ xs, Sees w w.heap.size m.b.A (m.b.l.map bv) ∧ (∀ t ∈ m.ts, Sees w w.heap.size t.A (t.l.map bv)) ∧ m.InI := by
  obtain ⟨A, xs, cap, h1, _, _, h4, h5, h6⟩ := open_rowK CaK ⟨0, none, [], 0, 0, 0, ⟨none, [], 0⟩⟩ b (fun m => CaIn w b m) cells_call17 (by kernel_rfl) (fun n cs y hy hu => open_call17 hu hy) hw h
  have h5' : xs.length * 72 ≤ b := h5
  exact ⟨A, xs, cap, h1, by omega, trivial, ⟨h4, fun m hm => (h6 m hm).list, fun m hm => ⟨Nat.le_trans (h6 m hm).rlen hb, Nat.le_trans (h6 m hm).len hb, fun t ht => Nat.le_trans ((h6 m hm).each t ht).2 hb⟩, by omega⟩, fun m hm => ⟨(h6 m hm).raw, fun t ht => ((h6 m hm).each t ht).1, (h6 m hm).ints⟩⟩
end
end Go.Proofs.YtapdnoellleimaaDoor
