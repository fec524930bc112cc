/-
  A handed script of calls, opened.
-/
import Derived.Test.YtpldnjlfmagccaaDoorKRowKit
import Derived.Test.YtpldnjlfmagccaaDoorRiCall
namespace Go.Proofs.YtpldnjlfmagccaaDoor
open Go.ChangeShapes Go.WideShapes Go.ChangeAt Go.RowKit Go.Deep

set_option maxRecDepth 100000 in
theorem cells_call : Tryd.prog.cellsOf 32 = 36 := by kernel_rfl
set_option maxRecDepth 100000 in
theorem cells_u8 : Tryd.prog.cellsOf 5 = 1 := by kernel_rfl
set_option maxRecDepth 100000 in
theorem cut_off (cs : List Value) (o n : Nat) : cs.drop o = (cs.drop o).take n ++ cs.drop (o + n) := by
  rw [← List.drop_drop, List.take_append_drop]
set_option maxRecDepth 100000 in
theorem open_call {H : Type} {enc : TypeId × Value → H} {w : World} {base : Nat} {spare : Nat → Bool} {held : Bool} {fuel : Nat} {cs : List Value} {x : DataW H × List MemPlace} (h : DataW.trod enc Tryd.prog w base spare held fuel 32 cs = some x) : ∃ y : CallX, cs = y.cells := by
  obtain ⟨xs, m, _, _, hl, hxl, hf⟩ := DataW.trod_struct Tryd.underlying32 h
  rw [cells_call] at hl
  match xs, hxl with
  | [y0, y1, y2, y3, y4], _ =>
    have h0 : DataW.trod enc Tryd.prog w base spare held m 3 ((cs.drop 0).take (Tryd.prog.cellsOf 3)) = some y0 := hf 0 _ rfl
    have h1 : DataW.trod enc Tryd.prog w base spare held m 5 ((cs.drop 1).take (Tryd.prog.cellsOf 5)) = some y1 := hf 1 _ rfl
    have h2 : DataW.trod enc Tryd.prog w base spare held m 3 ((cs.drop 2).take (Tryd.prog.cellsOf 3)) = some y2 := hf 2 _ rfl
    have h3 : DataW.trod enc Tryd.prog w base spare held m 3 ((cs.drop 3).take (Tryd.prog.cellsOf 3)) = some y3 := hf 3 _ rfl
    have h4 : DataW.trod enc Tryd.prog w base spare held m 30 ((cs.drop 4).take (Tryd.prog.cellsOf 30)) = some y4 := hf 4 _ rfl
    rw [cells_int] at h0 h2 h3
    rw [cells_u8] at h1
    rw [cells_digest] at h4
    obtain ⟨n0, e0, _, _⟩ := DataW.trod_int Tryd.underlying3 h0
    obtain ⟨n1, e1, _, w1⟩ := DataW.trod_int Tryd.underlying5 h1
    obtain ⟨n2, e2, _, _⟩ := DataW.trod_int Tryd.underlying3 h2
    obtain ⟨n3, e3, _, _⟩ := DataW.trod_int Tryd.underlying3 h3
    obtain ⟨d, hd, e4⟩ := open_digest h4
    obtain ⟨b, rfl⟩ := u8_byte w1
    refine ⟨⟨n0, b, n2, n3, d, hd⟩, ?_⟩
    have e : cs = cs.drop 0 := rfl
    rw [e, cut_off cs 0 1, e0, cut_off cs (0 + 1) 1, e1, cut_off cs (0 + 1 + 1) 1, e2, cut_off cs (0 + 1 + 1 + 1) 1, e3, cut_off cs (0 + 1 + 1 + 1 + 1) 32, e4, List.drop_eq_nil_of_le (by omega)]
    simp [CallX.cells, callL, bv]
set_option maxRecDepth 100000 in
theorem open_script {H : Type} {enc : TypeId × Value → H} {w : World} {base : Nat} {spare : Nat → Bool} {held : Bool} {fuel : Nat} {cs : List Value} {x : DataW H × List MemPlace}
    (h : DataW.trod enc Tryd.prog w base spare held fuel 22 cs = some x) :
    ∃ (A : Option Addr) (ks : List CallX) (cap : Nat), cs = [.slice A ks.length cap] ∧ ks.length ≤ cap ∧ cap ≤ maxLen ∧ Cals w w.heap.size A ks := by
  rcases open_slice Tryd.underlying22 h with ⟨rfl, rfl⟩ | ⟨a, len, cap, m, n, D, Pl, rfl, hb, hl, hm, hmm, rfl, hi⟩
  · exact ⟨none, [], 0, rfl, Nat.le_refl _, by simp [maxLen], .inl rfl⟩
  · have hlm : len ≤ m := by rw [hmm]; split <;> omega
    have hex : ∀ i, i < len → ∃ y : CallX, ∀ j, j < 36 → w.cell? (a.add (i * 36 + j)) = y.cells[j]? := by
      intro i hil
      obtain ⟨cs', hc, ht⟩ := hi i (by omega)
      rw [cells_call] at hc
      obtain ⟨_, hcl, hat⟩ := World.cells?_some hc
      obtain ⟨y, e⟩ := open_call ht
      subst e
      refine ⟨y, fun j hj => ?_⟩
      have h1 := hat j hj
      rw [add_two] at h1
      exact h1
    obtain ⟨F, hF⟩ : ∃ F : Nat → CallX, ∀ i, i < len → ∀ j, j < 36 → w.cell? (a.add (i * 36 + j)) = (F i).cells[j]? :=
      ⟨fun i => if hi : i < len then (hex i hi).choose else ⟨0, 0, 0, 0, List.replicate 32 0, rfl⟩, fun i hi => by
        simp only [dif_pos hi]
        exact (hex i hi).choose_spec⟩
    have hlen : ((List.range len).map F).length = len := by simp
    refine ⟨some a, (List.range len).map F, cap, by rw [hlen], by rw [hlen]; exact hl, hm, sees_of_addr fun j u hu => ?_⟩
    have hj : j < len * 36 := by
      have := (List.getElem?_eq_some_iff.1 hu).1
      rw [flat_len CallX.cells 36 CallX.cells_len, hlen] at this
      omega
    obtain ⟨y, h1, h2⟩ := flat_get CallX.cells 36 CallX.cells_len ((List.range len).map F) j (by rw [hlen]; exact hj)
    rw [h2] at hu
    have hk : j / 36 < len := by omega
    rw [List.getElem?_map, List.getElem?_range hk] at h1
    obtain rfl : F (j / 36) = y := by simpa using h1
    have hc := hF (j / 36) hk (j % 36) (Nat.mod_lt _ (by decide))
    rw [show j / 36 * 36 + j % 36 = j by omega] at hc
    rw [hc, hu]
end Go.Proofs.YtpldnjlfmagccaaDoor
