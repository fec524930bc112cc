/-
  Rows of digests that grow: literals, appends, as the frozen calls answer.
-/
import Derived.Test.YtdgedhaiefingaaDoorTBuild
namespace Go.Proofs.YtdgedhaiefingaaDoor
open Go.RowKit

theorem digs_one (w : World) {d : List UInt8} (hd : d.length = 32) : Digs (w.alloc (.cells (d.map bv).toArray 23)) (w.alloc (.cells (d.map bv).toArray 23)).heap.size (some ⟨w.heap.size, 0, none⟩) [d] := by
  have hX : Box (w.alloc (.cells (d.map bv).toArray 23)) w.heap.size 23 (d.map bv).toArray := Box.made _ _ _
  exact ⟨AllD.one hd, by simpa using Sees.of_box hX hX.lt⟩
theorem build_one (d : List UInt8) (hd : d.length = 32) (w : World) :
    (bsAll 1 #[(0, .agg (d.map bv).toArray)]).run Tryd.prog w = .ok (.slice (some ⟨w.heap.size, 0, none⟩) 1 1) (w.alloc (.cells (d.map bv).toArray 23)) := by
  have h := build_digs [d] (AllD.one hd) (by simp) (by simp) w
  have e : ([d] : List (List UInt8)).flatten = d := by simp
  rw [e] at h
  exact h
/-- One digest more, made where the literal is: what the frozen append answers, whatever world it is asked in. -/
theorem push_dig {w0 w : World} {ps : List (List UInt8)} {Ap : Option Addr} {n cp : Nat} (hn : n = ps.length) (h : PaW w0 (.slice Ap n cp) ps w) (hle : n + 1 ≤ 1099511627776) {d : List UInt8} (hd : d.length = 32) :
    ∃ A6 c6 w6, (apAll #[27, 27] 27 #[.slice Ap n cp, .slice (some ⟨w.heap.size, 0, none⟩) 1 1]).run Tryd.prog (w.alloc (.cells (d.map bv).toArray 23)) = .ok (.slice A6 (n + 1) c6) w6 ∧ PaW w0 (.slice A6 (n + 1) c6) (ps ++ [d]) w6 := by
  subst hn
  have hB5 : Below w.heap.size w (w.alloc (.cells (d.map bv).toArray 23)) := (Below.refl _ _).alloc (Nat.le_refl _) _
  have hown5 := h.own.alloc (.cells (d.map bv).toArray 23)
  have hsz5 := Nat.le_trans h.far.size hB5.size
  obtain ⟨v6, w6, hap, hown6, hg6⟩ := append_digs rfl hown5 (A := some ⟨w.heap.size, 0, none⟩) (m := 1) (c := 1) (es := [d]) rfl (digs_one w hd) hle hsz5
  obtain ⟨A6, c6, rfl⟩ := own_slice_s hown6
  exact ⟨A6, c6, w6, hap, by rw [List.length_append]; exact hown6, h.all.append (AllD.one hd), (h.far.trans (hB5.mono h.far.size)).trans (below_own hown5 hg6 hsz5)⟩
/-- append([]Digest{d}, es...): what the frozen append answers. -/
theorem front_dig {w : World} {d : List UInt8} (hd : d.length = 32) {A : Option Addr} {m c : Nat} {es : List (List UInt8)} (hm : m = es.length) (he : Digs w w.heap.size A es) (hle : m + 1 ≤ 1099511627776) :
    ∃ A6 c6 w6, (apAll #[27, 27] 27 #[.slice (some ⟨w.heap.size, 0, none⟩) 1 1, .slice A m c]).run Tryd.prog (w.alloc (.cells (d.map bv).toArray 23)) = .ok (.slice A6 (m + 1) c6) w6 ∧ Digs w6 w6.heap.size A6 (d :: es) ∧ Below w.heap.size w w6 := by
  have hB5 : Below w.heap.size w (w.alloc (.cells (d.map bv).toArray 23)) := (Below.refl _ _).alloc (Nat.le_refl _) _
  have hown := World.ownsRow_lit (base := w.heap.size) (size := 32) w (e := 23) (d.map bv).toArray 1 (Nat.le_refl _) (by simp [maxLen]) (by rw [List.size_toArray, List.length_map, hd])
  have hfl : (d.map bv).toArray.toList = ([d] : List (List UInt8)).flatten.map bv := by simp
  rw [hfl] at hown
  obtain ⟨v6, w6, hap, hown6, hg6⟩ := append_digs (n := 1) (ds := [d]) rfl hown (A := A) (m := m) (c := c) (es := es) hm (he.far hB5) (by omega) hB5.size
  rw [Nat.add_comm 1 m] at hown6
  obtain ⟨A6, c6, rfl⟩ := own_slice_s hown6
  subst hm
  refine ⟨A6, c6, w6, hap, ⟨(AllD.one hd).append he.all, sees_own hown6⟩, hB5.trans (below_own hown hg6 hB5.size)⟩
theorem build_none (w : World) : (bsAll 0 #[]).run Tryd.prog w = .ok (.slice (some ⟨w.heap.size, 0, none⟩) 0 0) (w.alloc (.cells #[] 23)) := by
  obtain ⟨i0, hi0, hz0, hz1, hz2⟩ := info_parts dig_info3
  have hu : Tryd.prog.underlying 27 = some (.slice 23) := Tryd.underlying27
  have hs : (sizeOf 23).run Tryd.prog w = .ok 32 w := by kernel_rfl
  unfold bsAll Instr.buildSlice
  simp [Sem.run_bind, run_underlying hu, hs, newRow, Instr.fill, Array.range_zero']
/-- append([]Digest{}, ds...): what the frozen append answers. -/
theorem copy_digs {w : World} {A : Option Addr} {m c : Nat} {es : List (List UInt8)} (hm : m = es.length) (he : Digs w w.heap.size A es) (hle : m ≤ 1099511627000) :
    ∃ A6 c6 w6, (apAll #[27, 27] 27 #[.slice (some ⟨w.heap.size, 0, none⟩) 0 0, .slice A m c]).run Tryd.prog (w.alloc (.cells #[] 23)) = .ok (.slice A6 m c6) w6 ∧ PaW w (.slice A6 m c6) es w6 := by
  have hB5 : Below w.heap.size w (w.alloc (.cells #[] 23)) := (Below.refl _ _).alloc (Nat.le_refl _) _
  have hown := World.ownsRow_lit (base := w.heap.size) (size := 32) w (e := 23) #[] 0 (Nat.le_refl _) (by simp [maxLen]) (by simp)
  obtain ⟨v6, w6, hap, hown6, hg6⟩ := append_digs (n := 0) (ds := []) rfl hown (A := A) (m := m) (c := c) (es := es) hm (he.far hB5) (by omega) hB5.size
  rw [Nat.zero_add, List.nil_append] at hown6
  obtain ⟨A6, c6, rfl⟩ := own_slice_s hown6
  subst hm
  exact ⟨A6, c6, w6, hap, hown6, he.all, hB5.trans (below_own hown hg6 hB5.size)⟩
/-- Two appends, one behind the other, onto a new row: a list that is seen, and one digest more. -/
theorem two_appends {w W : World} {g b : Nat} {ps : List (List UInt8)} {Ap : Option Addr} {cp : Nat} {o : List UInt8} (hW : Below w.heap.size w W) (hown : W.ownsRow w.heap.size 23 32 (.slice (some ⟨g, 0, none⟩) 0 0) 0 ([] : List Value)) (hb : Box W b 23 (o.map bv).toArray) (hne : b ≠ g) (hP : Digs w w.heap.size Ap ps) (ho : o.length = 32) (hle : ps.length + 1 ≤ 1099511627776) :
    ∃ A2 c2 w2 B2 e2 x2, (apAll #[27, 27] 27 #[.slice (some ⟨g, 0, none⟩) 0 0, .slice Ap ps.length cp]).run Tryd.prog W = .ok (.slice A2 ps.length c2) w2 ∧ Below w.heap.size w w2 ∧
      (apAll #[27, 27] 27 #[.slice A2 ps.length c2, .slice (some ⟨b, 0, none⟩) 1 1]).run Tryd.prog w2 = .ok (.slice B2 (ps.length + 1) e2) x2 ∧ Digs x2 x2.heap.size B2 (ps ++ [o]) ∧ Below w.heap.size w x2 ∧ ps.length + 1 ≤ e2 := by
  obtain ⟨v2, w2, hap, hown2, hg2⟩ := append_digs (n := 0) (ds := []) rfl hown (A := Ap) (m := ps.length) (c := cp) (es := ps) rfl (hP.far hW) (by omega) hW.size
  rw [Nat.zero_add, List.nil_append] at hown2
  obtain ⟨A2, c2, rfl⟩ := own_slice_s hown2
  have hW2 := hW.trans (below_own hown hg2 hW.size)
  have hb2 : Box w2 b 23 (o.map bv).toArray := hb.grown hg2 (fun e => hne (by simpa [Value.ownBlock] using e))
  have hd2 : Digs w2 w2.heap.size (some ⟨b, 0, none⟩) [o] := ⟨AllD.one ho, by simpa using Sees.of_box hb2 hb2.lt⟩
  obtain ⟨v3, x2, hap3, hown3, hg3⟩ := append_digs rfl hown2 (A := some ⟨b, 0, none⟩) (m := 1) (c := 1) (es := [o]) rfl hd2 hle hW2.size
  obtain ⟨B2, e2, rfl⟩ := own_slice_s hown3
  have hform := OwnD.form hown3
  exact ⟨A2, c2, w2, B2, e2, x2, hap, hW2, hap3, ⟨hP.all.append (AllD.one ho), sees_own hown3⟩, hW2.trans (below_own hown2 hg3 hW2.size), hform.1⟩
theorem own_none (w : World) {base : Nat} (hb : base ≤ w.heap.size) : (w.alloc (.cells #[] 23)).ownsRow base 23 32 (.slice (some ⟨w.heap.size, 0, none⟩) 0 0) 0 ([] : List Value) :=
  World.ownsRow_lit (base := base) (size := 32) w (e := 23) #[] 0 hb (by simp [maxLen]) (by simp)
abbrev zs32 : Array Value := (List.replicate 32 (Value.int .u8 0)).toArray
theorem dig_same (d : List UInt8) (hd : d.length = 32) : (d.map bv).toArray.size = zs32.size := by
  rw [List.size_toArray, List.length_map, hd]
  rfl
theorem Box.range {w : World} {g : Nat} {t : TypeId} {cs : List Value} (h : Box w g t cs.toArray) : w.rangeAt g 0 cs := fun j v hv => by
  rw [Nat.zero_add, h.cell, List.getElem?_toArray]
  exact hv
theorem dig_list (d : List UInt8) (hd : d.length = 32) : (Tryd.prog.info? 23).map (·.size) = some (d.map bv).length := by
  rw [List.length_map, hd]
  kernel_rfl
theorem digs_made (w : World) {ds : List (List UInt8)} (h : AllD ds) : Digs (w.alloc (.cells (ds.flatten.map bv).toArray 23)) (w.alloc (.cells (ds.flatten.map bv).toArray 23)).heap.size (some ⟨w.heap.size, 0, none⟩) ds := by
  have hX : Box (w.alloc (.cells (ds.flatten.map bv).toArray 23)) w.heap.size 23 (ds.flatten.map bv).toArray := Box.made _ _ _
  exact ⟨h, by simpa using Sees.of_box hX hX.lt⟩
theorem sees_const (w : World) (x : UInt8) : Sees (w.alloc (.cells #[bv x] 5 (1, 2))) (w.alloc (.cells #[bv x] 5 (1, 2))).heap.size (some ⟨w.heap.size, 0, none⟩) (([x] : List UInt8).map bv) := by
  refine .inr ⟨w.heap.size, 0, rfl, by simp, fun j u hu => ?_⟩
  rw [Nat.zero_add, World.cell?_alloc_mark, List.getElem?_toArray]
  exact hu
end Go.Proofs.YtdgedhaiefingaaDoor
