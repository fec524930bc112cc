/-
  A byte of a converted text is turned; the first records of a slice.
-/
import Derived.Test.YtapdnoellleimaaDoorWaLoPl
import Derived.Test.YtapdnoellleimaaDoorWaRsplit
namespace Go.Proofs.YtapdnoellleimaaDoor
open Go.RowKit Go.Maps

set_option maxRecDepth 100000 in
theorem conv_put17 (l : List UInt8) (at_ : Nat) (hat : at_ < l.length) (hl : l.length ≤ 1000000) (w : World) : ∃ cap w', (convert 9 22 (str l)).run Tryd.prog w = .ok (.slice (some ⟨w.heap.size, 0, none⟩) l.length cap) w' ∧ l.length ≤ cap ∧ cap ≤ maxLen ∧ w'.cell? ⟨w.heap.size, at_, none⟩ = some (bv l[at_]) ∧ w'.frozen? ⟨w.heap.size, at_, none⟩ = false ∧
    ∀ d : UInt8, RowB (w'.setCell ⟨w.heap.size, at_, none⟩ (bv d)) w.heap.size ⟨some ⟨w.heap.size, 0, none⟩, l.set at_ d, cap⟩ ∧ Below w.heap.size w (w'.setCell ⟨w.heap.size, at_, none⟩ (bv d)) := by
  have hr := Lib.run_convert_string_bytes (P := Tryd.prog) w 9 22 5 ⟨l.toArray⟩ Tryd.underlying9 Tryd.underlying22 Tryd.underlying5
  obtain ⟨cap, w', h1, h2, h2', h3, h4⟩ := conv17 l (by omega) w
  have hsz : (ByteArray.mk l.toArray).size = l.length := by show l.toArray.size = _; rw [List.size_toArray]
  rw [hsz] at hr
  have e := hr.symm.trans h1
  injection e with e1 e2
  have hh : w'.heap[w.heap.size]? = some (.cells (Lib.bytesCells w 5 ⟨l.toArray⟩) 5 ((Lib.bytesCells w 5 ⟨l.toArray⟩).size, (Lib.bytesCells w 5 ⟨l.toArray⟩).size + 1)) := by
    rw [← e2]
    exact Lib.bytesWorld_at_new w 5 ⟨l.toArray⟩
  have hbs : l.length ≤ (Lib.bytesCells w 5 ⟨l.toArray⟩).size := by
    unfold Lib.bytesCells
    rw [Array.size_append]
    simp
  obtain ⟨g, cs, fr, hA, _, hc, hx⟩ := h3
  injection hA with hA
  injection hA with hA
  subst hA
  rw [hh] at hc
  injection hc with hc
  injection hc with hc1 hc2 hc3
  refine ⟨cap, w', h1, h2, h2', ?_, ?_, fun d => ⟨⟨w.heap.size, cs.setIfInBounds at_ (bv d), fr, rfl, Nat.le_refl _, ?_, fun j u hu => ?_⟩, h4.setCell (Nat.le_refl _) _⟩⟩
  · rw [cell_of_row _ _ _ _ _ _ hh, hc1]
    exact hx at_ _ (by rw [List.getElem?_map, List.getElem?_eq_getElem hat]; rfl)
  · unfold World.frozen?
    simp only [hh]
    simp
    omega
  · rw [← hc1, ← hc3]
    simp [World.setCell, Array.getElem?_modify, hh]
  · rw [← hc1] at hx ⊢
    rw [List.map_set, List.getElem?_set] at hu
    rw [Array.getElem?_setIfInBounds]
    by_cases hj : at_ = j
    · subst hj
      rw [if_pos rfl] at hu ⊢
      rw [if_pos (by rw [List.length_map]; exact hat)] at hu
      rw [if_pos (by omega)]
      exact hu
    · rw [if_neg hj] at hu ⊢
      exact hx j u hu
set_option maxRecDepth 100000 in
theorem bits_byte (op : BinOp) (x y : Int) : ∃ d : UInt8, Value.int .u8 (bits op .u8 x y) = bv d := by
  have h := bits_within op .u8 x y
  have h1 : (0 : Int) ≤ bits op .u8 x y ∧ bits op .u8 x y ≤ 255 := by
    simp [IntKind.min, IntKind.max, IntKind.signed, IntKind.bits] at h
    exact h
  refine ⟨UInt8.ofNat (bits op .u8 x y).toNat, ?_⟩
  unfold bv
  congr 1
  simp
  omega
set_option maxRecDepth 100000 in
/-- What a byte that is turned leaves of records. -/
theorem split_turned (xs : List (List UInt8)) (hx : ∀ x ∈ xs, x.length < 4294967296) (k at_ : Nat) (d : UInt8) (h : (framesB (xs.take k)).length ≤ at_) : ∃ r, splitB ((framesB xs).set at_ d) = xs.take k ++ r := by
  have e : framesB xs = framesB (xs.take k) ++ framesB (xs.drop k) := by rw [← framesB_app, List.take_append_drop]
  rw [e, List.set_append, if_neg (by omega)]
  exact ⟨_, splitB_frames (xs.take k) _ (fun x h => hx x (List.mem_of_mem_take h))⟩
set_option maxRecDepth 100000 in
theorem TK_flat (ts : List TX) : TK.flat ts = ts.map fun t => .slice t.A t.l.length t.c := by
  show ts.flatMap (fun t => [Value.slice t.A t.l.length t.c]) = _
  induction ts with
  | nil => rfl
  | cons t r ih => rw [List.flatMap_cons, ih]; rfl
set_option maxRecDepth 100000 in
theorem TK_take {w : World} {B : Nat} {A : Option Addr} {ts : List TX} (h : TK.See w B A ts) (k : Nat) : TK.See w B A (ts.take k) := by
  have h2 : Sees w B A (TK.flat ts) := h
  rw [TK_flat] at h2
  show Sees w B A (TK.flat (ts.take k))
  rw [TK_flat, List.map_take]
  exact Sees.take h2 k
set_option maxRecDepth 100000 in
theorem slice_uptoT {A : Option Addr} {n c i : Nat} (hi : i ≤ c) (w : World) :
    (Instr.slice 36 (.slice A n c) none (some (.int .i64 (i : Int))) none).run Tryd.prog w = .ok (.slice A i c) w := by
  have hu : Tryd.prog.underlying 36 = some (.slice (Tryd.prog.elem 36)) := by kernel_rfl
  have hs : (sizeOf (Tryd.prog.elem 36)).run Tryd.prog w = .ok 1 w := by kernel_rfl
  rw [run_slice_h w 36 A n c hu .i64 (i : Int) (by omega) (by omega), hs]
  rcases A with _ | a
  · simp [sliced]
  · simp [sliced, Addr.add_zero']
end Go.Proofs.YtapdnoellleimaaDoor
