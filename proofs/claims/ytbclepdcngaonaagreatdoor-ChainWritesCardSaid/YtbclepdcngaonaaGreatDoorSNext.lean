/-
  The document's answer for a block (wapentakeref02.Next): the same state.
-/
import Derived.Test.YtbclepdcngaonaaGreatDoorSB
namespace Go.Proofs.YtbclepdcngaonaaGreatDoor
open Go.RowKit

/-- What the walk of Next carries of memory. -/
structure NextW (w0 : World) (b : List UInt8) (s : St) (g o n : Nat) (w : World) : Prop where
  st : Box w w0.heap.size 136 s.vals
  ks : Box w (w0.heap.size + 1) 178 (roots.map wv).toArray
  out : ∃ z, Box w (w0.heap.size + 1 + 1) 136 z ∧ z.size = 8
  ws : Box w (w0.heap.size + 1 + 1 + 1) 178 (cellsW b n)
  far : Below w0.heap.size w0 w
  bytes : ∀ j, j < 64 → w.cell? ⟨g, o + j, none⟩ = some (.int .u8 ((b.getD j 0).toNat : Int))
  low : g < w0.heap.size
theorem NextW.drewN {w0 : World} {b : List UInt8} {s : St} {g o n : Nat} {w : World} (h : NextW w0 b s g o n w) (m : Nat) : NextW w0 b s g o n (w.drewN m) :=
  ⟨h.st, h.ks, h.out, h.ws, below_drewN h.far m, h.bytes, h.low⟩
theorem NextW.drew {w0 : World} {b : List UInt8} {s : St} {g o n : Nat} {w : World} (h : NextW w0 b s g o n w) : NextW w0 b s g o n w.drew :=
  ⟨h.st, h.ks, h.out, h.ws, h.far.drew, h.bytes, h.low⟩
theorem NextW.cells {w0 : World} {b : List UInt8} {s : St} {g o n : Nat} {w : World} (h : NextW w0 b s g o n w) :
    w.cell? ⟨w0.heap.size, 0, none⟩ = some (.int .u32 (wi s.a)) ∧ w.cell? ⟨w0.heap.size, 1, none⟩ = some (.int .u32 (wi s.b)) ∧ w.cell? ⟨w0.heap.size, 2, none⟩ = some (.int .u32 (wi s.c)) ∧ w.cell? ⟨w0.heap.size, 3, none⟩ = some (.int .u32 (wi s.d)) ∧
    w.cell? ⟨w0.heap.size, 4, none⟩ = some (.int .u32 (wi s.e)) ∧ w.cell? ⟨w0.heap.size, 5, none⟩ = some (.int .u32 (wi s.f)) ∧ w.cell? ⟨w0.heap.size, 6, none⟩ = some (.int .u32 (wi s.g)) ∧ w.cell? ⟨w0.heap.size, 7, none⟩ = some (.int .u32 (wi s.h)) := by
  refine ⟨?_, ?_, ?_, ?_, ?_, ?_, ?_, ?_⟩ <;> (rw [h.st.cell]; rfl)
/-- A word is stored behind those that stand. -/
theorem NextW.put {w0 : World} {b : List UInt8} {s : St} {g o n : Nat} {w : World} (h : NextW w0 b s g o n w) (hn : n < 64) :
    NextW w0 b s g o (n + 1) (w.setCell ⟨w0.heap.size + 1 + 1 + 1, n, none⟩ (.int .u32 (wi (wd b n)))) := by
  obtain ⟨z, hz, hs⟩ := h.out
  have hl := h.low
  refine ⟨h.st.aside (by simp; omega) _, h.ks.aside (by simp) _, ⟨z, hz.aside (by simp) _, hs⟩, ?_, h.far.setCell (by simp; omega) _, fun j hj => ?_, h.low⟩
  · have := h.ws.put n (.int .u32 (wi (wd b n)))
    rw [cellsW_put b hn] at this
    exact this
  · exact (World.cell?_of_block (heap_setCell_other w _ g _ (by simp; omega))).trans (h.bytes j hj)
end Go.Proofs.YtbclepdcngaonaaGreatDoor
