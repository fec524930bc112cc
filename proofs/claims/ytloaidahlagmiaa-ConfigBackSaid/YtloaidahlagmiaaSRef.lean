/-
  The document's answer: the digest (wapentakeref02.Of).
-/
import Derived.Test.YtloaidahlagmiaaSA
import Derived.Test.YtloaidahlagmiaaSNext
import Derived.Test.YtloaidahlagmiaaSB
import Derived.Test.YtloaidahlagmiaaSStart
namespace Go.Proofs.Ytloaidahlagmiaa
open Go.RowKit

/-- What the walk of the digest's bytes carries of memory. -/
structure DigW (w0 : World) (g : Nat) (s : St) (n : Nat) (w : World) : Prop where
  out : ∃ z, Box w w0.heap.size 27 z ∧ z.size = 32
  d : Box w g 27 (cellsD s.bytes n)
  far : Below w0.heap.size w0 w
  high : w0.heap.size < g
theorem DigW.put {w0 w : World} {g : Nat} {s : St} {n : Nat} (h : DigW w0 g s n w) (hn : n < 32) (b : UInt8) (hb : s.bytes[n]? = some b) : DigW w0 g s (n + 1) (w.setCell ⟨g, n, none⟩ (.int .u8 (b.toNat : Int))) := by
  obtain ⟨z, hz, hs⟩ := h.out
  have hh := h.high
  have hd := h.d.put n (.int .u8 (b.toNat : Int))
  rw [cellsD_put s.bytes rfl hn b hb] at hd
  exact ⟨⟨z, hz.aside (by simp; omega) _, hs⟩, hd, h.far.setCell (by simp; omega) _, hh⟩
end Go.Proofs.Ytloaidahlagmiaa
