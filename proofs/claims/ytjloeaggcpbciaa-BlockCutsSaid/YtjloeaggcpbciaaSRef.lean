/-
  The document's answer: the digest (wapentakeref02.Of).
-/
import Derived.Test.YtjloeaggcpbciaaSA
import Derived.Test.YtjloeaggcpbciaaSNext
import Derived.Test.YtjloeaggcpbciaaSB
import Derived.Test.YtjloeaggcpbciaaSE
namespace Go.Proofs.Ytjloeaggcpbciaa
open Go.RowKit

theorem slice_part {A : Option Addr} {n c i : Nat} (hm : i + 64 ≤ n) (hc : n ≤ c) (w : World) :
    (Instr.slice 27 (.slice A n c) (some (.int .i64 (i : Int))) (some (.int .i64 ((i : Int) + 64))) none).run Try.prog w = .ok (.slice (if c = i then A else A.map (·.add i)) 64 (c - i)) w := by
  have hu : Try.prog.underlying 27 = some (.slice (Try.prog.elem 27)) := by kernel_rfl
  have hs : (sizeOf (Try.prog.elem 27)).run Try.prog w = .ok 1 w := by kernel_rfl
  rw [run_slice_lh w 27 A n c hu .i64 .i64 (i : Int) ((i : Int) + 64) (by omega) (by omega) (by omega), hs]
  have e : ((i : Int) + 64).toNat - i = 64 := by omega
  simp [sliced, e]

/-- What the walk of the digest's bytes carries of memory. -/
structure DigW (w0 : World) (g : Nat) (s : St) (n : Nat) (w : World) : Prop where
  out : ∃ z, Box w w0.heap.size 23 z ∧ z.size = 32
  d : Box w g 23 (cellsD s.bytes n)
  far : Below w0.heap.size w0 w
  high : w0.heap.size < g
theorem DigW.put {w0 w : World} {g : Nat} {s : St} {n : Nat} (h : DigW w0 g s n w) (hn : n < 32) (b : UInt8) (hb : s.bytes[n]? = some b) : DigW w0 g s (n + 1) (w.setCell ⟨g, n, none⟩ (.int .u8 (b.toNat : Int))) := by
  obtain ⟨z, hz, hs⟩ := h.out
  have hh := h.high
  have hd := h.d.put n (.int .u8 (b.toNat : Int))
  rw [cellsD_put s.bytes rfl hn b hb] at hd
  exact ⟨⟨z, hz.aside (by simp; omega) _, hs⟩, hd, h.far.setCell (by simp; omega) _, hh⟩
end Go.Proofs.Ytjloeaggcpbciaa
