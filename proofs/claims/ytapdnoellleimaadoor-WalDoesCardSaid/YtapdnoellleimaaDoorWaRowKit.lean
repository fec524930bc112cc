/-
  Opening slices of slices of bytes, with their room.
-/
import Derived.Test.YtapdnoellleimaaDoorDkRowKit
namespace Go.Proofs.YtapdnoellleimaaDoor
open Go.ChangeShapes Go.WideShapes Go.ChangeAt Go.RowKit Go.Deep

section
variable {H : Type} {enc : TypeId × Value → H} {w : World} {base : Nat} {spare : Nat → Bool} {held : Bool} {fuel : Nat} {cs : List Value} {x : DataW H × List MemPlace}
set_option maxRecDepth 100000 in
theorem open_textsC17 {b : Nat} (hw : ∀ u ∈ x.1.weights Tryd.prog 36, u ≤ b) (h : DataW.trod enc Tryd.prog w base spare held fuel 36 cs = some x) :
    ∃ (A : Option Addr) (ts : List TX) (cap : Nat), cs = [.slice A ts.length cap] ∧ ts.length ≤ b ∧ ts.length ≤ cap ∧ TK.See w w.heap.size A ts ∧ ∀ t ∈ ts, Sees w w.heap.size t.A (t.l.map bv) ∧ t.l.length ≤ b := by
  obtain ⟨A, ts, cap, e, hcp, _, hs, hb, hp⟩ := open_rowK TK ⟨none, [], 0⟩ b (fun t => Sees w w.heap.size t.A (t.l.map bv) ∧ t.l.length ≤ b) (by kernel_rfl) (by kernel_rfl) (fun n cs y hy hwy => by
    obtain ⟨t, ht, h1, h2⟩ := open_text16 hwy hy
    exact ⟨t, ht, h1, h2⟩) hw h
  refine ⟨A, ts, cap, e, ?_, hcp, hs, hp⟩
  have : ts.length * 24 ≤ b := hb
  omega
end
end Go.Proofs.YtapdnoellleimaaDoor
