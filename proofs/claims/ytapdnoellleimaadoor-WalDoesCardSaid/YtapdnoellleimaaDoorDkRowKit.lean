/-
  Opening slices of slices of bytes, and slices of bools, that are handed in.
-/
import Derived.Test.YtapdnoellleimaaDoorRX
import Derived.Test.YtapdnoellleimaaDoorPB
namespace Go.Proofs.YtapdnoellleimaaDoor
open Go.ChangeShapes Go.WideShapes Go.ChangeAt Go.RowKit Go.Deep

section
variable {H : Type} {enc : TypeId × Value → H} {w : World} {base : Nat} {spare : Nat → Bool} {held : Bool} {fuel : Nat} {cs : List Value} {x : DataW H × List MemPlace}
set_option maxRecDepth 100000 in
theorem open_text16 {b : Nat} (hw : ∀ u ∈ x.1.weights Tryd.prog 22, u ≤ b) (h : DataW.trod enc Tryd.prog w base spare held fuel 22 cs = some x) : ∃ t : TX, cs = TK.enc t ∧ Sees w w.heap.size t.A (t.l.map bv) ∧ t.l.length ≤ b := by
  obtain ⟨A, l, cap, e, _, _, hs, hb, _⟩ := open_rowK DB 0 b (fun _ => True) (by kernel_rfl) (by kernel_rfl) (fun n cs y hy _ => by
    obtain ⟨z, hz, _, hwf⟩ := DataW.trod_int Tryd.underlying5 hy
    refine ⟨UInt8.ofNat z.toNat, ?_, trivial⟩
    have h2 : 0 ≤ z ∧ z ≤ 255 := by
      simp [Lit.wf, IntKind.min, IntKind.max, IntKind.signed, IntKind.bits] at hwf
      omega
    rw [hz]
    show [Value.int .u8 z] = [bv (UInt8.ofNat z.toNat)]
    unfold bv
    congr 2
    simp
    omega) hw h
  refine ⟨⟨A, l, cap⟩, e, DB_sees hs, ?_⟩
  have h1 : l.length * 1 ≤ b := hb
  show l.length ≤ b
  omega
set_option maxRecDepth 100000 in
theorem open_texts16 {b : Nat} (hw : ∀ u ∈ x.1.weights Tryd.prog 36, u ≤ b) (h : DataW.trod enc Tryd.prog w base spare held fuel 36 cs = some x) :
    ∃ (A : Option Addr) (ts : List TX) (cap : Nat), cs = [.slice A ts.length cap] ∧ ts.length ≤ b ∧ TK.See w w.heap.size A ts ∧ ∀ t ∈ ts, Sees w w.heap.size t.A (t.l.map bv) ∧ t.l.length ≤ b := by
  obtain ⟨A, ts, cap, e, _, _, hs, hb, hp⟩ := open_rowK TK ⟨none, [], 0⟩ b (fun t => Sees w w.heap.size t.A (t.l.map bv) ∧ t.l.length ≤ b) (by kernel_rfl) (by kernel_rfl) (fun n cs y hy hwy => by
    obtain ⟨t, ht, h1, h2⟩ := open_text16 hwy hy
    exact ⟨t, ht, h1, h2⟩) hw h
  refine ⟨A, ts, cap, e, ?_, hs, hp⟩
  have : ts.length * 24 ≤ b := hb
  omega
set_option maxRecDepth 100000 in
theorem open_bools16 {b : Nat} (hw : ∀ u ∈ x.1.weights Tryd.prog 58, u ≤ b) (h : DataW.trod enc Tryd.prog w base spare held fuel 58 cs = some x) :
    ∃ (A : Option Addr) (bs : List Bool) (cap : Nat), cs = [.slice A bs.length cap] ∧ bs.length ≤ b ∧ BoK.See w w.heap.size A bs ∧ True := by
  obtain ⟨A, bs, cap, e, _, _, hs, hb, _⟩ := open_rowK BoK false b (fun _ => True) (by kernel_rfl) (by kernel_rfl) (fun n cs y hy _ => by
    obtain ⟨v, hv, _⟩ := DataW.trod_bool Tryd.underlying4 hy
    exact ⟨v, hv, trivial⟩) hw h
  refine ⟨A, bs, cap, e, ?_, hs, trivial⟩
  have : bs.length * 1 ≤ b := hb
  omega
end
end Go.Proofs.YtapdnoellleimaaDoor
