/-
  Two readers over the same bytes, the program's and the document's.
-/
import Derived.Test.YtjloeaggcpbciaaRD
import Derived.Deep.RegionHeld3
namespace Go.Proofs.Ytjloeaggcpbciaa
open Go.RowKit

set_option maxRecDepth 100000 in
theorem Rd.past9 {w w' : World} {a m : Nat} {l l2 : List UInt8} {bad bad2 : Bool} (h : Rd w a l bad) (hr : RRd w m l2 bad2) (hne : a ≠ m) (hg : w.grownBy w' (some m)) : Rd w' a l bad := by
  obtain ⟨A, c, h1, h2, h3, h4⟩ := h
  refine ⟨A, c, h1.grown hg (fun e => hne (by injection e)), h2, h3, ?_⟩
  rcases h4 with h4 | ⟨g, o, rfl, hga, hc⟩
  · exact .inl h4
  · rcases l with _ | ⟨b0, r⟩
    · exact .inl rfl
    · have hgm : g ≠ m := by
        rintro rfl
        have h0 := hc 0 (bv b0) rfl
        have hb : Box w g 34 #[str l2, .bool bad2] := hr
        rw [hb.cell] at h0
        match o, h0 with
        | 0, h0 => simp [bv, str] at h0
        | 1, h0 => simp [bv] at h0
        | o + 2, h0 => simp at h0
      refine .inr ⟨g, o, rfl, hga, fun j u hu => ?_⟩
      have hj := hc j u hu
      have hlt := World.block_lt_of_cell? w _ hj
      exact (World.cell?_of_block (hg.block g hlt (fun e => hgm (by injection e)))).trans hj
/-- Both readers stand at the same bytes. -/
structure TwX (w7 : World) (a m : Nat) (l : List UInt8) (w : World) : Prop where
  rd : Rd w a l false
  rr : RRd w m l false
  ne : a ≠ m
  ha : w7.heap.size ≤ a
  hm : w7.heap.size ≤ m
  far : Below w7.heap.size w7 w

set_option maxRecDepth 100000 in
/-- What the program's Read leaves and answers, and then the document's. -/
theorem two_read (w7 : World) (a m : Nat) (l : List UInt8) (w : World) (h : TwX w7 a m l w) (X : ReqX) (F : List UInt8 × Bool) (hX : rqX l false = X) (hF : rqF l false = F) :
    Calls Try.prog 23 #[.pointer (some ⟨a, 0, none⟩)] w fun e w' => e = .returned (.agg X.cells.toArray) ∧
      Calls Try.prog 26 #[.pointer (some ⟨m, 0, none⟩)] w' fun e w'' => e = .returned (.agg X.cells.toArray) ∧ Rd w'' a F.1 F.2 ∧ RRd w'' m F.1 F.2 ∧ Below w7.heap.size w7 w'' := by
  subst hX hF
  refine (read_any9 a l false w h.rd).mono fun e w' ⟨he, hr, hg⟩ => ⟨he, ?_⟩
  have h2 : RRd w' m l false := h.rr.other hg (fun e => h.ne e.symm)
  refine (rread_any9 m l false w' h2).mono fun e w'' ⟨he, hr2, hg2⟩ => ⟨he, hr.past9 h2 h.ne hg2, hr2, ?_⟩
  have hb1 := h.far.trans (below_only hg h.ha h.far.size)
  exact hb1.trans (below_only hg2 h.hm hb1.size)

end Go.Proofs.Ytjloeaggcpbciaa
