/-
  What a region carries that draws its order: append(append([]api.Link{}, votes...), vote) beside a new configuration's box.
-/
import Derived.Test.YtbclepdcngaonaaDoorLkKit
import Derived.Test.YtbclepdcngaonaaDoorEA
import Derived.Test.YtbclepdcngaonaaDoorNB
namespace Go.Proofs.YtbclepdcngaonaaDoor
open Go.RowKit Go.Maps Go.Sort

structure T15 (wd : World) (vs : List LkM) (m : LkM) (fin : Bool) (v1 : Value) (xs1 : List LkM) (A8 : Option Addr) (e8 : List LkM) (gB : Option Nat) (w : World) : Prop where
  own : LkK.Own w wd.heap.size v1 xs1
  see : LkK.See w w.heap.size A8 e8
  lt : ∀ a, A8 = some a → a.block < w.heap.size
  apart : fin = true ∨ ∀ a, A8 = some a → v1.ownBlock ≠ some a.block
  bx : ∀ g, gB = some g → Box w g 24 (cfgV 0 none 0 0)
  lo : ∀ g, gB = some g → wd.heap.size ≤ g
  far : Below wd.heap.size wd w
section
variable {wd w : World} {vs xs1 e8 : List LkM} {m : LkM} {fin : Bool} {v1 : Value} {A8 : Option Addr} {gB : Option Nat}
set_option maxRecDepth 100000 in
theorem T15.start (wd : World) (vs : List LkM) (m : LkM) : T15 wd vs m false (.slice none 0 0) [] none [] none wd :=
  ⟨EK.own_nil _ _ _, .inl rfl, fun a ha => (by cases ha), .inr fun a ha => (by cases ha), fun g hg => (by cases hg), fun g hg => (by cases hg), Below.refl _ _⟩
set_option maxRecDepth 100000 in
theorem T15.lit0 (h : T15 wd vs m false (.slice none 0 0) [] A8 e8 gB w) : ∃ w' g, (bsT 25 0 #[]).run Tryd.prog w = .ok (.slice (some ⟨g, 0, none⟩) 0 0) w' ∧ T15 wd vs m false (.slice (some ⟨g, 0, none⟩) 0 0) [] A8 e8 gB w' := by
  have hb : Below w.heap.size w (w.alloc (.cells #[] 40)) := (Below.refl _ _).alloc (Nat.le_refl _) _
  refine ⟨_, _, LkK.build0 w, ⟨LkK.own0 w h.far.size, EK.See.far h.see hb, fun a ha => Nat.lt_of_lt_of_le (h.lt a ha) hb.size, .inr fun a ha e => ?_, fun g hg => (h.bx g hg).below hb (h.bx g hg).lt, h.lo, h.far.trans (hb.mono h.far.size)⟩⟩
  have := h.lt a ha
  simp [Value.ownBlock] at e
  omega
set_option maxRecDepth 100000 in
theorem T15.lit1 (h : T15 wd vs m fin v1 xs1 none [] gB w) : ∃ w' g, (bsT 25 1 #[(0, .agg m.cells.toArray)]).run Tryd.prog w = .ok (.slice (some ⟨g, 0, none⟩) 1 1) w' ∧ T15 wd vs m fin v1 xs1 (some ⟨g, 0, none⟩) [m] gB w' := by
  have hb : Below w.heap.size w (w.alloc (.cells m.cells.toArray 40)) := (Below.refl _ _).alloc (Nat.le_refl _) _
  refine ⟨_, _, LkK.build1 m (.agg m.cells.toArray) rfl (by decide) w, ⟨EK.Own.keep h.own hb, LkK.see_one w m, fun a ha => ?_, .inr fun a ha e => ?_, fun g hg => (h.bx g hg).below hb (h.bx g hg).lt, h.lo, h.far.trans (hb.mono h.far.size)⟩⟩
  · injection ha with ha
    subst ha
    show _ < (w.alloc (.cells m.cells.toArray 40)).heap.size
    simp
  · injection ha with ha
    subst ha
    have := own_lt14 h.own _ e
    simp at this
set_option maxRecDepth 100000 in
theorem T15.al (h : T15 wd vs m fin v1 xs1 A8 e8 none w) : T15 wd vs m fin v1 xs1 A8 e8 (some w.heap.size) (w.alloc (.cells (cfgV 0 none 0 0) 24)) := by
  have hb : Below w.heap.size w (w.alloc (.cells (cfgV 0 none 0 0) 24)) := (Below.refl _ _).alloc (Nat.le_refl _) _
  refine ⟨EK.Own.keep h.own hb, EK.See.far h.see hb, fun a ha => Nat.lt_of_lt_of_le (h.lt a ha) hb.size, h.apart, fun g hg => ?_, fun g hg => ?_, h.far.trans (hb.mono h.far.size)⟩
  · injection hg with hg
    subst hg
    exact Box.made _ _ _
  · injection hg with hg
    subst hg
    exact h.far.size
set_option maxRecDepth 100000 in
theorem T15.app3 {g : Nat} (h : T15 wd vs m false (.slice (some ⟨g, 0, none⟩) 0 0) [] A8 e8 gB w) {A : Option Addr} {c : Nat} (hV : LkK.See wd wd.heap.size A vs) (hl : vs.length < 1000000) :
    ∃ w' A6 c6, (apAll #[25, 25] 25 #[.slice (some ⟨g, 0, none⟩) 0 0, .slice A vs.length c]).run Tryd.prog w = .ok (.slice A6 vs.length c6) w' ∧ T15 wd vs m true (.slice A6 vs.length c6) vs A8 e8 gB w' := by
  have hl2 : vs.length * 200 ≤ 200000000 := by omega
  have hs : LkK.See w w.heap.size A vs := EK.See.far hV h.far
  obtain ⟨v6, w', hap, ho, hg⟩ := LkK.append h.own (A := A) (m := vs.length) (c := c) (es := vs) rfl hs (by simp; omega) (by show (([] : List LkM).length + vs.length) * 200 ≤ _; simp; omega) h.far.size
  rw [List.nil_append] at ho
  obtain ⟨A6, c6, rfl⟩ := ho.slice
  have hgo : (Value.slice (some ⟨g, 0, none⟩) 0 0).ownBlock = some g := rfl
  refine ⟨w', A6, c6, hap, ⟨ho, ?_, fun a ha => Nat.lt_of_lt_of_le (h.lt a ha) hg.size, .inl rfl, fun g' hg' => box_own (h.bx g' hg') h.own (by decide) hg, h.lo, h.far.trans (below_own h.own hg h.far.size)⟩⟩
  rcases h.see with h0 | ⟨g', o', e, hlt, hc⟩
  · exact .inl h0
  · have hne : some g' ≠ (Value.slice (some ⟨g, 0, none⟩) 0 0).ownBlock := by
      rcases h.apart with h0 | h0
      · cases h0
      · exact fun e2 => h0 _ e e2.symm
    exact .inr ⟨g', o', e, Nat.lt_of_lt_of_le hlt hg.size, fun j u hu => hg.cell (hc j u hu) (fun e => hne e)⟩
set_option maxRecDepth 100000 in
theorem T15.app6 {A6 : Option Addr} {c6 g8 : Nat} (h : T15 wd vs m true (.slice A6 vs.length c6) vs (some ⟨g8, 0, none⟩) [m] gB w) (hl : vs.length < 1000000) :
    ∃ w' A9 c9, (apAll #[25, 25] 25 #[.slice A6 vs.length c6, .slice (some ⟨g8, 0, none⟩) 1 1]).run Tryd.prog w = .ok (.slice A9 (vs.length + 1) c9) w' ∧ T15 wd vs m true (.slice A9 (vs.length + 1) c9) (vs ++ [m]) none [] gB w' := by
  obtain ⟨v9, w', hap, ho, hg⟩ := LkK.append h.own (A := some ⟨g8, 0, none⟩) (m := 1) (c := 1) (es := [m]) rfl h.see (by omega) (by show (vs.length + 1) * 200 ≤ _; omega) h.far.size
  obtain ⟨A9, c9, e9⟩ := ho.slice
  have hn : (vs ++ [m]).length = vs.length + 1 := by simp
  rw [hn] at e9
  subst e9
  exact ⟨w', A9, c9, hap, ⟨ho, .inl rfl, fun a ha => (by cases ha), .inl rfl, fun g' hg' => box_own (h.bx g' hg') h.own (by decide) hg, h.lo, h.far.trans (below_own h.own hg h.far.size)⟩⟩
set_option maxRecDepth 100000 in
theorem T15.call {w' : World} (h : T15 wd vs m fin v1 xs1 A8 e8 gB w) (hb : Below w.heap.size w w') : T15 wd vs m fin v1 xs1 A8 e8 gB w' :=
  ⟨EK.Own.keep h.own hb, EK.See.far h.see hb, fun a ha => Nat.lt_of_lt_of_le (h.lt a ha) hb.size, h.apart, fun g hg => (h.bx g hg).below hb (h.bx g hg).lt, h.lo, h.far.trans (hb.mono h.far.size)⟩
end
end Go.Proofs.YtbclepdcngaonaaDoor
