/-
  The document's Reader (the reference's): what each of its methods does, said as of the program's own.
  The document's Reader, on: Text.
-/
import Derived.Test.YtapdnoellleimaaDoorRd
import Derived.IntWalk
namespace Go.Proofs.YtapdnoellleimaaDoor
open Go.RowKit

/-- The reference's Reader in block a has l left; bad: there was a fault. -/
def RRd (w : World) (a : Nat) (l : List UInt8) (bad : Bool) : Prop := Box w a 93 #[str l, .bool bad]
theorem RRd.lt {w : World} {a : Nat} {l : List UInt8} {bad : Bool} (h : RRd w a l bad) : a < w.heap.size := Box.lt h
theorem RRd.below {w w' : World} {a B : Nat} {l : List UInt8} {bad : Bool} (h : RRd w a l bad) (hb : Below B w w') (ha : a < B) : RRd w' a l bad := Box.below h hb ha
theorem RRd.other {w w' : World} {a r : Nat} {l : List UInt8} {bad : Bool} (h : RRd w a l bad) (hb : w.grownBy w' (some r)) (hne : a ≠ r) : RRd w' a l bad := Box.grown h hb (by simpa using hne)
theorem RRd.cells {w : World} {a : Nat} {l : List UInt8} {bad : Bool} (h : RRd w a l bad) : w.cell? ⟨a, 0, none⟩ = some (str l) ∧ w.cell? ⟨a, 1, none⟩ = some (.bool bad) ∧ w.frozen? ⟨a, 0, none⟩ = false ∧ w.frozen? ⟨a, 1, none⟩ = false :=
  ⟨by rw [Box.cell h]; rfl, by rw [Box.cell h]; rfl, Box.free h 0, Box.free h 1⟩
theorem RRd.set {w : World} {a : Nat} {l l2 : List UInt8} {bad : Bool} (h : RRd w a l bad) : RRd (w.setCell ⟨a, 0, none⟩ (str l2)) a l2 bad ∧ w.grownBy (w.setCell ⟨a, 0, none⟩ (str l2)) (some a) :=
  ⟨by have := Box.put h 0 (str l2); simpa [RRd] using this, only_put (only_refl _ _) _ _⟩
theorem RRd.fail {w : World} {a : Nat} {l : List UInt8} {bad : Bool} (h : RRd w a l bad) : RRd ((w.setCell ⟨a, 1, none⟩ (.bool true)).setCell ⟨a, 0, none⟩ (.string ⟨#[]⟩)) a [] true ∧ w.grownBy ((w.setCell ⟨a, 1, none⟩ (.bool true)).setCell ⟨a, 0, none⟩ (.string ⟨#[]⟩)) (some a) :=
  ⟨by
    have h1 : Box (w.setCell ⟨a, 1, none⟩ (.bool true)) a 93 #[str l, .bool true] := by have := Box.put h 1 (.bool true); simpa using this
    have := Box.put h1 0 (.string ⟨#[]⟩)
    simpa [RRd] using this, only_put (only_put (only_refl _ _) _ _) _ _⟩

/-- What Take answers: a number below 0 is a fault. -/
def rtk (n : Int) (l : List UInt8) (bad : Bool) : List UInt8 × List UInt8 × Bool := if n < 0 then ([], [], true) else tk n.toNat l bad

set_option maxRecDepth 100000 in
set_option maxHeartbeats 800000 in
theorem rtake_any (a : Nat) (n : Int) (l : List UInt8) (bad : Bool) (w : World) (h : RRd w a l bad) :
    Calls Tryd.prog 62 #[.pointer (some ⟨a, 0, none⟩), .int .i64 n] w fun e w' => e = .returned (str (rtk n l bad).1) ∧ RRd w' a (rtk n l bad).2.1 (rtk n l bad).2.2 ∧ w.grownBy w' (some a) := by
  have hF := Lib.hid h.fail
  obtain ⟨c0, c1, f0, f1⟩ := h.cells
  have hsz : (ByteArray.mk l.toArray).size = l.length := by show l.toArray.size = _; simp
  cases bad
  case true =>
    have e : rtk n l true = ([], [], true) := by unfold rtk; split; rfl; exact tk_no (by simp)
    rw [e]
    go_enter Tryd.func62, Tryd.ntmps62
    go_wp2
    go_ret
    exact ⟨rfl, hF.out.1, hF.out.2⟩
  by_cases h0 : n < 0
  · have e : rtk n l false = ([], [], true) := by unfold rtk; rw [if_pos h0]
    rw [e]
    go_enter Tryd.func62, Tryd.ntmps62
    go_wp2
    go_ret
    exact ⟨rfl, hF.out.1, hF.out.2⟩
  have h0' : decide (n < 0) = false := by simpa using h0
  obtain ⟨m, rfl⟩ : ∃ m : Nat, n = (m : Int) := ⟨n.toNat, by omega⟩
  have er : rtk (m : Int) l false = tk m l false := by unfold rtk; rw [if_neg h0]; rfl
  rw [er]
  clear er
  by_cases h1 : (l.length : Int) < (m : Int)
  · rw [tk_no (by omega)]
    go_enter Tryd.func62, Tryd.ntmps62
    go_wp2
    go_ret
    exact ⟨rfl, hF.out.1, hF.out.2⟩
  · have h1' : decide ((l.length : Int) < (m : Int)) = false := by simpa using h1
    rw [tk_yes (by omega)]
    clear hF
    go_enter Tryd.func62, Tryd.ntmps62
    go_wp2
    go_ret
    have e1 : (ByteArray.mk l.toArray).extract 0 m = ⟨(l.take m).toArray⟩ := by
      rw [ByteArray.extract_mk, List.drop_zero, Nat.sub_zero]
    have e2 : (ByteArray.mk l.toArray).extract m l.length = ⟨(l.drop m).toArray⟩ := by
      rw [ByteArray.extract_mk, List.take_of_length_le (by rw [List.length_drop]; exact Nat.le_refl _)]
    have hset := h.set (l2 := l.drop m)
    rw [e1, e2]
    exact ⟨rfl, hset.1, hset.2⟩

set_option maxRecDepth 100000 in
set_option maxHeartbeats 400000 in
theorem rgood_any (a : Nat) (l : List UInt8) (bad : Bool) (w : World) (h : RRd w a l bad) : Calls Tryd.prog 52 #[.pointer (some ⟨a, 0, none⟩)] w fun e w' => e = .returned (.bool (!bad)) ∧ w = w' := by
  obtain ⟨c0, c1, f0, f1⟩ := h.cells
  clear h
  go_enter Tryd.func52, Tryd.ntmps52
  go_wp2
  go_ret
  exact ⟨rfl, rfl⟩

theorem numV_bad {l : List UInt8} {bad : Bool} (h : (tk 8 l bad).2.2 = true) : numV l bad = 0 ∧ (tk 8 l bad).2 = ([], true) := by
  rcases Classical.em (bad = false ∧ 8 ≤ l.length) with ⟨rfl, hl⟩ | hn
  · rw [tk_yes hl] at h
    cases h
  · unfold numV
    rw [tk_no hn]
    exact ⟨by rw [beNat_nil]; unfold wrap64; decide, by simp⟩

/-- The bytes so far, laid into an array of zeros: one byte more. -/
theorem lay_byte (p : List UInt8) (k : Nat) (hk : k < p.length) (hp : p.length ≤ 32) :
    ((p.take k ++ zeros.drop k).map bv).toArray.setIfInBounds k (bv p[k]) = ((p.take (k + 1) ++ zeros.drop (k + 1)).map bv).toArray := by
  have hl : (p.take k).length = k := by rw [List.length_take]; omega
  have hz : zeros.drop k = zeros[k]'(by show k < 32; omega) :: zeros.drop (k + 1) := List.drop_eq_getElem_cons (by show k < 32; omega)
  rw [List.setIfInBounds_toArray, ← List.map_set, List.set_append_right _ _ (by omega), hl, Nat.sub_self, hz, List.set_cons_zero, take_snoc' p k hk, List.append_assoc]
  rfl

end Go.Proofs.YtapdnoellleimaaDoor

namespace Go.Proofs.YtapdnoellleimaaDoor
open Go.RowKit

theorem tk4_bad {l : List UInt8} {bad : Bool} (h : (tk 4 l bad).2.2 = true) : tk 4 l bad = ([], [], true) := by
  rcases Classical.em (bad = false ∧ 4 ≤ l.length) with ⟨rfl, hl⟩ | hn
  · rw [tk_yes hl] at h
    cases h
  · exact tk_no hn

set_option maxRecDepth 100000 in
set_option maxHeartbeats 800000 in
theorem rtext_any (a : Nat) (most : Int) (l : List UInt8) (bad : Bool) (w : World) (h : RRd w a l bad) :
    Calls Tryd.prog 51 #[.pointer (some ⟨a, 0, none⟩), .int .i64 most] w fun e w' => e = .returned (str (txtV most l bad).1) ∧ RRd w' a (txtV most l bad).2.1 (txtV most l bad).2.2 ∧ w.grownBy w' (some a) := by
  have HT := Lib.hid (rtake_any a 4 l bad w h)
  have HL := tk_len 4 l bad
  have hbad := tk4_bad (l := l) (bad := bad)
  unfold txtV
  rw [show rtk 4 l bad = tk 4 l bad from rfl] at HT
  generalize tk 4 l bad = t at *
  obtain ⟨p, l2, b2⟩ := t
  simp only at HL hbad ⊢
  clear h
  generalize hv : (if b2 = true ∨ most < (beNat p : Int) then (([] : List UInt8), ([] : List UInt8), true) else tk (beNat p) l2 b2) = v at *
  have HV := Lib.hid hv
  clear hv hbad
  obtain ⟨v1, v2, v3⟩ := v
  simp only
  go_enter Tryd.func51, Tryd.ntmps51
  go_wp2_with fail
  refine (HT.out).mono ?_
  rintro e w1 ⟨rfl, hR, hG⟩
  have HR := Lib.hid hR
  have HG := Lib.hid hG
  clear hR hG HT
  have hsz : (ByteArray.mk p.toArray).size = p.length := by show p.toArray.size = _; simp
  go_wp2
  go_loopw [6, 7] (fun n i wr => ∃ k : Nat, k ≤ p.length ∧ i = .int .i64 k ∧ n = .int .i64 (beNat (p.take k) : Int) ∧ wr = w1) (fun _ i _ => p.length - (intOf i).toNat)
  case atStart => exact ⟨0, Nat.zero_le _, rfl, rfl, rfl⟩
  case round =>
    obtain ⟨k, hk, rfl, rfl, rfl⟩ := hrel
    by_cases hlt : k < p.length
    · have h1 := beNat_lt3 (p.take k) (by rw [List.length_take]; omega)
      have h3 := take_snoc' p k hlt
      have h4 := beNat_snoc (p.take k) p[k]
      have h5 : (ByteArray.mk p.toArray)[k] = p[k] := rfl
      have h6 := p[k].toNat_lt
      have h7 : (beNat (p.take (k + 1)) : Int) = (beNat (p.take k) : Int) * 256 + p[k].toNat := by rw [h3, h4]; omega
      clear h3 h4
      go_wp2
      go_roundw
      case rel => exact ⟨k + 1, by omega, by go_num, congrArg (Value.int .i64) h7.symm, by trivial⟩
      case measure => simp [intOf]; omega
    · have e : p.take k = p := List.take_of_length_le (by omega)
      rw [e]
      have hF : Calls Tryd.prog 62 #[.pointer (some ⟨a, 0, none⟩), .int .i64 (-1)] wr fun e w' => e = .returned (str []) ∧ RRd w' a [] true ∧ wr.grownBy w' (some a) := rtake_any a (-1) l2 b2 wr HR.out
      have HF := Lib.hid hF
      have hF2 := rtake_any a (beNat p : Int) l2 b2 wr HR.out
      rw [show rtk (beNat p : Int) l2 b2 = tk (beNat p) l2 b2 from by unfold rtk; rw [if_neg (by omega), Int.toNat_natCast]] at hF2
      have HF2 := Lib.hid hF2
      clear hF hF2
      generalize beNat p = N at *
      by_cases h1 : most < (N : Int)
      · have e := HV.out
        rw [if_pos (.inr h1)] at e
        simp only [Prod.mk.injEq] at e
        obtain ⟨rfl, rfl, rfl⟩ := e
        clear HV HF2
        go_wp2_with fail
        refine (HF.out).mono ?_
        rintro e w2 ⟨rfl, hR2, hG2⟩
        have HR2 := Lib.hid hR2
        have HG2 := Lib.hid hG2
        clear hR2 hG2
        go_wp2
        go_ret
        exact ⟨rfl, HR2.out, only_trans HG.out HG2.out⟩
      · have h1' : decide (most < (N : Int)) = false := by simpa using h1
        have e : tk N l2 b2 = (v1, v2, v3) := by
          rw [← HV.out]
          by_cases hb : b2 = true
          · rw [if_pos (.inl hb), hb, tk_no (by simp)]
          · rw [if_neg (fun h => h.elim hb h1)]
        rw [e] at HF2
        clear HV HF e
        go_wp2_with fail
        refine (HF2.out).mono ?_
        rintro e w2 ⟨rfl, hR2, hG2⟩
        have HR2 := Lib.hid hR2
        have HG2 := Lib.hid hG2
        clear hR2 hG2
        go_wp2
        go_ret
        exact ⟨rfl, HR2.out, only_trans HG.out HG2.out⟩

end Go.Proofs.YtapdnoellleimaaDoor
