/-
  Slices of slices of bytes that a literal makes.
-/
import Derived.Test.YtdgedhaiefingaaDoorSOf
namespace Go.Proofs.YtdgedhaiefingaaDoor
open Go.RowKit

/-- A slice literal of slices. -/
theorem Pieces.of_box {w : World} {B g : Nat} {t : TypeId} {ps : List (List UInt8)} {vs : List Value} (h : Box w g t vs.toArray) (hg : g < B) (hl : vs.length = ps.length)
    (hv : ∀ i (_ : i < ps.length), ∃ A' c, vs[i]? = some (.slice A' (ps.getD i []).length c) ∧ (ps.getD i []).length ≤ c ∧ c ≤ maxLen ∧ Sees w B A' ((ps.getD i []).map bv)) : Pieces w B (some ⟨g, 0, none⟩) ps :=
  ⟨vs, hl, Sees.of_box h hg, hv⟩
theorem Pieces.one {w : World} {B g : Nat} {t : TypeId} {p : List UInt8} {A : Option Addr} {c : Nat} (h : Box w g t #[.slice A p.length c]) (hg : g < B) (hc : p.length ≤ c) (hm : c ≤ maxLen) (hs : Sees w B A (p.map bv)) : Pieces w B (some ⟨g, 0, none⟩) [p] := by
  refine Pieces.of_box (vs := [.slice A p.length c]) h hg rfl (fun i hi => ?_)
  obtain rfl : i = 0 := by simpa using hi
  exact ⟨A, c, rfl, hc, hm, hs⟩

theorem Pieces.two {w : World} {B g : Nat} {t : TypeId} {p q : List UInt8} {A A' : Option Addr} {c c' : Nat} (h : Box w g t #[.slice A p.length c, .slice A' q.length c']) (hg : g < B) (hc : p.length ≤ c) (hm : c ≤ maxLen) (hs : Sees w B A (p.map bv))
    (hc' : q.length ≤ c') (hm' : c' ≤ maxLen) (hs' : Sees w B A' (q.map bv)) : Pieces w B (some ⟨g, 0, none⟩) [p, q] := by
  refine Pieces.of_box (vs := [.slice A p.length c, .slice A' q.length c']) h hg rfl (fun i hi => ?_)
  match i, hi with
  | 0, _ => exact ⟨A, c, rfl, hc, hm, hs⟩
  | 1, _ => exact ⟨A', c', rfl, hc', hm', hs'⟩
theorem Pieces.three {w : World} {B g : Nat} {t : TypeId} {p q r : List UInt8} {A A' A2 : Option Addr} {c c' c2 : Nat} (h : Box w g t #[.slice A p.length c, .slice A' q.length c', .slice A2 r.length c2]) (hg : g < B) (hc : p.length ≤ c) (hm : c ≤ maxLen) (hs : Sees w B A (p.map bv))
    (hc' : q.length ≤ c') (hm' : c' ≤ maxLen) (hs' : Sees w B A' (q.map bv)) (hc2 : r.length ≤ c2) (hm2 : c2 ≤ maxLen) (hs2 : Sees w B A2 (r.map bv)) : Pieces w B (some ⟨g, 0, none⟩) [p, q, r] := by
  refine Pieces.of_box (vs := [.slice A p.length c, .slice A' q.length c', .slice A2 r.length c2]) h hg rfl (fun i hi => ?_)
  match i, hi with
  | 0, _ => exact ⟨A, c, rfl, hc, hm, hs⟩
  | 1, _ => exact ⟨A', c', rfl, hc', hm', hs'⟩
  | 2, _ => exact ⟨A2, c2, rfl, hc2, hm2, hs2⟩
end Go.Proofs.YtdgedhaiefingaaDoor
