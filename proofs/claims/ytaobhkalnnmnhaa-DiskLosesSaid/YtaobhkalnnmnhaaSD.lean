/-
  Package sha: the digest of pieces (sha.Of).
  Slices of slices of bytes that a literal makes.
  Slices cut.
-/
import Derived.Test.YtaobhkalnnmnhaaSE
import Derived.Test.YtaobhkalnnmnhaaSA
namespace Go.Proofs.Ytaobhkalnnmnhaa
open Go.RowKit

/-- A slice of slices of bytes reads as the lists ps, below block B. -/
def Pieces (w : World) (B : Nat) (A : Option Addr) (ps : List (List UInt8)) : Prop :=
  ∃ vs : List Value, vs.length = ps.length ∧ Sees w B A vs ∧ ∀ i (_ : i < ps.length), ∃ A' c, vs[i]? = some (.slice A' (ps.getD i []).length c) ∧ (ps.getD i []).length ≤ c ∧ c ≤ maxLen ∧ Sees w B A' ((ps.getD i []).map bv)
theorem Pieces.keep {w w' : World} {B : Nat} {A : Option Addr} {ps : List (List UInt8)} (h : Pieces w B A ps) (hk : ∀ p : Addr, p.block < B → w'.cell? p = w.cell? p) : Pieces w' B A ps := by
  obtain ⟨vs, h1, h2, h3⟩ := h
  refine ⟨vs, h1, h2.keep hk, fun i hi => ?_⟩
  obtain ⟨A', c, k1, k2, k3, k4⟩ := h3 i hi
  exact ⟨A', c, k1, k2, k3, k4.keep hk⟩
theorem Pieces.more {w : World} {B B' : Nat} {A : Option Addr} {ps : List (List UInt8)} (h : Pieces w B A ps) (hB : B ≤ B') : Pieces w B' A ps := by
  obtain ⟨vs, h1, h2, h3⟩ := h
  refine ⟨vs, h1, h2.more hB, fun i hi => ?_⟩
  obtain ⟨A', c, k1, k2, k3, k4⟩ := h3 i hi
  exact ⟨A', c, k1, k2, k3, k4.more hB⟩
theorem Pieces.at_ {w : World} {B : Nat} {A : Option Addr} {ps : List (List UInt8)} (h : Pieces w B A ps) {k : Nat} (hk : k < ps.length) :
    ∃ g o A' c, A = some ⟨g, o, none⟩ ∧ w.cell? ⟨g, o + k, none⟩ = some (.slice A' (ps.getD k []).length c) ∧ (ps.getD k []).length ≤ c ∧ c ≤ maxLen ∧ Sees w B A' ((ps.getD k []).map bv) := by
  obtain ⟨vs, h1, h2, h3⟩ := h
  obtain ⟨A', c, k1, k2, k3, k4⟩ := h3 k hk
  obtain ⟨g, o, e, _, hc⟩ := h2.at_ (k := k) (by omega)
  rw [List.getElem?_eq_getElem (by omega), Option.some.injEq] at k1
  exact ⟨g, o, A', c, e, by rw [hc, k1], k2, k3, k4⟩

theorem flat_take_succ (ps : List (List UInt8)) (k : Nat) (h : k < ps.length) : (ps.take (k + 1)).flatten = (ps.take k).flatten ++ ps.getD k [] := by
  rw [List.take_succ_eq_append_getElem h, List.flatten_append, List.getD_eq_getElem?_getD, List.getElem?_eq_getElem h]
  simp
theorem flat_take_le (ps : List (List UInt8)) (k : Nat) : (ps.take k).flatten.length ≤ ps.flatten.length := by
  conv => rhs; rw [← List.take_append_drop k ps, List.flatten_append, List.length_append]
  omega

end Go.Proofs.Ytaobhkalnnmnhaa

namespace Go.Proofs.Ytaobhkalnnmnhaa
open Go.RowKit

/-- A slice literal of slices. -/
theorem Pieces.of_box {w : World} {B g : Nat} {t : TypeId} {ps : List (List UInt8)} {vs : List Value} (h : Box w g t vs.toArray) (hg : g < B) (hl : vs.length = ps.length)
    (hv : ∀ i (_ : i < ps.length), ∃ A' c, vs[i]? = some (.slice A' (ps.getD i []).length c) ∧ (ps.getD i []).length ≤ c ∧ c ≤ maxLen ∧ Sees w B A' ((ps.getD i []).map bv)) : Pieces w B (some ⟨g, 0, none⟩) ps :=
  ⟨vs, hl, Sees.of_box h hg, hv⟩
theorem Pieces.one {w : World} {B g : Nat} {t : TypeId} {p : List UInt8} {A : Option Addr} {c : Nat} (h : Box w g t #[.slice A p.length c]) (hg : g < B) (hc : p.length ≤ c) (hm : c ≤ maxLen) (hs : Sees w B A (p.map bv)) : Pieces w B (some ⟨g, 0, none⟩) [p] := by
  refine Pieces.of_box (vs := [.slice A p.length c]) h hg rfl (fun i hi => ?_)
  obtain rfl : i = 0 := by simpa using hi
  exact ⟨A, c, rfl, hc, hm, hs⟩

theorem Pieces.two {w : World} {B g : Nat} {t : TypeId} {p q : List UInt8} {A A' : Option Addr} {c c' : Nat} (h : Box w g t #[.slice A p.length c, .slice A' q.length c']) (hg : g < B) (hc : p.length ≤ c) (hm : c ≤ maxLen) (hs : Sees w B A (p.map bv))
    (hc' : q.length ≤ c') (hm' : c' ≤ maxLen) (hs' : Sees w B A' (q.map bv)) : Pieces w B (some ⟨g, 0, none⟩) [p, q] := by
  refine Pieces.of_box (vs := [.slice A p.length c, .slice A' q.length c']) h hg rfl (fun i hi => ?_)
  match i, hi with
  | 0, _ => exact ⟨A, c, rfl, hc, hm, hs⟩
  | 1, _ => exact ⟨A', c', rfl, hc', hm', hs'⟩
theorem Pieces.three {w : World} {B g : Nat} {t : TypeId} {p q r : List UInt8} {A A' A2 : Option Addr} {c c' c2 : Nat} (h : Box w g t #[.slice A p.length c, .slice A' q.length c', .slice A2 r.length c2]) (hg : g < B) (hc : p.length ≤ c) (hm : c ≤ maxLen) (hs : Sees w B A (p.map bv))
    (hc' : q.length ≤ c') (hm' : c' ≤ maxLen) (hs' : Sees w B A' (q.map bv)) (hc2 : r.length ≤ c2) (hm2 : c2 ≤ maxLen) (hs2 : Sees w B A2 (r.map bv)) : Pieces w B (some ⟨g, 0, none⟩) [p, q, r] := by
  refine Pieces.of_box (vs := [.slice A p.length c, .slice A' q.length c', .slice A2 r.length c2]) h hg rfl (fun i hi => ?_)
  match i, hi with
  | 0, _ => exact ⟨A, c, rfl, hc, hm, hs⟩
  | 1, _ => exact ⟨A', c', rfl, hc', hm', hs'⟩
  | 2, _ => exact ⟨A2, c2, rfl, hc2, hm2, hs2⟩
end Go.Proofs.Ytaobhkalnnmnhaa

namespace Go.Proofs.Ytaobhkalnnmnhaa
open Go.RowKit

/-- A slice's part: s[a:b]. -/
theorem Sees.part_of {w : World} {B : Nat} {A : Option Addr} {xs : List Value} (h : Sees w B A xs) {i cap : Nat} (hc : xs.length ≤ cap) (hi : i ≤ xs.length) (n : Nat) : Sees w B (if cap = i then A else A.map (·.add i)) ((xs.drop i).take n) := (h.cut hc hi).take n
theorem cut_three (b : List UInt8) (i j : Nat) (hij : i ≤ j) : [b.take i, (b.drop i).take (j - i), b.drop j].flatten = b := by
  simp only [List.flatten_cons, List.flatten_nil, List.append_nil]
  have e : b.drop j = (b.drop i).drop (j - i) := by rw [List.drop_drop, show i + (j - i) = j from by omega]
  rw [e, List.take_append_drop, List.take_append_drop]
theorem slice_from' {A : Option Addr} {n c m : Nat} (hm : m ≤ n) (w : World) :
    (Instr.slice 25 (.slice A n c) (some (.int .i64 (m : Int))) none none).run Try.prog w = .ok (.slice (if c = m then A else A.map (·.add m)) (n - m) (c - m)) w := slice_from hm w
theorem slice_upto {A : Option Addr} {n c i : Nat} (hi : i ≤ c) (w : World) :
    (Instr.slice 25 (.slice A n c) none (some (.int .i64 (i : Int))) none).run Try.prog w = .ok (.slice A i c) w := by
  have hu : Try.prog.underlying 25 = some (.slice (Try.prog.elem 25)) := by kernel_rfl
  have hs : (sizeOf (Try.prog.elem 25)).run Try.prog w = .ok 1 w := by kernel_rfl
  rw [run_slice_h w 25 A n c hu .i64 (i : Int) (by omega) (by omega), hs]
  rcases A with _ | a
  · simp [sliced]
  · simp [sliced, Addr.add_zero']
theorem slice_mid {A : Option Addr} {n c i j : Nat} (hij : i ≤ j) (hj : j ≤ c) (w : World) :
    (Instr.slice 25 (.slice A n c) (some (.int .i64 (i : Int))) (some (.int .i64 (j : Int))) none).run Try.prog w = .ok (.slice (if c = i then A else A.map (·.add i)) (j - i) (c - i)) w := by
  have hu : Try.prog.underlying 25 = some (.slice (Try.prog.elem 25)) := by kernel_rfl
  have hs : (sizeOf (Try.prog.elem 25)).run Try.prog w = .ok 1 w := by kernel_rfl
  rw [run_slice_lh w 25 A n c hu .i64 .i64 (i : Int) (j : Int) (by omega) (by omega) (by omega), hs]
  simp [sliced]
end Go.Proofs.Ytaobhkalnnmnhaa
