/-
  The document's Rises, Great, Same; wapentakelaw10.great.
  The document's Great; wapentakelaw10.great.
  wapentakelaw10.great; the document's Same of two states that are the same.
-/
import Derived.Test.YtapdnoellleimaaDoorNB
import Derived.Test.YtapdnoellleimaaDoorRB
import Derived.Lib.QuietBelow
namespace Go.Proofs.YtapdnoellleimaaDoor
open Go.RowKit

set_option maxRecDepth 100000 in
theorem sorted_of_adj {α K : Type} {lt : K → K → Bool} {key : α → K} (o : Lt3 lt) {l : List α} (h : ∀ i (hi : i + 1 < l.length), lt (key (l[i]'(by omega))) (key (l[i + 1]'hi)) = true) : SortedK lt key l := by
  unfold SortedK
  rw [List.pairwise_iff_getElem]
  intro i j hi hj hij
  induction j with
  | zero => omega
  | succ j ih =>
    by_cases e : i = j
    · subst e
      exact h i hj
    · exact o.tr (ih (by omega) (by omega)) (h j hj)
set_option maxRecDepth 100000 in
theorem sorted_adj {α K : Type} {lt : K → K → Bool} {key : α → K} {l : List α} (h : SortedK lt key l) (i : Nat) (hi : i + 1 < l.length) : lt (key (l[i]'(by omega))) (key (l[i + 1]'hi)) = true := List.pairwise_iff_getElem.1 h i (i + 1) (by omega) hi (by omega)
set_option maxRecDepth 100000 in
theorem rs_of_adj {l : List RepM} (h : ∀ i (hi : i + 1 < l.length), iLt (l[i]'(by omega)).x.client (l[i + 1]'hi).x.client = true) : RS (l.map RepM.x) := by
  refine sorted_of_adj iLt3 (fun i hi => ?_)
  rw [List.length_map] at hi
  simp only [List.getElem_map]
  exact h i hi
set_option maxRecDepth 100000 in
theorem rs_adj {l : List RepM} (h : RS (l.map RepM.x)) (i : Nat) (hi : i + 1 < l.length) : iLt (l[i]'(by omega)).x.client (l[i + 1]'hi).x.client = true := by
  have := sorted_adj h i (by rw [List.length_map]; exact hi)
  simpa only [List.getElem_map] using this

def RisesPost (s : StM) (w : World) (e : Ending) (w' : World) : Prop := ∃ r : Bool, e = .returned (.bool r) ∧ (r = true ↔ s.pl.Ris) ∧ Below w.heap.size w w'
end Go.Proofs.YtapdnoellleimaaDoor

namespace Go.Proofs.YtapdnoellleimaaDoor
open Go.RowKit

/-- What memory says of a state's sizes. -/
structure StM.Sz (s : StM) : Prop where
  ps : s.ps.length ≤ 140737488351232
  rs : s.rs.length ≤ 140737488351232
  ms : s.ms.length ≤ 140737488351232
  kv : ∀ p ∈ s.ps, p.key.size ≤ 140737488351232 ∧ p.val.size ≤ 140737488351232
  vs : ∀ r ∈ s.rs, r.x.vals.length ≤ 8796093022000 ∧ ∀ v ∈ r.x.vals, v.size ≤ 140737488351232
  ok : s.pl.Ok
def Small0 (s : StM) : Prop := s.ps.length ≤ 300 ∧ s.rs.length ≤ 100 ∧ s.ms.length ≤ 20 ∧ (∀ r ∈ s.rs, r.x.vals.length ≤ 300) ∧ s.pl.Ok
def GreatPost (s : StM) (w : World) (e : Ending) (w' : World) : Prop := ∃ g : Bool, e = .returned (.bool g) ∧ (g = false → Small0 s) ∧ Below w.heap.size w w'
set_option maxRecDepth 100000 in
theorem GreatPost.yes {s : StM} {w w' : World} (h : Below w.heap.size w w') : GreatPost s w (.returned (.bool true)) w' := ⟨true, rfl, fun h => (by cases h), h⟩

end Go.Proofs.YtapdnoellleimaaDoor

namespace Go.Proofs.YtapdnoellleimaaDoor
open Go.RowKit Go.Sort

def GrtPost (s : StM) (qs : List ReqX) (w : World) (e : Ending) (w' : World) : Prop := ∃ g : Bool, e = .returned (.bool g) ∧ (g = false → Small0 s ∧ s.pl.Ris ∧ qs.length ≤ 60) ∧ Below w.heap.size w w'
set_option maxRecDepth 100000 in
theorem GrtPost.yes {s : StM} {qs : List ReqX} {w w' : World} (h : Below w.heap.size w w') : GrtPost s qs w (.returned (.bool true)) w' := ⟨true, rfl, fun h => (by cases h), h⟩
set_option maxRecDepth 100000 in
theorem Small0.fits {s : StM} (h : Small0 s) : s.pl.Fits 0 := ⟨h.1, by show (s.rs.map RepM.x).length ≤ _; rw [List.length_map]; have := h.2.1; omega, fun r hr => by
  obtain ⟨m, hm, rfl⟩ := List.mem_map.1 hr
  exact h.2.2.2.1 m hm, h.2.2.1, h.2.2.2.2⟩

/-! ### Same, of what is the same -/
set_option maxRecDepth 100000 in
theorem same9_self (c n k : Int) (vs : List ByteArray) : same9B c n k vs c n k vs = true := by
  unfold same9B
  simp

end Go.Proofs.YtapdnoellleimaaDoor
