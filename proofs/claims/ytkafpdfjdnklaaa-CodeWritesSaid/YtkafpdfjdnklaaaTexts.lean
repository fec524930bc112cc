/-
  Opening a handed []string; three arguments.
-/
import Derived.Test.YtkafpdfjdnklaaaParts
namespace Go.Proofs.Ytkafpdfjdnklaaa
open Go.RowKit Go.Deep Go.ChangeShapes Go.WideShapes

theorem open_strings {H : Type} {enc : TypeId × Value → H} {w : World} {base : Nat} {spare : Nat → Bool} {held : Bool} {fuel : Nat} {cs : List Value} {x : DataW H × List MemPlace}
    (h : DataW.trod enc Try.prog w base spare held fuel 24 cs = some x) :
    ∃ (A : Option Addr) (ss : List ByteArray) (cap : Nat), cs = [.slice A ss.length cap] ∧ ss.length ≤ cap ∧ cap ≤ maxLen ∧ Sees w w.heap.size A (ss.map Value.string) ∧
      ∀ s ∈ ss, s.size ∈ x.1.weights Try.prog 24 := by
  rcases open_slice Try.underlying24 h with ⟨rfl, rfl⟩ | ⟨a, len, cap, m, n, D, Pl, rfl, hb, hl, hm, hmm, rfl, hi⟩
  · exact ⟨none, [], 0, rfl, Nat.le_refl _, by simp [maxLen], .inl rfl, fun p hp => by cases hp⟩
  · have hlm : len ≤ m := by rw [hmm]; split <;> omega
    have hex : ∀ i, i < len → ∃ s : ByteArray, w.cell? (a.add i) = some (.string s) ∧ s.size ∈ (D i).weights Try.prog 9 := by
      intro i hil
      obtain ⟨cs', hc, ht⟩ := hi i (by omega)
      rw [Try.cells_string, Nat.mul_one] at hc
      obtain ⟨_, hcl, hat⟩ := World.cells?_some hc
      obtain ⟨s, e2, x2, _⟩ := DataW.trod_string Try.underlying9 ht
      have h0 := hat 0 (by omega)
      subst e2
      refine ⟨s, ?_, ?_⟩
      · have e : (a.add i).add 0 = a.add i := by unfold Addr.add; split <;> simp_all
        rw [e] at h0
        exact h0
      · have : D i = .lit (.string s.data.toList) := by
          have := congrArg Prod.fst x2
          exact this
        rw [this]
        simp [DataW.weights]
    obtain ⟨F, hF⟩ : ∃ F : Nat → ByteArray, ∀ i, i < len → w.cell? (a.add i) = some (.string (F i)) ∧ (F i).size ∈ (D i).weights Try.prog 9 :=
      ⟨fun i => if hi : i < len then (hex i hi).choose else ByteArray.empty, fun i hi => by
        simp only [dif_pos hi]
        exact (hex i hi).choose_spec⟩
    refine ⟨some a, (List.range len).map F, cap, by simp, by simpa using hl, hm, sees_of_addr fun j u hu => ?_, fun s hs => ?_⟩
    · rw [List.getElem?_map, List.getElem?_map] at hu
      rcases Nat.lt_or_ge j len with hj | hj
      · rw [List.getElem?_range hj] at hu
        simp only [Option.map_some, Option.some.injEq] at hu
        rw [← hu]
        exact (hF j hj).1
      · rw [List.getElem?_eq_none (by simpa using hj)] at hu
        cases hu
    · obtain ⟨i, hi, rfl⟩ := List.mem_map.1 hs
      have hi' := List.mem_range.1 hi
      simp only [DataW.weights, Try.underlying24, List.mem_cons, List.mem_append]
      exact .inr (.inl (mem_weightsAll (List.mem_map.2 ⟨i, hi, rfl⟩) (hF i hi').2))

end Go.Proofs.Ytkafpdfjdnklaaa
