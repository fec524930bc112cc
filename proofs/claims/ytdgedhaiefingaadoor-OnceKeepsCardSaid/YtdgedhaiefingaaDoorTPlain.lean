/-
  Hash trees on plain lists: rows, the root, a leaf's path, where a path leads. No program, no memory.
-/
import Derived.Test.YtdgedhaiefingaaDoorSPlain
namespace Go.Proofs.YtdgedhaiefingaaDoor
open Go.RowKit

section
variable {α : Type} (p : α → α → α) (z : α)

/-- The row above. -/
def up : List α → List α
  | a :: b :: r => p a b :: up r
  | l => l
theorem up_length : ∀ l : List α, (up p l).length = (l.length + 1) / 2
  | [] => by simp [up]
  | [_] => by simp [up]
  | a :: b :: r => by
    rw [up, List.length_cons, up_length r]
    simp only [List.length_cons]
    omega
/-- The place beside. -/
def sib (n : Nat) : Nat := if n % 2 = 0 then n + 1 else n - 1
/-- The one above a place's own and the one beside it. -/
def meet (n : Nat) (a b : α) : α := if n % 2 = 0 then p a b else p b a
theorem up_pair : ∀ (l : List α) (i : Nat), 2 * i + 1 < l.length → (up p l).getD i z = p (l.getD (2 * i) z) (l.getD (2 * i + 1) z)
  | [], i, h => by simp at h
  | [_], i, h => by simp at h
  | a :: b :: r, 0, _ => rfl
  | a :: b :: r, i + 1, h => by
    have h' : 2 * i + 1 < r.length := by simp at h; omega
    have ih := up_pair r i h'
    rw [up, show 2 * (i + 1) + 1 = 2 * i + 1 + 1 + 1 from by omega, show 2 * (i + 1) = 2 * i + 1 + 1 from by omega]
    simpa using ih
theorem up_last : ∀ (l : List α) (i : Nat), 2 * i + 1 = l.length → (up p l).getD i z = l.getD (2 * i) z
  | [], i, h => by simp at h
  | [a], i, h => by
    obtain rfl : i = 0 := by simp at h; omega
    rfl
  | a :: b :: r, 0, h => by simp at h
  | a :: b :: r, i + 1, h => by
    have h' : 2 * i + 1 = r.length := by simp at h; omega
    have ih := up_last r i h'
    rw [up, show 2 * (i + 1) = 2 * i + 1 + 1 from by omega]
    simpa using ih

/-- The topmost. -/
def top (l : List α) : α := if l.length ≤ 1 then l.getD 0 z else top (up p l)
termination_by l.length
decreasing_by
  have := up_length p l
  omega
theorem top_one {l : List α} (h : l.length ≤ 1) : top p z l = l.getD 0 z := by rw [top, if_pos h]
theorem top_up {l : List α} (h : 1 < l.length) : top p z l = top p z (up p l) := by rw [top, if_neg (by omega)]

/-- A leaf's path. -/
def way (l : List α) (n : Nat) : List α := if l.length ≤ 1 then [] else (if sib n < l.length then [l.getD (sib n) z] else []) ++ way (up p l) (n / 2)
termination_by l.length
decreasing_by
  have := up_length p l
  omega
theorem way_one {l : List α} (h : l.length ≤ 1) (n : Nat) : way p z l n = [] := by rw [way, if_pos h]
theorem way_up {l : List α} (h : 1 < l.length) (n : Nat) : way p z l n = (if sib n < l.length then [l.getD (sib n) z] else []) ++ way p z (up p l) (n / 2) := by rw [way, if_neg (by omega)]

/-- Where a path leads, if it has the right length. -/
def ends (n count : Nat) (own : α) (path : List α) : Option α :=
  if count ≤ 1 then (if path = [] then some own else none) else
    if sib n < count then (match path with
      | [] => none
      | x :: r => ends (n / 2) ((count + 1) / 2) (meet p n own x) r)
    else ends (n / 2) ((count + 1) / 2) own path
termination_by count
theorem ends_one {n count : Nat} (h : count ≤ 1) (own : α) : ends p n count own [] = some own := by rw [ends, if_pos h, if_pos rfl]
theorem ends_more {n count : Nat} (h : count ≤ 1) (own x : α) (r : List α) : ends p n count own (x :: r) = none := by rw [ends, if_pos h, if_neg (by simp)]
theorem ends_none {n count : Nat} (h : 1 < count) (hs : sib n < count) (own : α) : ends p n count own [] = none := by rw [ends, if_neg (by omega), if_pos hs]
theorem ends_cons {n count : Nat} (h : 1 < count) (hs : sib n < count) (own x : α) (r : List α) : ends p n count own (x :: r) = ends p (n / 2) ((count + 1) / 2) (meet p n own x) r := by rw [ends, if_neg (by omega), if_pos hs]
theorem ends_skip {n count : Nat} (h : 1 < count) (hs : ¬ sib n < count) (own : α) (r : List α) : ends p n count own r = ends p (n / 2) ((count + 1) / 2) own r := by rw [ends.eq_def, if_neg (by omega), if_neg hs]

/-- How many digests a path has. -/
def steps (n count : Nat) : Nat := if count ≤ 1 then 0 else (if sib n < count then 1 else 0) + steps (n / 2) ((count + 1) / 2)
termination_by count
theorem steps_one {n count : Nat} (h : count ≤ 1) : steps n count = 0 := by rw [steps, if_pos h]
theorem steps_up {n count : Nat} (h : 1 < count) : steps n count = (if sib n < count then 1 else 0) + steps (n / 2) ((count + 1) / 2) := by rw [steps, if_neg (by omega)]

theorem ends_steps (N : Nat) : ∀ (count n : Nat) (own : α) (r : List α) (x : α), count ≤ N → ends p n count own r = some x → r.length = steps n count := by
  induction N with
  | zero =>
    intro count n own r x hN h
    rw [steps_one (by omega)]
    cases r with
    | nil => rfl
    | cons y r => rw [ends_more p (by omega)] at h; cases h
  | succ N ih =>
    intro count n own r x hN h
    by_cases hc : count ≤ 1
    · rw [steps_one hc]
      cases r with
      | nil => rfl
      | cons y r => rw [ends_more p hc] at h; cases h
    · rw [steps_up (by omega)]
      by_cases hs : sib n < count
      · rw [if_pos hs]
        cases r with
        | nil => rw [ends_none p (by omega) hs] at h; cases h
        | cons y r =>
          rw [ends_cons p (by omega) hs] at h
          have := ih _ _ _ _ _ (by omega) h
          rw [List.length_cons]
          omega
      · rw [if_neg hs]
        rw [ends_skip p (by omega) hs] at h
        have := ih _ _ _ _ _ (by omega) h
        omega
theorem ends_not {n count : Nat} {own : α} {r : List α} (h : r.length ≠ steps n count) : ends p n count own r = none := by
  cases e : ends p n count own r with
  | none => rfl
  | some x => exact absurd (ends_steps p count count n own r x (Nat.le_refl _) e) h

/-- Each leaf's path leads to the root. -/
theorem way_ends (N : Nat) : ∀ (l : List α) (n : Nat), l.length ≤ N → n < l.length → ends p n l.length (l.getD n z) (way p z l n) = some (top p z l) := by
  induction N with
  | zero => intro l n hN h; omega
  | succ N ih =>
    intro l n hN h
    by_cases hc : l.length ≤ 1
    · rw [way_one p z hc, ends_one p hc, top_one p z hc, show n = 0 from by omega]
    · rw [way_up p z (by omega), top_up p z (by omega)]
      have hl := up_length p l
      have ih' := ih (up p l) (n / 2) (by omega) (by omega)
      rw [hl] at ih'
      by_cases hs : sib n < l.length
      · rw [if_pos hs, List.singleton_append, ends_cons p (by omega) hs]
        have e : meet p n (l.getD n z) (l.getD (sib n) z) = (up p l).getD (n / 2) z := by
          unfold meet sib at *
          by_cases hp : n % 2 = 0
          · rw [if_pos hp] at hs
            rw [if_pos hp, if_pos hp, up_pair p z l (n / 2) (by omega), show 2 * (n / 2) = n from by omega]
          · rw [if_neg hp, if_neg hp, up_pair p z l (n / 2) (by omega), show 2 * (n / 2) + 1 = n from by omega, show 2 * (n / 2) = n - 1 from by omega]
        rw [e]
        exact ih'
      · rw [if_neg hs, List.nil_append, ends_skip p (by omega) hs]
        have e : l.getD n z = (up p l).getD (n / 2) z := by
          unfold sib at hs
          by_cases hp : n % 2 = 0
          · rw [if_pos hp] at hs
            rw [up_last p z l (n / 2) (by omega), show 2 * (n / 2) = n from by omega]
          · rw [if_neg hp] at hs
            omega
        rw [e]
        exact ih'
theorem way_steps (l : List α) (n : Nat) (h : n < l.length) : (way p z l n).length = steps n l.length :=
  ends_steps p l.length l.length n _ _ _ (Nat.le_refl _) (way_ends p z l.length l n (Nat.le_refl _) h)
theorem steps_lt (N : Nat) : ∀ (count n : Nat), count ≤ N → 1 ≤ count → 2 ^ steps n count < 2 * count := by
  induction N with
  | zero => intro count n h1 h2; omega
  | succ N ih =>
    intro count n h1 h2
    by_cases hc : count ≤ 1
    · rw [steps_one hc]; omega
    · rw [steps_up (by omega)]
      have ih' := ih ((count + 1) / 2) (n / 2) (by omega) (by omega)
      generalize steps (n / 2) ((count + 1) / 2) = k at *
      have h3 : 2 ^ k < count := by
        by_cases hp : count % 2 = 0
        · omega
        · cases k with
          | zero => omega
          | succ k =>
            rw [Nat.pow_succ] at ih' ⊢
            omega
      split
      · rw [Nat.add_comm, Nat.pow_succ]; omega
      · rw [Nat.zero_add]; omega

theorem up_append : ∀ (a b : List α), a.length % 2 = 0 → up p (a ++ b) = up p a ++ up p b
  | [], b, _ => by rfl
  | [x], b, h => by simp at h
  | x :: y :: a, b, h => by
    have h' : a.length % 2 = 0 := by simp at h; omega
    have := up_append a b h'
    simp only [List.cons_append, up, this]
/-- The root of as many leaves as a power of two. -/
theorem top_halves : ∀ (k : Nat) (a b : List α), a.length = 2 ^ k → b.length = 2 ^ k → top p z (a ++ b) = p (top p z a) (top p z b)
  | 0, a, b, ha, hb => by
    match a, b, ha, hb with
    | [x], [y], _, _ =>
      rw [top_up p z (by simp), top_one p z (l := [x]) (by simp), top_one p z (l := [y]) (by simp)]
      rw [top_one p z (by simp [up])]
      rfl
  | k + 1, a, b, ha, hb => by
    rw [Nat.pow_succ] at ha hb
    have hp : 0 < 2 ^ k := Nat.pow_pos (by decide)
    rw [top_up p z (l := a ++ b) (by rw [List.length_append]; omega), top_up p z (l := a) (by omega), top_up p z (l := b) (by omega), up_append p a b (by omega)]
    exact top_halves k _ _ (by rw [up_length]; omega) (by rw [up_length]; omega)
end
end Go.Proofs.YtdgedhaiefingaaDoor
