/-
  DiskInstalls on plain lists.
-/
import Derived.Test.YtaobhkalnnmnhaaPA
namespace Go.Proofs.Ytaobhkalnnmnhaa

set_option maxRecDepth 100000 in
theorem loseF_safe (k : Int) (s d : List UInt8) : loseF k ⟨s, d, d.length⟩ = ⟨s, d, d.length⟩ := by
  have h : keptF k ⟨s, d, d.length⟩ = d.length := by
    unfold keptF
    show d.length + (min (max 0 k) ((d.length - d.length : Nat) : Int)).toNat = d.length
    rw [Nat.sub_self]
    omega
  unfold loseF
  rw [h]
  simp
set_option maxRecDepth 100000 in
theorem loseF_more (k : Int) (s a b : List UInt8) : ∃ c, loseF k ⟨s, a ++ b, a.length⟩ = ⟨s, a ++ b.take c, a.length + c⟩ ∧ c ≤ b.length := by
  have h : ∃ c, keptF k ⟨s, a ++ b, a.length⟩ = a.length + c ∧ c ≤ b.length := by
    unfold keptF
    show ∃ c, a.length + (min (max 0 k) (((a ++ b).length - a.length : Nat) : Int)).toNat = _ ∧ _
    rw [List.length_append, Nat.add_sub_cancel_left]
    exact ⟨_, rfl, by omega⟩
  obtain ⟨c, h, hc⟩ := h
  refine ⟨c, ?_, hc⟩
  unfold loseF
  rw [h]
  show (⟨s, (a ++ b).take (a.length + c), _⟩ : FX) = _
  rw [List.take_append, List.take_of_length_le (by omega), Nat.add_sub_cancel_left]
def inX (a b : List UInt8) (sb : Nat) (dn : Bool) (ac fu ke : Int) : DX := ⟨[⟨[102], a, a.length⟩, ⟨[103], b, sb⟩], dn, ac, fu, ke⟩
set_option maxRecDepth 100000 in
theorem in_1 {old : List UInt8} (h : old.length ≤ 4096) : newX.install [102] old = (0, ⟨[⟨[102], old, old.length⟩], false, 1, 0, 0⟩) := by
  have h1 : ¬ (4194304 : Int) < old.length := by omega
  simp [DX.install, DX.takes, newX, totF, sizeF, lookF, DX.burns, DX.tick, DX.put, putF, openF, hasF, updF, h1]
set_option maxRecDepth 100000 in
theorem in_2 {old other : List UInt8} (h : old.length ≤ 4096) (h2 : other.length ≤ 4096) : DX.append ⟨[⟨[102], old, old.length⟩], false, 1, 0, 0⟩ [103] other = (0, inX old other 0 false 2 0 0) := by
  have h1 : ¬ (4194304 : Int) - old.length < other.length := by omega
  simp [DX.append, DX.takes, totF, DX.burns, DX.tick, DX.put, putF, openF, hasF, updF, inX, h1]
set_option maxRecDepth 100000 in
theorem in_3 {old other : List UInt8} (h : old.length ≤ 4096) (h2 : other.length ≤ 4096) : (inX old other 0 false 2 0 0).sync [103] = (0, inX old other other.length false 3 0 0) := by
  have h1 : ¬ (4194304 : Int) - ((old.length : Int) + other.length) < 0 := by omega
  simp [DX.sync, DX.takes, totF, DX.burns, DX.tick, DX.put, putF, openF, hasF, updF, inX, h1]
set_option maxRecDepth 100000 in
theorem in_5a {old now other : List UInt8} (k : Int) (_ : old.length ≤ 4096) (h2 : other.length ≤ 4096) (h3 : now.length ≤ 4096) : (inX old other other.length false 3 1 k).install [102] now = (21, inX old other other.length true 4 0 k) := by
  have h1 : ¬ (4194304 : Int) - ((old.length : Int) + other.length) < (now.length : Int) - old.length := by omega
  have e1 := loseF_safe k [102] old
  have e2 := loseF_safe k [103] other
  simp [DX.install, DX.takes, totF, sizeF, lookF, DX.burns, DX.tick, DX.off, inX, h1, e1, e2]
set_option maxRecDepth 100000 in
theorem in_5b {old now other : List UInt8} (f k : Int) (hf : f ≠ 1) (_ : old.length ≤ 4096) (h2 : other.length ≤ 4096) (h3 : now.length ≤ 4096) : (inX old other other.length false 3 f k).install [102] now = (0, inX now other other.length false 4 (if f = 0 then 0 else f - 1) k) := by
  have h1 : ¬ (4194304 : Int) - ((old.length : Int) + other.length) < (now.length : Int) - old.length := by omega
  simp [DX.install, DX.takes, totF, sizeF, lookF, DX.burns, DX.tick, DX.put, putF, openF, hasF, updF, inX, h1, hf]
  all_goals (by_cases hz : f = 0 <;> simp [hz])
set_option maxRecDepth 100000 in
theorem in_6a (a b l : List UInt8) (sb : Nat) (ac f k : Int) : (inX a b sb true ac f k).append [103] l = (21, inX a b sb true ac f k) := by
  simp [DX.append, DX.takes, inX]
set_option maxRecDepth 100000 in
theorem in_6b {a b l : List UInt8} (ac k : Int) (h : a.length ≤ 4096) (h2 : b.length ≤ 4096) (h3 : l.length ≤ 4096) : ∃ c, c ≤ l.length ∧ (inX a b b.length false ac 1 k).append [103] l = (21, inX a (b ++ l.take c) (b.length + c) true (ac + 1) 0 k) := by
  have h1 : ¬ (4194304 : Int) - ((a.length : Int) + b.length) < l.length := by omega
  have e1 := loseF_safe k [102] a
  obtain ⟨c, e2, hc⟩ := loseF_more k [103] b l
  refine ⟨c, hc, ?_⟩
  simp [DX.append, DX.takes, totF, DX.burns, DX.tick, DX.put, DX.off, putF, openF, hasF, updF, inX, h1, e1, e2]
set_option maxRecDepth 100000 in
theorem in_6c {a b l : List UInt8} (ac f k : Int) (hf : f ≠ 1) (h : a.length ≤ 4096) (h2 : b.length ≤ 4096) (h3 : l.length ≤ 4096) : (inX a b b.length false ac f k).append [103] l = (0, inX a (b ++ l) b.length false (ac + 1) (if f = 0 then 0 else f - 1) k) := by
  have h1 : ¬ (4194304 : Int) - ((a.length : Int) + b.length) < l.length := by omega
  simp [DX.append, DX.takes, totF, DX.burns, DX.tick, DX.put, putF, openF, hasF, updF, inX, h1, hf]
set_option maxRecDepth 100000 in
theorem in_7a (a b : List UInt8) (sb : Nat) (ac f k k' : Int) : (inX a b sb true ac f k).off k' = inX a b sb true ac f k := rfl
set_option maxRecDepth 100000 in
theorem in_7b (a b l : List UInt8) (ac f k k' : Int) : ∃ c, c ≤ l.length ∧ (inX a (b ++ l) b.length false ac f k).off k' = inX a (b ++ l.take c) (b.length + c) true ac 0 k := by
  have e1 := loseF_safe k' [102] a
  obtain ⟨c, e2, hc⟩ := loseF_more k' [103] b l
  refine ⟨c, hc, ?_⟩
  simp [DX.off, inX, e1, e2]
set_option maxRecDepth 100000 in
theorem in_8 (a b : List UInt8) (sb : Nat) (d : Bool) (ac f k : Int) : (inX a b sb d ac f k).on = inX a b sb false ac f k := rfl
set_option maxRecDepth 100000 in
theorem in_9 (a b : List UInt8) (sb : Nat) (ac f k : Int) : (inX a b sb false ac f k).read [102] = (a, 0) ∧ (inX a b sb false ac f k).read [103] = (b, 0) := ⟨rfl, rfl⟩
set_option maxRecDepth 100000 in
theorem few_in (a b : List UInt8) (sb : Nat) (d : Bool) (ac f k : Int) (h : 0 ≤ ac ∧ ac < 1000000) : (inX a b sb d ac f k).Few := ⟨h, by show 2 < 1000000; decide⟩
set_option maxRecDepth 100000 in
/-- What DiskInstalls comes to: the answer to the second Install, and the disk ahead of the two reads. -/
theorem in_all {old now other : List UInt8} (n k : Int) (h : old.length ≤ 4096) (h2 : other.length ≤ 4096) (h3 : now.length ≤ 4096) :
    ∃ (e5 : Int) (X5 : DX) (e6 : Int) (X6 : DX) (gd : List UInt8) (sb : Nat) (ac f k' : Int), (inX old other other.length false 3 (max 0 n) k).install [102] now = (e5, X5) ∧ X5.Few ∧ X5.append [103] now = (e6, X6) ∧
      (X6.off k).on = inX (if n = 1 then old else now) (other ++ gd) sb false ac f k' ∧ e5 = if n = 1 then 21 else 0 := by
  by_cases h1 : n = 1
  · subst h1
    refine ⟨_, _, _, _, [], other.length, 4, 0, k, in_5a k h h2 h3, few_in _ _ _ _ _ _ _ (by decide), in_6a _ _ _ _ _ _ _, ?_, rfl⟩
    rw [List.append_nil]
    rfl
  · have hf : max 0 n ≠ 1 := by omega
    rw [if_neg h1, if_neg h1]
    by_cases hf2 : (if max 0 n = 0 then 0 else max 0 n - 1) = 1
    · obtain ⟨c, _, h6⟩ := in_6b (a := now) (b := other) (l := now) 4 k h3 h2 h3
      have h5 := in_5b (max 0 n) k hf h h2 h3
      rw [hf2] at h5
      exact ⟨_, _, _, _, now.take c, other.length + c, 4 + 1, 0, k, h5, few_in _ _ _ _ _ _ _ (by decide), h6, rfl, rfl⟩
    · obtain ⟨c, _, h7⟩ := in_7b now other now (4 + 1) (if (if max 0 n = 0 then 0 else max 0 n - 1) = 0 then 0 else (if max 0 n = 0 then 0 else max 0 n - 1) - 1) k k
      refine ⟨_, _, _, _, now.take c, other.length + c, 4 + 1, 0, k, in_5b _ k hf h h2 h3, few_in _ _ _ _ _ _ _ (by decide), in_6c _ _ k hf2 h3 h2 h3, ?_, rfl⟩
      rw [h7]
      rfl
end Go.Proofs.Ytaobhkalnnmnhaa
