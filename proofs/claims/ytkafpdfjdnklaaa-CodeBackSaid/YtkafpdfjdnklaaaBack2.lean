/-
  Plain facts on what is written and read again by the same calls.
-/
import Derived.Test.YtkafpdfjdnklaaaBack
import Derived.Test.YtkafpdfjdnklaaaSizes
namespace Go.Proofs.Ytkafpdfjdnklaaa
open Go.RowKit

theorem sums_mem : ∀ (ps : List PartV) (p : PartV), p ∈ ps → p.s.size ≤ sums ps
  | [], _, h => by cases h
  | q :: r, p, h => by
    have e : sums (q :: r) = q.s.size + sums r := rfl
    rw [e]
    rcases List.mem_cons.1 h with rfl | h
    · omega
    · have := sums_mem r p h
      omega
theorem beNat_beBytes : ∀ (k n : Nat), beNat (beBytes k n) = n % 256 ^ k
  | 0, n => by simp [beBytes, beNat, Nat.mod_one]
  | k + 1, n => by
    have h : n % (256 ^ k * 256) = n % 256 ^ k + 256 ^ k * (n / 256 ^ k % 256) := Nat.mod_mul
    rw [beBytes, beNat_cons, beBytes_length, beNat_beBytes k n, UInt8.toNat_ofNat']
    show n / 256 ^ k % 256 * 256 ^ k + n % 256 ^ k = n % (256 ^ k * 256)
    rw [h, Nat.add_comm, Nat.mul_comm (n / 256 ^ k % 256)]
theorem numV_back {n : Int} (hn : I64 n) (rest : List UInt8) : numV (numBytes n ++ rest) false = n := by
  unfold numV
  have hl := numBytes_len n
  rw [tk_yes (by rw [List.length_append]; omega)]
  simp only
  rw [List.take_left' hl]
  unfold numBytes
  rw [beNat_beBytes]
  unfold I64 at hn
  unfold wrap64
  omega
theorem tk_app (a rest : List UInt8) {n : Nat} (h : a.length = n) : tk n (a ++ rest) false = (a, rest, false) := by
  rw [tk_yes (by rw [List.length_append]; omega), List.take_left' h, List.drop_left' h]
theorem txt_back (s : ByteArray) (hs : s.size < 4294967296) (rest : List UInt8) : txtV s.size (textBytes s ++ rest) false = (s.data.toList, rest, false) := by
  unfold txtV textBytes
  rw [List.append_assoc, tk_app _ _ (beBytes_length 4 s.size)]
  simp only
  rw [beNat_beBytes, Nat.mod_eq_of_lt (by omega), if_neg (by simp)]
  exact tk_app _ _ (size_data s)

/-- One call of a reader, its answer compared with the part. -/
def stepBack (p : PartV) (l : List UInt8) (bad : Bool) : Bool × List UInt8 × Bool :=
  if p.kind = 1 then (decide ((txtV p.s.size l bad).1 = p.s.data.toList), (txtV p.s.size l bad).2)
  else if p.kind = 2 then (decide (digV l bad = p.d), (tk 32 l bad).2)
  else (decide ((inV p.num p.num l bad).1 = p.num), (inV p.num p.num l bad).2)

theorem step_fit (p : PartV) (rest : List UInt8) (hd : p.d.length = 32) (hn : I64 p.num) (hs : p.s.size < 4294967296) : stepBack p (partBytes p ++ rest) false = (true, rest, false) := by
  unfold stepBack partBytes
  by_cases h1 : p.kind = 1
  · rw [if_pos h1, if_pos h1, txt_back p.s hs]
    simp
  · rw [if_neg h1, if_neg h1]
    by_cases h2 : p.kind = 2
    · rw [if_pos h2, if_pos h2]
      unfold digV
      rw [tk_app _ _ hd]
      simp
    · rw [if_neg h2, if_neg h2]
      unfold inV
      rw [numV_back hn, if_neg (by omega), tk_app _ _ (numBytes_len _)]
      simp
theorem step_bad (p : PartV) (l : List UInt8) : (stepBack p l true).2.2 = true := by
  have ht : ∀ n, tk n l true = ([], [], true) := fun n => tk_no (by simp)
  unfold stepBack
  split
  · unfold txtV
    rw [ht, if_pos (.inl rfl)]
  · split
    · rw [ht]
    · unfold inV
      rw [ht]
      split <;> rfl
theorem step_short (p : PartV) (l rest : List UInt8) (b : UInt8) (h : l ++ [b] = partBytes p ++ rest) (hd : p.d.length = 32) (hn : I64 p.num) (hs : p.s.size < 4294967296) :
    (∃ r', rest = r' ++ [b] ∧ stepBack p l false = (true, r', false)) ∨ (stepBack p l false).2.2 = true := by
  rcases List.eq_nil_or_concat rest with rfl | ⟨r', x, rfl⟩
  · right
    rw [List.append_nil] at h
    have hl : l.length + 1 = (partBytes p).length := by rw [← h]; simp
    rw [partBytes_eq hd] at hl
    unfold stepBack
    by_cases h1 : p.kind = 1
    · rw [if_pos h1] at hl ⊢
      unfold txtV
      by_cases h4 : 4 ≤ l.length
      · have e4 : l.take 4 = beBytes 4 p.s.size := by
          have e : (l ++ [b]).take 4 = beBytes 4 p.s.size := by
            rw [h]
            unfold partBytes textBytes
            rw [if_pos h1]
            exact List.take_left' (beBytes_length _ _)
          rw [List.take_append_of_le_length h4] at e
          exact e
        rw [tk_yes h4]
        simp only
        rw [e4, beNat_beBytes, Nat.mod_eq_of_lt (by omega), if_neg (by simp), tk_no (by rw [List.length_drop]; omega)]
      · rw [tk_no (by omega), if_pos (.inl rfl)]
    · rw [if_neg h1] at hl ⊢
      by_cases h2 : p.kind = 2
      · rw [if_pos h2] at hl ⊢
        rw [tk_no (by omega)]
      · rw [if_neg h2] at hl ⊢
        unfold inV
        rw [tk_no (n := 8) (l := l) (bad := false) (by omega)]
        split <;> rfl
  · left
    rw [List.concat_eq_append] at h ⊢
    rw [← List.append_assoc] at h
    obtain ⟨e1, e2⟩ := List.append_inj' h rfl
    simp only [List.cons.injEq, and_true] at e2
    subst e1
    subst e2
    exact ⟨r', rfl, step_fit p r' hd hn hs⟩

/-- Where the reader stands ahead of part j, the bytes cut by k. -/
def BackInv (ps : List PartV) (k j : Nat) (lr : List UInt8) (bad : Bool) : Prop :=
  (k < 2 → bad = false ∧ lr = wb (ps.drop j) ++ (if k = 0 then [120] else [])) ∧ (k = 2 → bad = true ∨ (bad = false ∧ ∃ b, lr ++ [b] = wb (ps.drop j)))

theorem back_start (ps : List PartV) (k : Nat) (hk : k ≤ 2) (h2 : k = 2 → wb ps ≠ []) : BackInv ps k 0 ((wb ps ++ [120]).take ((wb ps).length + 1 - k)) false := by
  refine ⟨fun h => ⟨rfl, ?_⟩, fun h => .inr ⟨rfl, ?_⟩⟩
  · rw [List.drop_zero]
    match k, h with
    | 0, _ =>
      rw [if_pos rfl, List.take_of_length_le (by simp)]
    | 1, _ =>
      rw [if_neg (by decide), Nat.add_sub_cancel, List.take_left' rfl, List.append_nil]
  · subst h
    rcases List.eq_nil_or_concat (wb ps) with h | ⟨r, x, h⟩
    · exact absurd h (h2 rfl)
    · refine ⟨x, ?_⟩
      rw [List.drop_zero, h, List.concat_eq_append]
      simp
theorem back_step (ps : List PartV) (k j : Nat) (hj : j < ps.length) (lr : List UInt8) (bad : Bool) (h : BackInv ps k j lr bad) (hwf : ∀ p ∈ ps, p.d.length = 32 ∧ I64 p.num ∧ p.s.size < 4294967296) :
    BackInv ps k (j + 1) (stepBack ps[j] lr bad).2.1 (stepBack ps[j] lr bad).2.2 ∧ (k < 2 → (stepBack ps[j] lr bad).1 = true) := by
  obtain ⟨hd, hn, hs⟩ := hwf ps[j] (List.getElem_mem hj)
  have e : wb (ps.drop j) = partBytes ps[j] ++ wb (ps.drop (j + 1)) := by
    rw [List.drop_eq_getElem_cons hj]
    rfl
  obtain ⟨ha, hb⟩ := h
  rw [e] at ha hb
  by_cases hk : k < 2
  · obtain ⟨rfl, rfl⟩ := ha hk
    rw [List.append_assoc, step_fit _ _ hd hn hs]
    exact ⟨⟨fun _ => ⟨rfl, rfl⟩, fun h => by omega⟩, fun _ => rfl⟩
  · refine ⟨⟨fun h => absurd h hk, fun h => ?_⟩, fun h => absurd h hk⟩
    rcases hb h with rfl | ⟨rfl, b, hl⟩
    · exact .inl (step_bad _ _)
    · rcases step_short _ _ _ b hl hd hn hs with ⟨r', hr, he⟩ | he
      · rw [he]
        exact .inr ⟨rfl, b, hr.symm⟩
      · exact .inl he
theorem back_end (ps : List PartV) (k : Nat) (lr : List UInt8) (bad : Bool) (h : BackInv ps k ps.length lr bad) : (k < 2 → bad = false ∧ lr = if k = 0 then [120] else []) ∧ (k = 2 → bad = true) := by
  obtain ⟨ha, hb⟩ := h
  rw [List.drop_length] at ha hb
  refine ⟨fun h => by simpa [wb] using ha h, fun h => ?_⟩
  rcases hb h with h | ⟨_, b, h⟩
  · exact h
  · simp [wb] at h

end Go.Proofs.Ytkafpdfjdnklaaa
