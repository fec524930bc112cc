/-
  Plain facts on what is read and written again: bytes to a number and back; one step of a reader, written again.
-/
import Derived.Test.YtkafpdfjdnklaaaWritten
namespace Go.Proofs.Ytkafpdfjdnklaaa
open Go.RowKit

theorem foldl_be (l : List UInt8) : ∀ n : Nat, l.foldl (fun n b => n * 256 + b.toNat) n = n * 256 ^ l.length + beNat l := by
  induction l with
  | nil => intro n; simp [beNat]
  | cons b r ih =>
    intro n
    have h1 := ih (n * 256 + b.toNat)
    have h2 := ih (0 * 256 + b.toNat)
    unfold beNat
    rw [List.foldl_cons, List.foldl_cons, h1, h2, List.length_cons, Nat.pow_succ, Nat.add_mul, Nat.zero_mul, Nat.zero_add, Nat.mul_assoc, Nat.mul_comm 256]
    omega
theorem beNat_cons (b : UInt8) (r : List UInt8) : beNat (b :: r) = b.toNat * 256 ^ r.length + beNat r := by
  have h := foldl_be r (0 * 256 + b.toNat)
  unfold beNat at h ⊢
  rw [List.foldl_cons, h]
  simp
theorem ofNat_add (x m : Nat) : UInt8.ofNat (x * 256 + m) = UInt8.ofNat m := by
  apply UInt8.toNat_inj.1
  rw [UInt8.toNat_ofNat', UInt8.toNat_ofNat']
  omega
theorem beBytes_add : ∀ (k x m : Nat), beBytes k (x * 256 ^ k + m) = beBytes k m
  | 0, _, _ => rfl
  | k + 1, x, m => by
    have hp : 0 < 256 ^ k := Nat.pow_pos (by decide)
    have e : x * 256 ^ (k + 1) + m = x * 256 * 256 ^ k + m := by rw [Nat.pow_succ, Nat.mul_comm (256 ^ k), ← Nat.mul_assoc]
    rw [e, beBytes, beBytes, beBytes_add k (x * 256) m, Nat.mul_comm (x * 256), Nat.mul_add_div hp, ofNat_add]
theorem beBytes_beNat : ∀ p : List UInt8, beBytes p.length (beNat p) = p
  | [] => rfl
  | b :: r => by
    have hp : 0 < 256 ^ r.length := Nat.pow_pos (by decide)
    have hlt := beNat_lt r.length r rfl
    rw [beNat_cons, List.length_cons, beBytes, beBytes_add, beBytes_beNat r, Nat.mul_comm, Nat.mul_add_div hp, Nat.div_eq_of_lt hlt, Nat.add_zero]
    simp
theorem num_back {p : List UInt8} (h : p.length = 8) : numBytes (wrap64 (beNat p : Int)) = p := by
  have hlt := beNat_lt8 p (by omega)
  have e : (wrap64 (beNat p : Int) % 18446744073709551616).toNat = beNat p := by
    unfold wrap64
    omega
  unfold numBytes
  rw [e]
  have := beBytes_beNat p
  rwa [h] at this
theorem text_back {h p : List UInt8} (hh : h.length = 4) (hp : p.length = beNat h) : textBytes ⟨p.toArray⟩ = h ++ p := by
  unfold textBytes
  have e : (ByteArray.mk p.toArray).size = p.length := by show p.toArray.size = _; simp
  rw [e, hp]
  have := beBytes_beNat h
  rw [hh] at this
  rw [this]

/-- One call of a reader, what it answered written again: what is written, what is left, whether there was a fault. -/
def stepOne (p : PartV) (l : List UInt8) (bad : Bool) : List UInt8 × List UInt8 × Bool :=
  if p.kind = 1 then (textBytes ⟨(txtV p.num l bad).1.toArray⟩, (txtV p.num l bad).2)
  else if p.kind = 2 then (digV l bad, (tk 32 l bad).2)
  else if p.kind = 3 then (numBytes (inV p.lo p.hi l bad).1, (inV p.lo p.hi l bad).2)
  else (numBytes (numV l bad), (tk 8 l bad).2)

theorem tk_cases (n : Nat) (l : List UInt8) (bad : Bool) : (tk n l bad = ([], [], true)) ∨ (bad = false ∧ n ≤ l.length ∧ tk n l bad = (l.take n, l.drop n, false)) := by
  by_cases h : bad = false ∧ n ≤ l.length
  · exact .inr ⟨h.1, h.2, by rw [h.1]; exact tk_yes h.2⟩
  · exact .inl (tk_no h)
theorem txt_cases (most : Int) (l : List UInt8) (bad : Bool) : txtV most l bad = ([], [], true) ∨ (bad = false ∧ 4 ≤ l.length ∧ 4 + beNat (l.take 4) ≤ l.length ∧ txtV most l bad = ((l.drop 4).take (beNat (l.take 4)), (l.drop 4).drop (beNat (l.take 4)), false)) := by
  unfold txtV
  rcases tk_cases 4 l bad with h | ⟨hb, hl, h⟩
  · rw [h]
    exact .inl rfl
  · rw [h]
    simp only
    split
    · exact .inl rfl
    · rcases tk_cases (beNat (l.take 4)) (l.drop 4) false with h2 | ⟨_, hl2, h2⟩
      · exact .inl h2
      · rw [List.length_drop] at hl2
        exact .inr ⟨hb, hl, by omega, h2⟩

theorem stepOne_ok (p : PartV) (l : List UInt8) (bad : Bool) : ((stepOne p l bad).2.2 = false → bad = false ∧ (stepOne p l bad).1 ++ (stepOne p l bad).2.1 = l) ∧ (stepOne p l bad).1.length + (stepOne p l bad).2.1.length ≤ l.length + 32 := by
  unfold stepOne
  split
  · rcases txt_cases p.num l bad with h | ⟨hb, hl, hl2, h⟩
    · rw [h]
      refine ⟨fun h => (by cases h), ?_⟩
      show (textBytes ⟨#[]⟩).length + 0 ≤ _
      rw [textBytes_len]
      show 4 + 0 + 0 ≤ _
      omega
    · have hp : ((l.drop 4).take (beNat (l.take 4))).length = beNat (l.take 4) := by rw [List.length_take, List.length_drop]; omega
      have h4 : (l.take 4).length = 4 := by rw [List.length_take]; omega
      rw [h]
      simp only
      rw [text_back h4 hp]
      refine ⟨fun _ => ⟨hb, by rw [List.append_assoc, List.take_append_drop, List.take_append_drop]⟩, ?_⟩
      rw [List.length_append, h4, hp, List.length_drop, List.length_drop]
      omega
  · split
    · unfold digV
      rcases tk_cases 32 l bad with h | ⟨hb, hl, h⟩
      · rw [h]
        refine ⟨fun h => (by cases h), ?_⟩
        show zeros.length + 0 ≤ _
        show 32 + 0 ≤ _
        omega
      · rw [h]
        refine ⟨fun _ => ⟨hb, by show l.take 32 ++ l.drop 32 = l; exact List.take_append_drop ..⟩, ?_⟩
        show (l.take 32).length + (l.drop 32).length ≤ _
        rw [List.length_take, List.length_drop]
        omega
    · have hnum : ∀ n : Int, (numBytes n).length = 8 := numBytes_len
      split
      · unfold inV
        split
        · refine ⟨fun h => (by cases h), ?_⟩
          show (numBytes 0).length + 0 ≤ _
          rw [hnum]
          omega
        · unfold numV
          rcases tk_cases 8 l bad with h | ⟨hb, hl, h⟩
          · rw [h]
            refine ⟨fun h => (by cases h), ?_⟩
            show (numBytes _).length + 0 ≤ _
            rw [hnum]
            omega
          · rw [h]
            simp only
            rw [num_back (by rw [List.length_take]; omega)]
            refine ⟨fun _ => ⟨hb, List.take_append_drop ..⟩, ?_⟩
            rw [List.length_take, List.length_drop]
            omega
      · unfold numV
        rcases tk_cases 8 l bad with h | ⟨hb, hl, h⟩
        · rw [h]
          refine ⟨fun h => (by cases h), ?_⟩
          show (numBytes _).length + 0 ≤ _
          rw [hnum]
          omega
        · rw [h]
          simp only
          rw [num_back (by rw [List.length_take]; omega)]
          refine ⟨fun _ => ⟨hb, List.take_append_drop ..⟩, ?_⟩
          rw [List.length_take, List.length_drop]
          omega
end Go.Proofs.Ytkafpdfjdnklaaa
