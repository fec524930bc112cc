/-
  The Reader of package code: what each of its methods does, said of the bytes that are left and of whether there was a fault.
  The Reader of package code, on: Num, In.
  The Reader of package code, on: Text.
  The Reader of package code, on: Digest, and Read.
  A new Reader of package code, and what can turn it.
-/
import Derived.Test.YtaobhkalnnmnhaaProg
import Derived.Test.YtaobhkalnnmnhaaKB
import Derived.WalkSpells
import Derived.WalkLawsBesides
import Derived.BigQuiet
import Derived.Lib.Hide
import Derived.Deep.QuietTactic
import Derived.Deep.Cut
namespace Go.Proofs.Ytaobhkalnnmnhaa
open Go.RowKit

/-- What take leaves: the piece, what is left, whether there was a fault. -/
def tk (n : Nat) (l : List UInt8) (bad : Bool) : List UInt8 × List UInt8 × Bool := if bad = false ∧ n ≤ l.length then (l.take n, l.drop n, false) else ([], [], true)
theorem tk_yes {n : Nat} {l : List UInt8} (h : n ≤ l.length) : tk n l false = (l.take n, l.drop n, false) := by simp [tk, h]
theorem tk_no {n : Nat} {l : List UInt8} {bad : Bool} (h : ¬ (bad = false ∧ n ≤ l.length)) : tk n l bad = ([], [], true) := by simp only [tk, if_neg h]

end Go.Proofs.Ytaobhkalnnmnhaa

namespace Go.Proofs.Ytaobhkalnnmnhaa
open Go.RowKit

/-- The number that Num answers. -/
def numV (l : List UInt8) (bad : Bool) : Int := wrap64 (beNat (tk 8 l bad).1 : Int)
theorem numV_bounds (l : List UInt8) (bad : Bool) : -9223372036854775808 ≤ numV l bad ∧ numV l bad ≤ 9223372036854775807 := by
  unfold numV wrap64
  omega

theorem tk_len (n : Nat) (l : List UInt8) (bad : Bool) : (tk n l bad).1.length ≤ n := by
  unfold tk
  split
  · simp; omega
  · simp

/-- What In answers, and leaves. -/
def inV (lo hi : Int) (l : List UInt8) (bad : Bool) : Int × List UInt8 × Bool :=
  if numV l bad < lo ∨ hi < numV l bad then (0, [], true) else (numV l bad, (tk 8 l bad).2)

end Go.Proofs.Ytaobhkalnnmnhaa

namespace Go.Proofs.Ytaobhkalnnmnhaa
open Go.RowKit

/-- What Text answers, and leaves. -/
def txtV (most : Int) (l : List UInt8) (bad : Bool) : List UInt8 × List UInt8 × Bool :=
  if (tk 4 l bad).2.2 = true ∨ most < (beNat (tk 4 l bad).1 : Int) then ([], [], true) else tk (beNat (tk 4 l bad).1) (tk 4 l bad).2.1 (tk 4 l bad).2.2

end Go.Proofs.Ytaobhkalnnmnhaa

namespace Go.Proofs.Ytaobhkalnnmnhaa
open Go.RowKit

/-- A digest as a value: 32 bytes. -/
def dg (l : List UInt8) : Value := .agg (l.map bv).toArray
def zeros : List UInt8 := List.replicate 32 0
def zcells : Array Value := (zeros.map bv).toArray
theorem zcells_size : zcells.size = 32 := rfl

/-- What Digest answers. -/
def digV (l : List UInt8) (bad : Bool) : List UInt8 := if (tk 32 l bad).2.2 = true then zeros else (tk 32 l bad).1
theorem digV_len (l : List UInt8) (bad : Bool) : (digV l bad).length = 32 := by
  unfold digV tk
  by_cases h : bad = false ∧ 32 ≤ l.length
  · rw [if_pos h]
    show (l.take 32).length = 32
    rw [List.length_take]
    exact Nat.min_eq_left h.2
  · rw [if_neg h]
    rfl
theorem splice_dig (l : List UInt8) (bad : Bool) : (tk 32 l bad).1.map bv ++ (zeros.map bv).drop (tk 32 l bad).1.length = (digV l bad).map bv := by
  unfold digV tk
  by_cases h : bad = false ∧ 32 ≤ l.length
  · rw [if_pos h]
    have e : (l.take 32).length = 32 := by rw [List.length_take]; exact Nat.min_eq_left h.2
    simp only [e]
    simp [zeros]
  · rw [if_neg h]
    simp

theorem byte_info : (Try.prog.info? 5).map (fun i => (i.zero, i.size, i.bytes)) = some (some (.int .u8 0), 1, 1) := by kernel_rfl
end Go.Proofs.Ytaobhkalnnmnhaa

namespace Go.Proofs.Ytaobhkalnnmnhaa
open Go.RowKit

/-- What stands in a block from B on, and below T, stands. -/
def Same (B T : Nat) (w w' : World) : Prop := ∀ k, B ≤ k → k < T → w'.heap[k]? = w.heap[k]?
theorem Same.refl (B T : Nat) (w : World) : Same B T w w := fun _ _ _ => rfl
theorem Same.trans {B T : Nat} {u v w : World} (h : Same B T u v) (k : Same B T v w) : Same B T u w := fun i h1 h2 => (k i h1 h2).trans (h i h1 h2)
theorem Same.of_below {B T : Nat} {w w' : World} {C : Nat} (h : Below C w w') (hT : T ≤ C) : Same B T w w' := fun i _ h2 => h.block i (by omega)
theorem Same.of_grown {B T g : Nat} {w w' : World} (h : w.grownBy w' (some g)) (hg : g < B ∨ T ≤ g) (hT : T ≤ w.heap.size) : Same B T w w' := fun i h1 h2 => h.block i (by omega) (by simp; omega)

end Go.Proofs.Ytaobhkalnnmnhaa
