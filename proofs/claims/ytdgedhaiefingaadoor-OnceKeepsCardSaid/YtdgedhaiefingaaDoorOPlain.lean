/-
  One-time signatures on plain lists: secrets, the public half, a signature, under what it is right; two public halves that are not the same. No program, no memory.
-/
import Derived.Test.YtdgedhaiefingaaDoorSFast
namespace Go.Proofs.YtdgedhaiefingaaDoor
open Go.RowKit

def num8 (n : Int) : List UInt8 := beBytes 8 (n % 18446744073709551616).toNat
/-- The secret of a bit and what it is: k is twice the bit, and that. -/
def secT (seed : List UInt8) (leaf : Int) (k : Nat) : List UInt8 := shaOf (2 :: (seed ++ (num8 leaf ++ num8 k)))
def bitT (d : List UInt8) (i : Nat) : Nat := (d.getD (i / 8) 0).toNat / 2 ^ (7 - i % 8) % 2
theorem bitT_lt (d : List UInt8) (i : Nat) : bitT d i < 2 := Nat.mod_lt _ (by decide)
def pubT (seed : List UInt8) (leaf : Int) : List UInt8 := shaOf ((List.range 64).flatMap fun k => shaOf (secT seed leaf k))
def openT (seed : List UInt8) (leaf : Int) (d : List UInt8) : List (List UInt8) := (List.range 32).map fun i => secT seed leaf (2 * i + bitT d i)
def shutT (seed : List UInt8) (leaf : Int) (d : List UInt8) : List (List UInt8) := (List.range 32).map fun i => shaOf (secT seed leaf (2 * i + (1 - bitT d i)))
/-- A bit's two digests, that of 0 ahead. -/
def bothT (d : List UInt8) (op sh : List (List UInt8)) (i : Nat) : List UInt8 := if bitT d i = 0 then shaOf (op.getD i []) ++ sh.getD i [] else sh.getD i [] ++ shaOf (op.getD i [])
def ofT (d : List UInt8) (op sh : List (List UInt8)) : List UInt8 := shaOf ((List.range 32).flatMap (bothT d op sh))

theorem range_pairs {α : Type} (f : Nat → List α) : ∀ n, (List.range (2 * n)).flatMap f = (List.range n).flatMap fun i => f (2 * i) ++ f (2 * i + 1)
  | 0 => rfl
  | n + 1 => by
    rw [show 2 * (n + 1) = 2 * n + 1 + 1 from by omega, List.range_succ, List.range_succ, List.range_succ, List.flatMap_append, List.flatMap_append, List.flatMap_append, range_pairs f n]
    simp
theorem flatMap_same {α β : Type} {f g : α → List β} : ∀ {l : List α}, (∀ x ∈ l, f x = g x) → l.flatMap f = l.flatMap g
  | [], _ => rfl
  | x :: l, h => by
    rw [List.flatMap_cons, List.flatMap_cons, h x (List.mem_cons_self ..), flatMap_same fun y hy => h y (List.mem_cons_of_mem _ hy)]
/-- A signature is right under the public half of its seed and leaf. -/
theorem of_sign (seed : List UInt8) (leaf : Int) (d : List UInt8) : ofT d (openT seed leaf d) (shutT seed leaf d) = pubT seed leaf := by
  unfold ofT pubT
  rw [show (64 : Nat) = 2 * 32 from rfl, range_pairs]
  congr 1
  refine flatMap_same fun i hi => ?_
  have h32 : i < 32 := List.mem_range.1 hi
  have e1 : (openT seed leaf d).getD i [] = secT seed leaf (2 * i + bitT d i) := by
    unfold openT
    rw [List.getD_eq_getElem?_getD, List.getElem?_map, List.getElem?_range h32]
    rfl
  have e2 : (shutT seed leaf d).getD i [] = shaOf (secT seed leaf (2 * i + (1 - bitT d i))) := by
    unfold shutT
    rw [List.getD_eq_getElem?_getD, List.getElem?_map, List.getElem?_range h32]
    rfl
  unfold bothT
  rw [e1, e2]
  have hb := bitT_lt d i
  by_cases h0 : bitT d i = 0
  · rw [if_pos h0, h0]
    rfl
  · have h1 : bitT d i = 1 := by omega
    rw [if_neg h0, h1]
    rfl
/-- Nothing but the first 32 bits of a digest is signed. -/
theorem bit_same {d e : List UInt8} (h : ∀ j, j < 4 → d.getD j 0 = e.getD j 0) {i : Nat} (hi : i < 32) : bitT d i = bitT e i := by
  unfold bitT
  rw [h (i / 8) (by omega)]
theorem sign_same {d e : List UInt8} (h : ∀ j, j < 4 → d.getD j 0 = e.getD j 0) (seed : List UInt8) (leaf : Int) : openT seed leaf d = openT seed leaf e ∧ shutT seed leaf d = shutT seed leaf e := by
  unfold openT shutT
  refine ⟨List.map_congr_left fun i hi => ?_, List.map_congr_left fun i hi => ?_⟩
  · rw [bit_same h (List.mem_range.1 hi)]
  · rw [bit_same h (List.mem_range.1 hi)]

/-! ### Two public halves, reckoned -/
def be8N (n : Nat) : List Nat := [n / 256 ^ 7 % 256, n / 256 ^ 6 % 256, n / 256 ^ 5 % 256, n / 256 ^ 4 % 256, n / 256 ^ 3 % 256, n / 256 ^ 2 % 256, n / 256 % 256, n % 256]
theorem num8_nats (n : Nat) (h : n < 18446744073709551616) : (num8 (n : Int)).map UInt8.toNat = be8N n := by
  have e : ((n : Int) % 18446744073709551616).toNat = n := by omega
  unfold num8 be8N
  rw [e]
  simp [beBytes]
noncomputable def secN (seed : List Nat) (leaf k : Nat) : List Nat := shaN (2 :: (seed ++ (be8N leaf ++ be8N k)))
noncomputable def pubN (seed : List Nat) (leaf : Nat) : List Nat := shaN ((List.range 64).flatMap fun k => shaN (secN seed leaf k))
theorem pub_nats (seed : List UInt8) (leaf : Nat) (h : leaf < 18446744073709551616) : (pubT seed (leaf : Int)).map UInt8.toNat = pubN (seed.map UInt8.toNat) leaf := by
  unfold pubT pubN
  rw [shaN_eq, List.map_flatMap]
  congr 1
  refine flatMap_same fun k hk => ?_
  have hk' : k < 64 := List.mem_range.1 hk
  rw [shaN_eq]
  unfold secT secN
  rw [shaN_eq, List.map_cons, List.map_append, List.map_append, num8_nats leaf h, num8_nats k (by omega)]
  rfl
def oneSeed : List UInt8 := 1 :: List.replicate 31 0
theorem pub_first0 : (pubN (1 :: List.replicate 31 0) 0).headD 0 = 152 := by decide +kernel
theorem pub_first1 : (pubN (1 :: List.replicate 31 0) 1).headD 0 = 112 := by decide +kernel
/-- The public halves of the leaves 0 and 1 of one seed are not the same. -/
theorem pub_apart : pubT oneSeed 0 ≠ pubT oneSeed 1 := by
  intro h
  have h0 := pub_nats oneSeed 0 (by decide)
  have h1 := pub_nats oneSeed 1 (by decide)
  have e : oneSeed.map UInt8.toNat = 1 :: List.replicate 31 0 := by decide
  rw [e] at h0 h1
  change (pubT oneSeed 0).map UInt8.toNat = _ at h0
  change (pubT oneSeed 1).map UInt8.toNat = _ at h1
  rw [h, h1] at h0
  have h2 := congrArg (fun l => l.headD 0) h0
  change (pubN (1 :: List.replicate 31 0) 1).headD 0 = (pubN (1 :: List.replicate 31 0) 0).headD 0 at h2
  rw [pub_first0, pub_first1] at h2
  exact absurd h2 (by decide)
end Go.Proofs.YtdgedhaiefingaaDoor
