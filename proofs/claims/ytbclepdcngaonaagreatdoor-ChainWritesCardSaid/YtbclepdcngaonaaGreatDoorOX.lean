/-
  One-time signatures on plain lists: secrets, the public half, a signature, under what it is right; two public halves that are not the same. No program, no memory.
-/
import Derived.Test.YtbclepdcngaonaaGreatDoorSA
namespace Go.Proofs.YtbclepdcngaonaaGreatDoor
open Go.RowKit

def bitT (d : List UInt8) (i : Nat) : Nat := (d.getD (i / 8) 0).toNat / 2 ^ (7 - i % 8) % 2
theorem bitT_lt (d : List UInt8) (i : Nat) : bitT d i < 2 := Nat.mod_lt _ (by decide)
/-- A bit's two digests, that of 0 ahead. -/
def bothT (d : List UInt8) (op sh : List (List UInt8)) (i : Nat) : List UInt8 := if bitT d i = 0 then shaOf (op.getD i []) ++ sh.getD i [] else sh.getD i [] ++ shaOf (op.getD i [])
def ofT (d : List UInt8) (op sh : List (List UInt8)) : List UInt8 := shaOf ((List.range 32).flatMap (bothT d op sh))

/-! ### Two public halves, reckoned -/
end Go.Proofs.YtbclepdcngaonaaGreatDoor
