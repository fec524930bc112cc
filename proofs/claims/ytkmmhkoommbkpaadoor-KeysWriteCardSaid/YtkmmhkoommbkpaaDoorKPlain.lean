/-
  Key trees on plain lists: the leaves of a seed and a height, the key, a signature, when one is right; each signature of a tree is right under its key.
-/
import Derived.Test.YtkmmhkoommbkpaaDoorTV
import Derived.Test.YtkmmhkoommbkpaaDoorOB
namespace Go.Proofs.YtkmmhkoommbkpaaDoor
open Go.RowKit

/-- The leaf of a public half. -/
def leafT (p : List UInt8) : List UInt8 := shaOf (0 :: p)
def leavesT (seed : List UInt8) (h : Nat) : List (List UInt8) := (List.range (2 ^ h)).map fun (i : Nat) => leafT (pubT seed (i : Int))
theorem leaves_len (seed : List UInt8) (h : Nat) : (leavesT seed h).length = 2 ^ h := by simp [leavesT]
theorem leaves_all (seed : List UInt8) (h : Nat) : AllD (leavesT seed h) := by
  intro x hx
  obtain ⟨i, _, rfl⟩ := List.mem_map.1 hx
  rfl
theorem leaves_at (seed : List UInt8) (h : Nat) {n : Nat} (hn : n < 2 ^ h) : (leavesT seed h).getD n [] = leafT (pubT seed (n : Int)) := by
  unfold leavesT
  rw [List.getD_eq_getElem?_getD, List.getElem?_map, List.getElem?_range hn]
  rfl
def keyT (seed : List UInt8) (h : Nat) : List UInt8 := rootT (leavesT seed h)
/-- Is a signature right: root, digest, its lists, the leaf's number, how many leaves, the path. -/
def rightT (root d : List UInt8) (op sh : List (List UInt8)) (n count : Nat) (path : List (List UInt8)) : Bool := checkT root (leafT (ofT d op sh)) n count path
theorem right_own (seed d : List UInt8) (h : Nat) {n : Nat} (hn : n < 2 ^ h) : rightT (keyT seed h) d (openT seed (n : Int) d) (shutT seed (n : Int) d) n (2 ^ h) (pathT (leavesT seed h) n) = true := by
  have hl : n < (leavesT seed h).length := by rw [leaves_len]; exact hn
  unfold rightT keyT
  rw [of_sign, ← leaves_at seed h hn]
  have hc := check_own (leavesT seed h) n hl
  rw [leaves_len] at hc
  exact hc
end Go.Proofs.YtkmmhkoommbkpaaDoor
