/-
  Slices cut.
-/
import Derived.Test.YtdgedhaiefingaaDoorSKit2
import Derived.Test.YtdgedhaiefingaaDoorSAdd
namespace Go.Proofs.YtdgedhaiefingaaDoor
open Go.RowKit

/-- A slice's part: s[a:b]. -/
theorem Sees.part_of {w : World} {B : Nat} {A : Option Addr} {xs : List Value} (h : Sees w B A xs) {i cap : Nat} (hc : xs.length ≤ cap) (hi : i ≤ xs.length) (n : Nat) : Sees w B (if cap = i then A else A.map (·.add i)) ((xs.drop i).take n) := (h.cut hc hi).take n
theorem cut_three (b : List UInt8) (i j : Nat) (hij : i ≤ j) : [b.take i, (b.drop i).take (j - i), b.drop j].flatten = b := by
  simp only [List.flatten_cons, List.flatten_nil, List.append_nil]
  have e : b.drop j = (b.drop i).drop (j - i) := by rw [List.drop_drop, show i + (j - i) = j from by omega]
  rw [e, List.take_append_drop, List.take_append_drop]
theorem slice_from' {A : Option Addr} {n c m : Nat} (hm : m ≤ n) (w : World) :
    (Instr.slice 37 (.slice A n c) (some (.int .i64 (m : Int))) none none).run Tryd.prog w = .ok (.slice (if c = m then A else A.map (·.add m)) (n - m) (c - m)) w := slice_from hm w
theorem slice_upto {A : Option Addr} {n c i : Nat} (hi : i ≤ c) (w : World) :
    (Instr.slice 37 (.slice A n c) none (some (.int .i64 (i : Int))) none).run Tryd.prog w = .ok (.slice A i c) w := by
  have hu : Tryd.prog.underlying 37 = some (.slice (Tryd.prog.elem 37)) := by kernel_rfl
  have hs : (sizeOf (Tryd.prog.elem 37)).run Tryd.prog w = .ok 1 w := by kernel_rfl
  rw [run_slice_h w 37 A n c hu .i64 (i : Int) (by omega) (by omega), hs]
  rcases A with _ | a
  · simp [sliced]
  · simp [sliced, Addr.add_zero']
theorem slice_mid {A : Option Addr} {n c i j : Nat} (hij : i ≤ j) (hj : j ≤ c) (w : World) :
    (Instr.slice 37 (.slice A n c) (some (.int .i64 (i : Int))) (some (.int .i64 (j : Int))) none).run Tryd.prog w = .ok (.slice (if c = i then A else A.map (·.add i)) (j - i) (c - i)) w := by
  have hu : Tryd.prog.underlying 37 = some (.slice (Tryd.prog.elem 37)) := by kernel_rfl
  have hs : (sizeOf (Tryd.prog.elem 37)).run Tryd.prog w = .ok 1 w := by kernel_rfl
  rw [run_slice_lh w 37 A n c hu .i64 .i64 (i : Int) (j : Int) (by omega) (by omega) (by omega), hs]
  simp [sliced]
end Go.Proofs.YtdgedhaiefingaaDoor
