/-
  For tied cards of state's laws that read the table of powers of ten: what the rows' list gives.
-/
import Derived.Test.YtbgbidgggjkmmaaDoorStTyKit
import Derived.Test.YtbgbidgggjkmmaaDoorStDig
namespace Go.Proofs.YtbgbidgggjkmmaaDoor
open Go.ChangeShapes Go.WideShapes Go.ChangeAt Go.RowKit Go.Deep

set_option maxRecDepth 100000 in
theorem laid_tail10 {P : Program} {x : String × DataW Unit} {r : List (String × DataW Unit)} {w : World} (h : laidMet P (x :: r) w) : laidMet P r w := by
  obtain ⟨ps, ⟨g, t, cs, fuel, p, q, e1, e2, e3, e4, hr, rfl⟩, hnd, hrows⟩ := h
  exact ⟨q, hr, hnd.sublist (List.sublist_append_right _ _), fun b off hp => hrows b off (List.mem_append_right _ hp)⟩
set_option maxRecDepth 100000 in
theorem stPow10 : Tryd.prog.globalNamed "internal/strconv.uint64pow10" = some 0 := by kernel_rfl
set_option maxRecDepth 100000 in
theorem stPow10Type : (Tryd.prog.globals[0]?).map (·.type) = some 135 := by kernel_rfl
set_option maxRecDepth 100000 in
theorem stCells_words : Tryd.prog.cellsOf 135 = 20 := by kernel_rfl
set_option maxRecDepth 100000 in
theorem stCells_word : Tryd.prog.cellsOf 123 = 1 := by kernel_rfl
set_option maxRecDepth 100000 in
theorem pow10_eq : Lib.pow10Tab = pow10s := by decide +kernel
set_option maxRecDepth 100000 in
theorem stTable {W : World} (h : laidMetH Tryd.prog [("math/bits.deBruijn32tab", Rows.laid_math_bits_deBruijn32tab), ("math/bits.deBruijn64tab", Rows.laid_math_bits_deBruijn64tab), ("internal/strconv.uint64pow10", Rows.laid_internal_strconv_uint64pow10)] W) : Tab10 W := by
  have h1 : laidMet Tryd.prog [("math/bits.deBruijn32tab", Rows.laid_math_bits_deBruijn32tab), ("math/bits.deBruijn64tab", Rows.laid_math_bits_deBruijn64tab), ("internal/strconv.uint64pow10", Rows.laid_internal_strconv_uint64pow10)] W := h
  unfold Tab10
  rw [pow10_eq]
  exact Lib.tabIs_of_head (rest := []) stPow10 stPow10Type Tryd.underlying135 Tryd.underlying123 stCells_word stCells_words (laid_tail10 (laid_tail10 h1))
end Go.Proofs.YtbgbidgggjkmmaaDoor
