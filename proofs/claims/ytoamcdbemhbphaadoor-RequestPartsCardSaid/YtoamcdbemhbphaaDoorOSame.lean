/-
  Signatures compared (wapentakeref04.Same), digests compared at a step of a drawn region.
-/
import Derived.Test.YtoamcdbemhbphaaDoorTG
namespace Go.Proofs.YtoamcdbemhbphaaDoor
open Go.RowKit

/-- Digests compared, kept whole while a region is walked. -/
noncomputable def eqDigest (a b : Value) : Sem Bool := Op.equalIn 10000 23 a b
theorem eqDigest_def (a b : Value) : Op.equalIn 10000 23 a b = eqDigest a b := rfl
theorem eq_digest (xs ys : List UInt8) (h1 : xs.length = 32) (h2 : ys.length = 32) (w : World) : (eqDigest (.agg (xs.map bv).toArray) (.agg (ys.map bv).toArray)).run Tryd.prog w = .ok (decide (xs = ys)) w := dig_eq xs ys h1 h2 w

section
attribute [local go_sem ↓] eqDigest_def
set_option maxRecDepth 100000 in
/-- Two digests compared, at a step of a region that draws its order. -/
theorem step_eq_dig {ops : Array Oper} {o : Oper} {a : Act} {w : World} {K : Act → World → Prop} {Q : Exit → Act → World → Prop} {E : Prop} (hgd : o.guard = none) (x y : Operand) (ho : o.op = .binOp .eql 23 x y 23)
    (p q : List UInt8) (hx : a.eval x = .agg (p.map bv).toArray) (hy : a.eval y = .agg (q.map bv).toArray) (hp : p.length = 32) (hq : q.length = 32) (h : K (a.put o.dst (.bool (decide (p = q)))) w) :
    if Region.wanted o (yielded ops a.tmps) = true then Oper.wp Tryd.prog o a w K Q else E := by
  have hw : Region.wanted o (yielded ops a.tmps) = true := by simp [Region.wanted, hgd]
  rw [if_pos hw]
  have he := eq_digest p q hp hq w
  unfold Oper.wp execOp
  simp only [ho, hx, hy]
  go_simp
  exact h
set_option maxRecDepth 100000 in
/-- The same where the operation is guarded, and wanted. -/
theorem step_eq_dig_if {o : Oper} {a : Act} {w : World} {K : Act → World → Prop} {Q : Exit → Act → World → Prop} (x y : Operand) (ho : o.op = .binOp .eql 23 x y 23)
    (p q : List UInt8) (hx : a.eval x = .agg (p.map bv).toArray) (hy : a.eval y = .agg (q.map bv).toArray) (hp : p.length = 32) (hq : q.length = 32) (h : K (a.put o.dst (.bool (decide (p = q)))) w) :
    Oper.wp Tryd.prog o a w K Q := by
  have he := eq_digest p q hp hq w
  unfold Oper.wp execOp
  simp only [ho, hx, hy]
  go_simp
  exact h
end

end Go.Proofs.YtoamcdbemhbphaaDoor
