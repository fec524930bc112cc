/-
  The document's answer for a block (wapentakeref02.Next): the same state.
-/
import Derived.Test.YtaobhkalnnmnhaaSB
namespace Go.Proofs.Ytaobhkalnnmnhaa
open Go.RowKit

theorem add24 (x0 x1 : UInt8) : IntKind.u32.wrap ((x0.toNat : Int) * 16777216 + (x1.toNat : Int) * 65536) = (x0.toNat : Int) * 16777216 + (x1.toNat : Int) * 65536 := by
  have h0 := x0.toNat_lt
  have h1 := x1.toNat_lt
  rw [IntKind.wrap_u32']
  omega
theorem add16 (x0 x1 x2 : UInt8) : IntKind.u32.wrap ((x0.toNat : Int) * 16777216 + (x1.toNat : Int) * 65536 + (x2.toNat : Int) * 256) = (x0.toNat : Int) * 16777216 + (x1.toNat : Int) * 65536 + (x2.toNat : Int) * 256 := by
  have h0 := x0.toNat_lt
  have h1 := x1.toNat_lt
  have h2 := x2.toNat_lt
  rw [IntKind.wrap_u32']
  omega
theorem add8 (x0 x1 x2 x3 : UInt8) : IntKind.u32.wrap ((x0.toNat : Int) * 16777216 + (x1.toNat : Int) * 65536 + (x2.toNat : Int) * 256 + (x3.toNat : Int)) = wi (be32 x0 x1 x2 x3) := by
  have h0 := x0.toNat_lt
  have h1 := x1.toNat_lt
  have h2 := x2.toNat_lt
  have h3 := x3.toNat_lt
  rw [IntKind.wrap_u32', wi_be32]
  omega

theorem roots_cell (k : Nat) (hk : k < 64) : ((roots.map wv).toArray)[k]? = some (.int .u32 (wi (roots.getD k 0))) := by
  have hl : k < roots.length := hk
  rw [List.getElem?_toArray, List.getElem?_map, List.getElem?_eq_getElem hl, List.getD_eq_getElem?_getD, List.getElem?_eq_getElem hl]
  rfl

end Go.Proofs.Ytaobhkalnnmnhaa
