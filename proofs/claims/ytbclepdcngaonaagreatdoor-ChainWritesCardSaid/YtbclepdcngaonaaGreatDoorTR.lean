/-
  The document's own answers, below the rows: wapentakeref01.Digest, wapentakeref02.Text, wapentakeref03.Leaf and Pair.
-/
import Derived.Test.YtbclepdcngaonaaGreatDoorTG
import Derived.Test.YtbclepdcngaonaaGreatDoorTU
import Derived.Test.YtbclepdcngaonaaGreatDoorSRef
import Derived.Lib.ConvBytes
import Derived.Lib.SmallJoins
namespace Go.Proofs.YtbclepdcngaonaaGreatDoor
open Go.RowKit

attribute [local go_sem ↓] ldDigest_def stDigest_def

/-- What the walk of wapentakeref03.Pair carries of memory. -/
structure PrW (w0 : World) (a b : List UInt8) (w : World) : Prop where
  a : Box w w0.heap.size 29 (a.map bv).toArray
  b : Box w (w0.heap.size + 1) 29 (b.map bv).toArray
  out : Box w (w0.heap.size + 1 + 1) 29 (zerosD 32).toArray
  far : Below w0.heap.size w0 w
theorem PrW.call {w0 w w' : World} {a b : List UInt8} (h : PrW w0 a b w) (hb : Below w.heap.size w w') : PrW w0 a b w' := ⟨h.a.below hb h.a.lt, h.b.below hb h.b.lt, h.out.below hb h.out.lt, h.far.trans (hb.mono h.far.size)⟩
theorem PrW.drew {w0 w : World} {a b : List UInt8} (h : PrW w0 a b w) : PrW w0 a b w.drew := ⟨h.a, h.b, h.out, h.far.drew⟩

end Go.Proofs.YtbclepdcngaonaaGreatDoor
