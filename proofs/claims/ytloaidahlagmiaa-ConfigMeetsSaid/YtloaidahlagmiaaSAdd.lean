/-
  Package sha: bytes taken in (sha.hash.add).
-/
import Derived.Test.YtloaidahlagmiaaSB
namespace Go.Proofs.Ytloaidahlagmiaa
open Go.RowKit

def sliceLen (v : Value) : Nat := match v with | .slice _ n _ => n | _ => 0

end Go.Proofs.Ytloaidahlagmiaa
