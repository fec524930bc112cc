/-
  Package sha: a hash of no bytes (sha.start); the document's numbers (wapentakeref02.Numbers).
-/
import Derived.Test.YtbgbidgggjkmmaaGreatDoorSB
namespace Go.Proofs.YtbgbidgggjkmmaaGreatDoor
open Go.RowKit

def hashStart : Array Value := (hashList st0 (List.replicate 64 0) 0 0).toArray
def hashZero : Array Value := (List.replicate 8 (Value.int .u32 0) ++ (List.replicate 64 (Value.int .u8 0) ++ [Value.int .i64 0, Value.int .u64 0])).toArray
end Go.Proofs.YtbgbidgggjkmmaaGreatDoor
