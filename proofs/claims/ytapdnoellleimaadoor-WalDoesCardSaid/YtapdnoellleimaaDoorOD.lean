/-
  A public half: once.Public.
  Under what a signature is right: once.Of.
-/
import Derived.Test.YtapdnoellleimaaDoorOC
import Derived.Test.YtapdnoellleimaaDoorOB
import Derived.Deep.RegionHeld3
namespace Go.Proofs.YtapdnoellleimaaDoor
open Go.RowKit

attribute [local go_sem ↓] ldDigest_def stDigest_def

/-- The bytes of a Writer, as one piece. -/
theorem one_made {w : World} {t : TypeId} {bs : List UInt8} {A : Option Addr} {c : Nat} (h : Sees w w.heap.size A (bs.map bv)) (hc : bs.length ≤ c) (hm : c ≤ maxLen) :
    Pieces (w.alloc (.cells #[.slice A bs.length c] t)) (w.alloc (.cells #[.slice A bs.length c] t)).heap.size (some ⟨w.heap.size, 0, none⟩) [bs] := by
  have hF : Below w.heap.size w (w.alloc (.cells #[.slice A bs.length c] t)) := (Below.refl _ _).alloc (Nat.le_refl _) _
  have hB : Box (w.alloc (.cells #[.slice A bs.length c] t)) w.heap.size t #[.slice A bs.length c] := Box.made _ _ _
  exact Pieces.one hB hB.lt hc hm ((h.below hF).more hF.size)

end Go.Proofs.YtapdnoellleimaaDoor

namespace Go.Proofs.YtapdnoellleimaaDoor
open Go.RowKit

attribute [local go_sem ↓] ldDigest_def

theorem all_two {a b : List UInt8} (ha : a.length = 32) (hb : b.length = 32) : AllD [a, b] := by
  intro x hx
  rcases List.mem_cons.1 hx with rfl | hx
  · exact ha
  · obtain rfl := List.mem_singleton.1 hx
    exact hb
/-- The two digests of each of the first k bits. -/
def bothsT (d : List UInt8) (op sh : List (List UInt8)) (k : Nat) : List UInt8 := (List.range k).flatMap (bothT d op sh)
theorem bothsT_succ (d : List UInt8) (op sh : List (List UInt8)) (k : Nat) : bothsT d op sh (k + 1) = bothsT d op sh k ++ bothT d op sh k := by
  unfold bothsT
  rw [List.range_succ, List.flatMap_append]
  simp
theorem bothT_len {d : List UInt8} {op sh : List (List UInt8)} (hs : AllD sh) {k : Nat} (hk : k < sh.length) : (bothT d op sh k).length = 64 := by
  unfold bothT
  have h := hs.get hk []
  split <;> rw [List.length_append, sha_len, h]
theorem bothsT_len {d : List UInt8} {op sh : List (List UInt8)} (hs : AllD sh) : ∀ k, k ≤ sh.length → (bothsT d op sh k).length = 64 * k
  | 0, _ => rfl
  | k + 1, hk => by
    rw [bothsT_succ, List.length_append, bothsT_len hs k (by omega), bothT_len hs (by omega)]
    omega

theorem zs32_size : (Tryd.prog.info? 89).map (·.size) = some zs32.size := by
  show _ = some 32
  kernel_rfl
theorem zs32_one : ∀ v ∈ zs32.toList, v.oneCell' = true := by decide +kernel
/-- A digest and a truth value are answered. -/
theorem ret_dig_tmp {fn : Func} {p q : Tmp} (hf : fn.results = #[.cell p 89, .tmp q]) {a : Act} {w : World} {g : Nat} (hp : a.tmps.getD p undef = .pointer (some ⟨g, 0, none⟩)) {b : Value} (hq : a.tmps.getD q undef = b) (hdf : a.defers = []) {t : TypeId} {cs : Array Value} (hb : Box w g t cs) (hd : (Tryd.prog.info? 89).map (·.size) = some cs.size)
    {R : Ending → World → Prop} (hR : R (.returned (.tuple #[.agg cs, b])) w) : bodyPost Tryd.prog fn R .ret a w := by
  have hp' : a.tmps[p]?.getD undef = .pointer (some ⟨g, 0, none⟩) := by simpa using hp
  have hq' : a.tmps[q]?.getD undef = b := by simpa using hq
  refine bodyPost_ret (v := .tuple #[.agg cs, b]) ?_ hdf hR
  simp [results, hf, hp', hq', asAddr, run_loadVar_row w g t 89 cs (0, 0) _ hb Tryd.underlying89 rfl hd]

/-- What Of answers of a signature: true and the public half, if both lists have 32 digests. -/
def goodO (op sh : List (List UInt8)) : Bool := decide (op.length = 32 ∧ sh.length = 32)
end Go.Proofs.YtapdnoellleimaaDoor
