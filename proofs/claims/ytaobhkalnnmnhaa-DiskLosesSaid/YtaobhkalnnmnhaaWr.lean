/-
  The Writer of package code: what each of its methods does, said of the bytes that were written.
  The Writer of package code, on: Num.
  The Writer of package code, on: Text.
  The Writer of package code, on: Digest, Bytes.
-/
import Derived.Test.YtaobhkalnnmnhaaProg
import Derived.Test.YtaobhkalnnmnhaaKB
import Derived.WalkSpells
import Derived.WalkLawsBesides
import Derived.Lib.Hide
import Derived.Deep.RegionHeld3
import Derived.Deep.RegionLaw
import Derived.Deep.DrawnRows
import Derived.Deep.Cut
namespace Go.Proofs.Ytaobhkalnnmnhaa
open Go.RowKit

attribute [local go_sem ↓] Go.wp_at_zero Go.wp_at_succ

theorem wr_byte_info : (Try.prog.info? 5).map (fun i => (i.zero, i.size, i.bytes)) = some (some (.int .u8 0), 1, 1) := by kernel_rfl

/-- The blocks that are the Writer's: its own, and the row that it owns. -/
def Mine (w : World) (a k : Nat) : Prop := k = a ∨ ∃ v, w.cell? ⟨a, 0, none⟩ = some v ∧ v.ownBlock = some k

/-- Nothing but what is the Writer's, and what is new, has turned; and of what was there nothing more has become the Writer's. -/
structure WF (a : Nat) (w w' : World) : Prop where
  os : w'.os = w.os
  tape : w'.tape = w.tape
  output : w'.output = w.output
  size : w.heap.size ≤ w'.heap.size
  block : ∀ k, k < w.heap.size → ¬ Mine w a k → w'.heap[k]? = w.heap[k]?
  mine : ∀ k, k < w.heap.size → ¬ Mine w a k → ¬ Mine w' a k

theorem WF.refl (a : Nat) (w : World) : WF a w w := ⟨rfl, rfl, rfl, Nat.le_refl _, fun _ _ _ => rfl, fun _ _ h => h⟩
theorem WF.trans {a : Nat} {u v w : World} (h : WF a u v) (k : WF a v w) : WF a u w :=
  ⟨k.os.trans h.os, k.tape.trans h.tape, k.output.trans h.output, Nat.le_trans h.size k.size,
    fun i hi hn => (k.block i (Nat.lt_of_lt_of_le hi h.size) (h.mine i hi hn)).trans (h.block i hi hn), fun i hi hn => k.mine i (Nat.lt_of_lt_of_le hi h.size) (h.mine i hi hn)⟩
/-- A step that leaves all blocks that were there alone, the Writer's too. -/
theorem WF.of_below {a : Nat} {w w' : World} (h : Below w.heap.size w w') (ha : a < w.heap.size) : WF a w w' :=
  ⟨h.os, h.tape, h.output, h.size, fun k hk _ => h.block k hk, fun k _ hn hm => hn (by
    rcases hm with rfl | ⟨v, hv, ho⟩
    · exact .inl rfl
    · exact .inr ⟨v, (h.cell (p := ⟨a, 0, none⟩) ha) ▸ hv, ho⟩)⟩
end Go.Proofs.Ytaobhkalnnmnhaa

namespace Go.Proofs.Ytaobhkalnnmnhaa
open Go.RowKit

attribute [local go_sem ↓] Go.wp_at_zero Go.wp_at_succ

/-- A slice that reads as the cells xs, in no block of the Writer's. -/
def Src (w : World) (a : Nat) (A : Option Addr) (xs : List Value) : Prop :=
  xs = [] ∨ ∃ g o, A = some ⟨g, o, none⟩ ∧ g < w.heap.size ∧ ¬ Mine w a g ∧ ∀ j u, xs[j]? = some u → w.cell? ⟨g, o + j, none⟩ = some u
theorem Src.at_ {w wr : World} {a k : Nat} {A : Option Addr} {xs : List Value} (h : Src w a A xs) (hf : WF a w wr) (hk : k < xs.length) : ∃ g o, A = some ⟨g, o, none⟩ ∧ wr.cell? ⟨g, o + k, none⟩ = some xs[k] := by
  rcases h with rfl | ⟨g, o, e, hg, hn, hc⟩
  · simp at hk
  · exact ⟨g, o, e, (World.cell?_of_block (hf.block g hg hn)).trans (hc k _ (List.getElem?_eq_getElem hk))⟩
/-- The eight bytes of a number. -/
def numBytes (n : Int) : List UInt8 := beBytes 8 (n % 18446744073709551616).toNat
theorem numBytes_len (n : Int) : (numBytes n).length = 8 := beBytes_length _ _
theorem nums_len : ∀ ns : List Int, (ns.flatMap numBytes).length = 8 * ns.length
  | [] => rfl
  | n :: r => by rw [List.flatMap_cons, List.length_append, nums_len r, numBytes_len, List.length_cons]; omega
theorem wrap_u64_nat (n : Int) : IntKind.u64.wrap n = (((n % 18446744073709551616).toNat : Nat) : Int) := by
  have e : IntKind.u64.wrap n = n % 18446744073709551616 := by simp [IntKind.wrap, IntKind.bits, IntKind.signed]
  rw [e]
  omega

end Go.Proofs.Ytaobhkalnnmnhaa

namespace Go.Proofs.Ytaobhkalnnmnhaa
open Go.RowKit

attribute [local go_sem ↓] Go.wp_at_zero Go.wp_at_succ

/-- The bytes of a text. -/
def textBytes (s : ByteArray) : List UInt8 := beBytes 4 s.size ++ s.data.toList
theorem size_data (s : ByteArray) : s.data.toList.length = s.size := by rw [Array.length_toList]; rfl
theorem textBytes_len (s : ByteArray) : (textBytes s).length = 4 + s.size := by unfold textBytes; rw [List.length_append, beBytes_length, size_data]
theorem flat_take {α : Type} (f : α → List UInt8) (l : List α) (k : Nat) (h : k < l.length) : ((l.take k).flatMap f).length + (f l[k]).length ≤ (l.flatMap f).length := by
  have e : l.flatMap f = (l.take (k + 1)).flatMap f ++ (l.drop (k + 1)).flatMap f := by rw [← List.flatMap_append, List.take_append_drop]
  rw [e, take_snoc' l k h, List.flatMap_append, List.length_append, List.length_append]
  simp

end Go.Proofs.Ytaobhkalnnmnhaa

namespace Go.Proofs.Ytaobhkalnnmnhaa
open Go.RowKit

attribute [local go_sem ↓] Go.wp_at_zero Go.wp_at_succ

theorem flat_len32 : ∀ ds : List (List UInt8), (∀ d ∈ ds, d.length = 32) → (ds.flatMap id).length = 32 * ds.length
  | [], _ => rfl
  | d :: r, h => by
    rw [List.flatMap_cons, List.length_append, flat_len32 r (fun x hx => h x (List.mem_cons_of_mem _ hx)), List.length_cons]
    have := h d List.mem_cons_self
    simp only [id]
    omega
theorem flat_at32 : ∀ (ds : List (List UInt8)), (∀ d ∈ ds, d.length = 32) → ∀ (k : Nat) (h : k < ds.length) (j : Nat), j < 32 → (ds.flatMap id)[32 * k + j]? = ds[k][j]?
  | [], _, k, h, _, _ => by simp at h
  | d :: r, h, 0, _, j, hj => by
    have := h d List.mem_cons_self
    rw [List.flatMap_cons, List.getElem?_append_left (by simp only [id]; omega)]
    simp
  | d :: r, h, k + 1, hk, j, hj => by
    have := h d List.mem_cons_self
    rw [List.flatMap_cons, List.getElem?_append_right (by simp only [id]; omega)]
    have e : 32 * (k + 1) + j - (id d).length = 32 * k + j := by simp only [id]; omega
    rw [e, flat_at32 r (fun x hx => h x (List.mem_cons_of_mem _ hx)) k (by simpa using hk) j hj]
    simp

abbrev zcells' : Array Value := #[Value.int IntKind.u8 0, Value.int IntKind.u8 0, Value.int IntKind.u8 0, Value.int IntKind.u8 0, Value.int IntKind.u8 0, Value.int IntKind.u8 0, Value.int IntKind.u8 0, Value.int IntKind.u8 0, Value.int IntKind.u8 0, Value.int IntKind.u8 0, Value.int IntKind.u8 0, Value.int IntKind.u8 0, Value.int IntKind.u8 0, Value.int IntKind.u8 0, Value.int IntKind.u8 0, Value.int IntKind.u8 0, Value.int IntKind.u8 0, Value.int IntKind.u8 0, Value.int IntKind.u8 0, Value.int IntKind.u8 0, Value.int IntKind.u8 0, Value.int IntKind.u8 0, Value.int IntKind.u8 0, Value.int IntKind.u8 0, Value.int IntKind.u8 0, Value.int IntKind.u8 0, Value.int IntKind.u8 0, Value.int IntKind.u8 0, Value.int IntKind.u8 0, Value.int IntKind.u8 0, Value.int IntKind.u8 0, Value.int IntKind.u8 0]

end Go.Proofs.Ytaobhkalnnmnhaa
