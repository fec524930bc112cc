/-
  Pieces in memory: their cells, what is loaded, stored and built; slices that read as pieces.
  A state's digest by a number and a root: chunk.digest, wapentakeref11.Top.
  A registry's bytes on plain lists: what is written. No program, no memory.
  A configuration written: config.Write.
  A registry's bytes: chunk.Bytes.
-/
import Derived.Test.YtapdnoellleimaaDoorNA
import Derived.Test.YtapdnoellleimaaDoorRB
import Derived.Test.YtapdnoellleimaaDoorSD
import Derived.Test.YtapdnoellleimaaDoorTG
import Derived.Test.YtapdnoellleimaaDoorOB
import Derived.Lib.SlBytesConst
import Derived.Deep.RegionHeld3
import Derived.Test.YtapdnoellleimaaDoorNB
import Derived.Test.YtapdnoellleimaaDoorOC
namespace Go.Proofs.YtapdnoellleimaaDoor
open Go.RowKit

/-- A piece. -/
structure PcX where
  pos : Int
  cnt : Int
  tree : List UInt8
  data : ByteArray
  path : List (List UInt8)
  len : tree.length = 32
/-- A piece as memory has it: where its path lies. -/
structure PcM where
  x : PcX
  A : Option Addr
  z : Nat
def pcL (p n : Int) (t : List UInt8) (d : ByteArray) (A : Option Addr) (m z : Nat) : List Value := .int .i64 p :: .int .i64 n :: (t.map bv ++ [.string d, .slice A m z])
set_option maxRecDepth 100000 in
theorem pcL_len {t : List UInt8} (ht : t.length = 32) (p n : Int) (d : ByteArray) (A : Option Addr) (m z : Nat) : (pcL p n t d A m z).length = 36 := by
  unfold pcL
  simp [ht]
set_option maxRecDepth 100000 in
theorem pcL_one (p n : Int) (t : List UInt8) (d : ByteArray) (A : Option Addr) (m z : Nat) : ∀ v ∈ pcL p n t d A m z, v.oneCell' = true := by
  intro v hv
  unfold pcL at hv
  rcases List.mem_cons.1 hv with rfl | hv
  · rfl
  rcases List.mem_cons.1 hv with rfl | hv
  · rfl
  rcases List.mem_append.1 hv with hv | hv
  · exact bv_one _ v hv
  simp only [List.mem_cons, List.not_mem_nil, or_false] at hv
  rcases hv with rfl | rfl <;> rfl
def PcM.cells (p : PcM) : List Value := pcL p.x.pos p.x.cnt p.x.tree p.x.data p.A p.x.path.length p.z
set_option maxRecDepth 100000 in
theorem PcM.cells_len (p : PcM) : p.cells.length = 36 := pcL_len p.x.len _ _ _ _ _ _
set_option maxRecDepth 100000 in
theorem PcM.cells_one (p : PcM) : ∀ v ∈ p.cells, v.oneCell' = true := pcL_one _ _ _ _ _ _ _
def zpcV : Array Value := #[.int .i64 0, .int .i64 0, .int .u8 0, .int .u8 0, .int .u8 0, .int .u8 0, .int .u8 0, .int .u8 0, .int .u8 0, .int .u8 0, .int .u8 0, .int .u8 0, .int .u8 0, .int .u8 0, .int .u8 0, .int .u8 0, .int .u8 0, .int .u8 0, .int .u8 0, .int .u8 0, .int .u8 0, .int .u8 0, .int .u8 0, .int .u8 0, .int .u8 0, .int .u8 0, .int .u8 0, .int .u8 0, .int .u8 0, .int .u8 0, .int .u8 0, .int .u8 0, .int .u8 0, .int .u8 0, .string ⟨#[]⟩, .slice none 0 0]
def zpc : PcM := ⟨⟨0, 0, zeros, ⟨#[]⟩, [], rfl⟩, none, 0⟩
set_option maxRecDepth 100000 in
theorem zpc_cells : zpc.cells.toArray = zpcV := rfl
set_option maxRecDepth 100000 in
theorem zpc_size : zpcV.size = 36 := rfl

section
variable {w : World} {g o : Nat} {t : TypeId} {x : PcM}
set_option maxRecDepth 100000 in
theorem Box.pc_cell (h : Box w g t x.cells.toArray) {j : Nat} {v : Value} (e : x.cells[j]? = some v) : w.cell? ⟨g, j, none⟩ = some v := by rw [h.cell, List.getElem?_toArray, e]
set_option maxRecDepth 100000 in
theorem Box.pc_tree (h : Box w g t x.cells.toArray) : w.rangeAt g 2 (x.x.tree.map bv) := Box.range_mid (pre := [.int .i64 x.x.pos, .int .i64 x.x.cnt]) (post := [.string x.x.data, .slice x.A x.x.path.length x.z]) h rfl
set_option maxRecDepth 100000 in
theorem PcM.cell34 (x : PcM) : x.cells[34]? = some (.string x.x.data) := by
  unfold PcM.cells pcL
  rw [show ∀ (a b : Value) (l : List Value), (a :: b :: l)[34]? = l[32]? from fun _ _ _ => rfl, List.getElem?_append_right (by simp [x.x.len])]
  simp [x.x.len]
set_option maxRecDepth 100000 in
theorem PcM.cell35 (x : PcM) : x.cells[35]? = some (.slice x.A x.x.path.length x.z) := by
  unfold PcM.cells pcL
  rw [show ∀ (a b : Value) (l : List Value), (a :: b :: l)[35]? = l[33]? from fun _ _ _ => rfl, List.getElem?_append_right (by simp [x.x.len])]
  simp [x.x.len]
set_option maxRecDepth 100000 in
theorem Box.pc0 (h : Box w g t x.cells.toArray) : w.cell? ⟨g, 0, none⟩ = some (.int .i64 x.x.pos) := h.pc_cell rfl
set_option maxRecDepth 100000 in
theorem Box.pc1 (h : Box w g t x.cells.toArray) : w.cell? ⟨g, 1, none⟩ = some (.int .i64 x.x.cnt) := h.pc_cell rfl
set_option maxRecDepth 100000 in
theorem Box.pc34 (h : Box w g t x.cells.toArray) : w.cell? ⟨g, 34, none⟩ = some (.string x.x.data) := h.pc_cell x.cell34
set_option maxRecDepth 100000 in
theorem Box.pc35 (h : Box w g t x.cells.toArray) : w.cell? ⟨g, 35, none⟩ = some (.slice x.A x.x.path.length x.z) := h.pc_cell x.cell35
end

end Go.Proofs.YtapdnoellleimaaDoor

namespace Go.Proofs.YtapdnoellleimaaDoor
open Go.RowKit

attribute [local go_sem ↓] ldDigest_def stDigest_def

/-- "state". -/
def stMark : List UInt8 := [115, 116, 97, 116, 101]
def stD (n : Int) (r : List UInt8) : List UInt8 := shaOf (stMark ++ (numBytes n ++ r))
set_option maxRecDepth 100000 in
theorem stD_len (n : Int) (r : List UInt8) : (stD n r).length = 32 := rfl

end Go.Proofs.YtapdnoellleimaaDoor

namespace Go.Proofs.YtapdnoellleimaaDoor
open Go.RowKit

/-- A member's bytes, a configuration's, a pair's, a reply's, a state's. -/
def memB (m : MemX) : List UInt8 := [m.id, m.high].flatMap numBytes ++ m.root
def cfgB (ep : Int) (ms : List MemX) : List UInt8 := [ep, (ms.length : Int)].flatMap numBytes ++ ms.flatMap memB
def pairB (p : PairX) : List UInt8 := [p.key, p.val].flatMap textBytes
def repXB (r : RepX) : List UInt8 := repB r.client r.num r.code r.vals
def stB (s : StX) : List UInt8 := (((cfgB s.ep s.ms ++ [(s.ps.length : Int)].flatMap numBytes) ++ s.ps.flatMap pairB) ++ [(s.rs.length : Int)].flatMap numBytes) ++ s.rs.flatMap repXB
set_option maxRecDepth 100000 in
theorem memB_len (m : MemX) : (memB m).length = 48 := by
  unfold memB
  rw [List.length_append, nums_len, m.len]
  rfl
set_option maxRecDepth 100000 in
theorem flatlen_le {α : Type} (f : α → List UInt8) (c : Nat) : ∀ (l : List α), (∀ x ∈ l, (f x).length ≤ c) → (l.flatMap f).length ≤ c * l.length
  | [], _ => by simp
  | x :: r, h => by
    rw [List.flatMap_cons, List.length_append, List.length_cons, Nat.mul_succ]
    have h1 := h x List.mem_cons_self
    have h2 := flatlen_le f c r (fun y hy => h y (List.mem_cons_of_mem _ hy))
    omega
set_option maxRecDepth 100000 in
theorem mems_len (ms : List MemX) : (ms.flatMap memB).length = 48 * ms.length := by
  induction ms with
  | nil => rfl
  | cons m r ih =>
    rw [List.flatMap_cons, List.length_append, ih, memB_len, List.length_cons]
    omega
set_option maxRecDepth 100000 in
theorem cfgB_len (ep : Int) (ms : List MemX) : (cfgB ep ms).length = 16 + 48 * ms.length := by
  unfold cfgB
  rw [List.length_append, nums_len, mems_len]
  rfl
set_option maxRecDepth 100000 in
theorem pairB_len (p : PairX) : (pairB p).length = 8 + p.key.size + p.val.size := by
  unfold pairB
  simp only [List.flatMap_cons, List.flatMap_nil, List.length_append, List.length_nil, textBytes_len]
  omega
set_option maxRecDepth 100000 in
theorem flat_snoc {α : Type} (f : α → List UInt8) (l : List α) (k : Nat) (h : k < l.length) : (l.take (k + 1)).flatMap f = (l.take k).flatMap f ++ f (l[k]'h) := by
  rw [List.take_succ_eq_append_getElem h, List.flatMap_append]
  simp
set_option maxRecDepth 100000 in
theorem flat_le {α : Type} (f : α → List UInt8) (l : List α) (k : Nat) : ((l.take k).flatMap f).length ≤ (l.flatMap f).length := by
  conv => rhs; rw [← List.take_append_drop k l, List.flatMap_append, List.length_append]
  omega
set_option maxRecDepth 100000 in
theorem flat_le1 {α : Type} (f : α → List UInt8) (l : List α) (k : Nat) (h : k < l.length) : ((l.take k).flatMap f).length + (f (l[k]'h)).length ≤ (l.flatMap f).length := by
  have h1 := flat_le f l (k + 1)
  rw [flat_snoc f l k h, List.length_append] at h1
  exact h1
end Go.Proofs.YtapdnoellleimaaDoor

namespace Go.Proofs.YtapdnoellleimaaDoor
open Go.RowKit

attribute [local go_sem ↓] ldDigest_def stDigest_def

set_option maxRecDepth 100000 in
theorem MemX.root_at (x : MemX) {w : World} {g : Nat} {t : TypeId} (h : Box w g t x.cells.toArray) : w.rangeAt g 1 (x.root.map bv) := Box.range_mid (pre := [.int .i64 x.id]) (post := [.int .i64 x.high]) h rfl

end Go.Proofs.YtapdnoellleimaaDoor

namespace Go.Proofs.YtapdnoellleimaaDoor
open Go.RowKit

attribute [local go_sem ↓] ldDigest_def stDigest_def

set_option maxRecDepth 100000 in
theorem stB_sizes (s : StM) (h : (stB s.pl).length ≤ 1073741824) : s.ms.length ≤ 1073741824 ∧ s.ps.length ≤ 1073741824 ∧ s.rs.length ≤ 1073741824 ∧
    (cfgB s.ep s.ms ++ [(s.ps.length : Int)].flatMap numBytes).length + (s.ps.flatMap pairB).length ≤ 1073741824 ∧ ∀ r ∈ s.rs, r.x.vals.length ≤ 1073741824 ∧ totT r.x.vals ≤ 1099511627776 := by
  have e : stB s.pl = (((cfgB s.ep s.ms ++ [(s.ps.length : Int)].flatMap numBytes) ++ s.ps.flatMap pairB) ++ [((s.rs.map RepM.x).length : Int)].flatMap numBytes) ++ (s.rs.map RepM.x).flatMap repXB := rfl
  rw [e] at h
  simp only [List.length_append, nums_len, List.length_cons, List.length_nil] at h
  have h1 := cfgB_len s.ep s.ms
  have hp : s.ps.length ≤ (s.ps.flatMap pairB).length := by
    have : ∀ l : List PairX, l.length ≤ (l.flatMap pairB).length := by
      intro l
      induction l with
      | nil => simp
      | cons x r ih =>
        rw [List.flatMap_cons, List.length_append, pairB_len, List.length_cons]
        omega
    exact this _
  have hr : ∀ l : List RepX, l.length ≤ (l.flatMap repXB).length ∧ ∀ r ∈ l, (repXB r).length ≤ (l.flatMap repXB).length := by
    intro l
    induction l with
    | nil => simp
    | cons x r ih =>
      have hx : (repXB x).length = 32 + 4 * x.vals.length + totT x.vals := repB_len _ _ _ _
      refine ⟨by rw [List.flatMap_cons, List.length_append, List.length_cons]; omega, fun y hy => ?_⟩
      rw [List.flatMap_cons, List.length_append]
      rcases List.mem_cons.1 hy with rfl | hy
      · omega
      · have := ih.2 y hy; omega
  obtain ⟨hr1, hr2⟩ := hr (s.rs.map RepM.x)
  rw [List.length_map] at hr1
  refine ⟨by omega, by omega, by omega, ?_, fun r hm => ?_⟩
  · simp only [List.length_append, nums_len, List.length_cons, List.length_nil]
    omega
  · have := hr2 r.x (List.mem_map_of_mem hm)
    have hx : (repXB r.x).length = 32 + 4 * r.x.vals.length + totT r.x.vals := repB_len _ _ _ _
    omega

end Go.Proofs.YtapdnoellleimaaDoor
