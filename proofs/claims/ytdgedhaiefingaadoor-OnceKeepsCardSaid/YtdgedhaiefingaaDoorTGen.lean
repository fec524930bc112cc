/-
  What walks over digests share, of no function of the program.
-/
import Derived.Test.YtdgedhaiefingaaDoorTKit
namespace Go.Proofs.YtdgedhaiefingaaDoor
open Go.RowKit

theorem dig_size (d : List UInt8) (hd : d.length = 32) : (Tryd.prog.info? 23).map (·.size) = some (d.map bv).toArray.size := by
  rw [List.size_toArray, List.length_map, hd]
  kernel_rfl
theorem below_cells {w0 w : World} {B g : Nat} (h : Below B w0 w) (hg : B ≤ g) (hB : B ≤ w.heap.size) (o : Nat) (vs : List Value) : Below B w0 (w.setCells g o vs) := h.trans (below_only (only_cells vs o w) hg hB)
def zerosD (n : Nat) : List Value := List.replicate n (.int .u8 0)
theorem made_same (K n : Nat) (z : Value) : (madeCells (List.replicate (K + 1) z).toArray n).toList = List.replicate n z := by
  apply List.ext_getElem?
  intro j
  by_cases hj : j < n
  · have h := Nat.mod_lt j (Nat.succ_pos K)
    simp [madeCells, hj, h]
  · simp [madeCells, hj]
theorem made_zeros (n : Nat) : madeCells (List.replicate 32 (Value.int .u8 0)).toArray n = (zerosD n).toArray := by
  apply Array.ext'
  rw [made_same 31 n (.int .u8 0)]
  rfl
theorem make_digs (n : Nat) (hn : n ≤ 1099511627776) (w : World) :
    (Instr.makeSlice 27 (.int .i64 (n : Int)) (.int .i64 (n : Int))).run Tryd.prog w = .ok (.slice (some ⟨w.heap.size, 0, none⟩) n n) (w.alloc (.cells (zerosD (n * 32)).toArray 23)) := by
  obtain ⟨i0, hi0, hz0, hz1, hz2⟩ := info_parts dig_info3
  have hr := run_make (P := Tryd.prog) w 27 23 i0 _ Tryd.underlying27 hi0 hz0 .i64 .i64 n n (by omega) (Int.le_refl _) (by rw [hz2]; omega) (by omega)
  rw [hr, Int.toNat_natCast, hz1]
  show Result.ok _ (w.alloc (.cells (madeCells (List.replicate 32 (Value.int .u8 0)).toArray (n * 32)) _)) = _
  rw [made_zeros]
theorem Box.cells_dig {w : World} {g : Nat} {t : TypeId} {cs : Array Value} (h : Box w g t cs) (hs : cs.size = 32) {d : List UInt8} (hd : d.length = 32) : Box (w.setCells g 0 (d.map bv)) g t (d.map bv).toArray :=
  h.cells_all (d.map bv).toArray (by rw [List.size_toArray, List.length_map, hd, hs])
/-- A digest is answered. -/
theorem ret_dig {fn : Func} {p : Tmp} (hf : fn.results = #[.cell p 23]) {a : Act} {w : World} {g : Nat} (hp : a.tmps.getD p undef = .pointer (some ⟨g, 0, none⟩)) (hdf : a.defers = []) {t : TypeId} {d : List UInt8} (hb : Box w g t (d.map bv).toArray) (hd : d.length = 32)
    {R : Ending → World → Prop} (hR : R (.returned (.agg (d.map bv).toArray)) w) : bodyPost Tryd.prog fn R .ret a w :=
  bodyPost_ret (results_cell_row hf _ w g t _ (0, 0) _ hp hb Tryd.underlying23 rfl (dig_size d hd)) hdf hR
def lenOfV : Value → Nat
  | .slice _ n _ => n
  | _ => 0
/-- What the walk of Root carries of memory. -/
structure RtW (w0 w : World) : Prop where
  out : Box w w0.heap.size 23 (zerosD 32).toArray
  far : Below w0.heap.size w0 w
theorem RtW.call {w0 w w' : World} (h : RtW w0 w) (hb : Below w.heap.size w w') : RtW w0 w' := ⟨h.out.below hb h.out.lt, h.far.trans (hb.mono h.far.size)⟩
theorem own_slice_s {w : World} {base n s : Nat} {e : TypeId} {v : Value} {xs : List Value} (h : w.ownsRow base e s v n xs) : ∃ A c, v = .slice A n c := by
  rcases h.2 with ⟨h1, h2⟩ | ⟨g, cap, cur, h1, _⟩
  · exact ⟨none, 0, by rw [h1, h2]⟩
  · exact ⟨_, _, h1⟩
/-- What the walk of Path carries of memory. -/
structure PaW (w0 : World) (v : Value) (ps : List (List UInt8)) (w : World) : Prop where
  own : w.ownsRow w0.heap.size 23 32 v ps.length (ps.flatten.map bv)
  all : AllD ps
  far : Below w0.heap.size w0 w
theorem PaW.call {w0 w w' : World} {v : Value} {ps : List (List UInt8)} (h : PaW w0 v ps w) (hb : Below w.heap.size w w') : PaW w0 v ps w' :=
  ⟨World.ownsRow.kept h.own (only_below hb none) (by cases v.ownBlock <;> simp), h.all, h.far.trans (hb.mono h.far.size)⟩
theorem PaW.drew {w0 w : World} {v : Value} {ps : List (List UInt8)} (h : PaW w0 v ps w) : PaW w0 v ps w.drew := ⟨h.own, h.all, h.far.drew⟩
end Go.Proofs.YtdgedhaiefingaaDoor
