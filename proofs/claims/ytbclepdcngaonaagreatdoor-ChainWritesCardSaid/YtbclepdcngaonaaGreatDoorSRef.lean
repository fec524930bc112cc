/-
  The document's answer: the digest (wapentakeref02.Of).
-/
import Derived.Test.YtbclepdcngaonaaGreatDoorSA
import Derived.Test.YtbclepdcngaonaaGreatDoorSNext
import Derived.Test.YtbclepdcngaonaaGreatDoorSB
import Derived.Test.YtbclepdcngaonaaGreatDoorSE
namespace Go.Proofs.YtbclepdcngaonaaGreatDoor
open Go.RowKit

noncomputable def ldWords (v : Value) : Sem Value := Instr.loadAt 178 v
theorem ldWords_def (v : Value) : Instr.loadAt 178 v = ldWords v := rfl
attribute [local go_sem ↓] ldState_def ldWords_def stState_def

theorem Box.load_state {w : World} {g : Nat} {t : TypeId} {s : St} (h : Box w g t s.vals) : (ldState (.pointer (some ⟨g, 0, none⟩))).run Tryz.prog w = .ok (.agg s.vals) w :=
  run_loadAt_mid (P := Tryz.prog) w g 0 136 (s.list.map wv) _ (fun j v hv => by rw [Nat.zero_add, h.cell, vals_list, List.getElem?_toArray]; exact hv) Tryz.underlying136 rfl (by kernel_rfl)
theorem Box.store_state {w : World} {g : Nat} {t : TypeId} {s : St} (h : Box w g t s.vals) (m : St) : (stState (.pointer (some ⟨g, 0, none⟩)) (.agg m.vals)).run Tryz.prog w = .ok () (w.setCells g 0 (m.list.map wv)) :=
  run_storeAt_mid (P := Tryz.prog) w g 0 136 m.vals (fun j hj => by
    have hj' : j < 8 := hj
    rw [Nat.zero_add, h.cell, h.free, list_get s hj']
    exact ⟨rfl, rfl⟩) (by kernel_rfl) (all_oneCell_toArray (wv_one m.list))
/-- What the walk of the document's Of carries of memory. -/
structure RefW (w0 : World) (gk gp : Nat) (P : List UInt8) (s : St) (w : World) : Prop where
  out : ∃ z, Box w w0.heap.size 29 z ∧ z.size = 32
  st : Box w (w0.heap.size + 1) 136 s.vals
  ks : Box w gk 178 (roots.map wv).toArray
  bytes : ∀ j u, (P.map bv)[j]? = some u → w.cell? ⟨gp, j, none⟩ = some u
  far : Below w0.heap.size w0 w
  high : w0.heap.size + 2 ≤ gk
  low : w0.heap.size + 2 ≤ gp
  old : gp < w.heap.size
theorem RefW.drew {w0 w : World} {gk gp : Nat} {P : List UInt8} {s : St} (h : RefW w0 gk gp P s w) : RefW w0 gk gp P s w.drew := ⟨h.out, h.st, h.ks, h.bytes, h.far.drew, h.high, h.low, h.old⟩
theorem RefW.call {w0 w w' : World} {gk gp : Nat} {P : List UInt8} {s : St} (h : RefW w0 gk gp P s w) (hb : Below w.heap.size w w') : RefW w0 gk gp P s w' := by
  obtain ⟨z, hz, hs⟩ := h.out
  exact ⟨⟨z, hz.below hb hz.lt, hs⟩, h.st.below hb h.st.lt, h.ks.below hb h.ks.lt, fun j u hu => (hb.cell (p := ⟨gp, j, none⟩) h.old).trans (h.bytes j u hu), h.far.trans (hb.mono h.far.size), h.high, h.low, Nat.lt_of_lt_of_le h.old hb.size⟩
theorem RefW.put {w0 w : World} {gk gp : Nat} {P : List UInt8} {s : St} (h : RefW w0 gk gp P s w) (m : St) : RefW w0 gk gp P m (w.setCells (w0.heap.size + 1) 0 (m.list.map wv)) := by
  obtain ⟨z, hz, hs⟩ := h.out
  have hg := only_cells (g := w0.heap.size + 1) (m.list.map wv) 0 w
  have h1 := h.high
  have h2 := h.low
  have hv : m.list.map wv = m.vals.toList := rfl
  have hst : Box (w.setCells (w0.heap.size + 1) 0 (m.list.map wv)) (w0.heap.size + 1) 136 m.vals := by
    rw [hv]
    exact h.st.cells_all m.vals rfl
  have hks := h.ks.grown hg (by simp; omega)
  have hout := hz.grown hg (by simp)
  have hby : ∀ j u, (P.map bv)[j]? = some u → (w.setCells (w0.heap.size + 1) 0 (m.list.map wv)).cell? ⟨gp, j, none⟩ = some u := fun j u hu => (World.cell?_of_block (a := ⟨gp, j, none⟩) (hg.block gp h.old (by simp; omega))).trans (h.bytes j u hu)
  exact ⟨⟨z, hout, hs⟩, hst, hks, hby, h.far.trans (below_only hg (by omega) h.far.size), h1, h2, Nat.lt_of_lt_of_le h.old hg.size⟩
theorem RefW.part {w0 w : World} {gk gp : Nat} {P : List UInt8} {s : St} (h : RefW w0 gk gp P s w) (i : Nat) : Sees w w.heap.size (some ⟨gp, i, none⟩) (((P.drop i).take 64).map bv) := by
  refine .inr ⟨gp, i, rfl, h.old, fun j u hu => h.bytes (i + j) u ?_⟩
  rw [List.getElem?_map, List.getElem?_take] at hu
  rw [List.getElem?_map]
  split at hu
  · rw [List.getElem?_drop] at hu
    exact hu
  · cases hu
/-- What the walk of the digest's bytes carries of memory. -/
structure DigW (w0 : World) (g : Nat) (s : St) (n : Nat) (w : World) : Prop where
  out : ∃ z, Box w w0.heap.size 29 z ∧ z.size = 32
  d : Box w g 29 (cellsD s.bytes n)
  far : Below w0.heap.size w0 w
  high : w0.heap.size < g
theorem DigW.put {w0 w : World} {g : Nat} {s : St} {n : Nat} (h : DigW w0 g s n w) (hn : n < 32) (b : UInt8) (hb : s.bytes[n]? = some b) : DigW w0 g s (n + 1) (w.setCell ⟨g, n, none⟩ (.int .u8 (b.toNat : Int))) := by
  obtain ⟨z, hz, hs⟩ := h.out
  have hh := h.high
  have hd := h.d.put n (.int .u8 (b.toNat : Int))
  rw [cellsD_put s.bytes rfl hn b hb] at hd
  exact ⟨⟨z, hz.aside (by simp; omega) _, hs⟩, hd, h.far.setCell (by simp; omega) _, hh⟩
end Go.Proofs.YtbclepdcngaonaaGreatDoor
