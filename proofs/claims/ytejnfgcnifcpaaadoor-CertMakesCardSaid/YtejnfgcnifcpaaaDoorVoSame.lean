/-
  wapentakeref13.Same of votes that read alike.
-/
import Derived.Test.YtejnfgcnifcpaaaDoorVD
import Derived.Test.YtejnfgcnifcpaaaDoorKSame
namespace Go.Proofs.YtejnfgcnifcpaaaDoor
open Go.RowKit Go.Maps

attribute [local go_sem ↓] ldVt_def stVt_def ldSg_def ldDigest_def stDigest_def eqDigest_def
set_option maxRecDepth 100000 in
set_option maxHeartbeats 4000000 in
theorem rsame_true (a b : VtM) (hab : b.x = a.x) (hf : VFew a.x) (w : World) (hS : VSee w a) (hT : VSee w b) :
    Calls Tryd.prog 22 #[.agg a.cells.toArray, .agg b.cells.toArray] w fun e w' => e = .returned (.bool true) ∧ Below w.heap.size w w' := by
  obtain ⟨w1, hw1⟩ : ∃ w1, w1 = (w.alloc (.cells a.cells.toArray 45)).alloc (.cells b.cells.toArray 45) := ⟨_, rfl⟩
  have HX : Hid (Box w1 w.heap.size 45 a.cells.toArray) := by rw [hw1]; exact (Box.made w _ _).alloc _
  have HY : Hid (Box w1 (w.heap.size + 1) 45 b.cells.toArray) := by rw [hw1]; exact Box.made_at (by simp) _ _
  have HF : Hid (Below w.heap.size w w1) := by rw [hw1]; exact ((Below.refl _ _).alloc (Nat.le_refl _) _).alloc (by simp) _
  have hs := hS.call HF.out
  have ht := hT.call HF.out
  have HK := Lib.hid (ksame_any a.x.leaf b.x.leaf a.x.opn a.x.sht a.x.pth b.x.opn b.x.sht b.x.pth a.A a.B a.C b.A b.B b.C a.a a.b a.c b.a b.b b.c w1 hs.opn hs.sht hs.pth ht.opn ht.sht ht.pth (by have := hf.opn; omega) (by have := hf.sht; omega) (by have := hf.pth; omega))
  have x0 : w1.cell? ⟨w.heap.size, 0, none⟩ = some (.int .i64 a.x.kind) := HX.out.vt_0
  have x1 : w1.cell? ⟨w.heap.size, 1, none⟩ = some (.int .i64 a.x.epoch) := HX.out.vt_1
  have x2 : w1.cell? ⟨w.heap.size, 2, none⟩ = some (.int .i64 a.x.height) := HX.out.vt_2
  have x3 : w1.cell? ⟨w.heap.size, 3, none⟩ = some (.int .i64 a.x.round) := HX.out.vt_3
  have x5 : w1.cell? ⟨w.heap.size, 36, none⟩ = some (.int .i64 a.x.frm) := HX.out.vt_36 a.x.len
  have xd : (ldDigest (.pointer (some ⟨w.heap.size, 4, none⟩))).run Tryd.prog w1 = .ok (.agg (a.x.dig.map bv).toArray) w1 := range_load HX.out.vt_dig a.x.len
  have xs := HX.out.ld_vsg
  have y0 : w1.cell? ⟨w.heap.size + 1, 0, none⟩ = some (.int .i64 a.x.kind) := by rw [← hab]; exact HY.out.vt_0
  have y1 : w1.cell? ⟨w.heap.size + 1, 1, none⟩ = some (.int .i64 a.x.epoch) := by rw [← hab]; exact HY.out.vt_1
  have y2 : w1.cell? ⟨w.heap.size + 1, 2, none⟩ = some (.int .i64 a.x.height) := by rw [← hab]; exact HY.out.vt_2
  have y3 : w1.cell? ⟨w.heap.size + 1, 3, none⟩ = some (.int .i64 a.x.round) := by rw [← hab]; exact HY.out.vt_3
  have y5 : w1.cell? ⟨w.heap.size + 1, 36, none⟩ = some (.int .i64 a.x.frm) := by rw [← hab]; exact HY.out.vt_36 b.x.len
  have yd : (ldDigest (.pointer (some ⟨w.heap.size + 1, 4, none⟩))).run Tryd.prog w1 = .ok (.agg (a.x.dig.map bv).toArray) w1 := by rw [← hab]; exact range_load HY.out.vt_dig b.x.len
  have ys := HY.out.ld_vsg
  have hq : ∀ w', (eqDigest (.agg (a.x.dig.map bv).toArray) (.agg (a.x.dig.map bv).toArray)).run Tryd.prog w' = .ok true w' := fun w' => by rw [eq_digest _ _ a.x.len a.x.len w', decide_eq_true rfl]
  have HK2 : Hid (Calls Tryd.prog 41 #[.agg a.sg.cells, .agg b.sg.cells] w1 fun e w' => e = .returned (.bool true) ∧ Below w1.heap.size w1 w') := Lib.hid (HK.out.mono (by
    rintro e w' ⟨rfl, hb⟩
    refine ⟨?_, hb⟩
    rw [hab]
    simp))
  clear HK hs ht hS hT HX HY hf hab
  generalize a.sg.cells = sa at *
  generalize b.sg.cells = sb at *
  generalize a.cells.toArray = ca at *
  generalize b.cells.toArray = cb at *
  generalize (a.x.dig.map bv).toArray = dd at *
  generalize a.x.kind = k0 at *
  generalize a.x.epoch = k1 at *
  generalize a.x.height = k2 at *
  generalize a.x.round = k3 at *
  generalize a.x.frm = k5 at *
  go_enter Tryd.func22, Tryd.ntmps22
  go_upto_region 1 with fail
  change Code.wp _ _ _ _ ((w.alloc (.cells ca 45)).alloc (.cells cb 45))
  rw [← hw1]
  clear hw1
  go_wp2_with (go_at_call 41; (with_reducible refine (HK2.out).mono ?_); rintro e w2 ⟨rfl, hb⟩; have HB2 := Lib.hid hb; clear hb)
  go_ret
  exact ⟨rfl, HF.out.trans (HB2.out.mono HF.out.size)⟩
end Go.Proofs.YtejnfgcnifcpaaaDoor
