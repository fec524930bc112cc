/-
  What the laws of config begin with: four members, one of which goes.
-/
import Derived.Test.YtloaidahlagmiaaCfApply
namespace Go.Proofs.Ytloaidahlagmiaa
open Go.RowKit Go.Sort

def idM (i : Int) : MemX := ⟨i, z32, 0, rfl⟩
def fourM : List MemX := [idM 1, idM 2, idM 3, idM 4]
noncomputable def bdChg (parts : Array (Nat × Value)) : Sem Value := Instr.build 43 parts
set_option maxRecDepth 100000 in
theorem bdChg_def (parts : Array (Nat × Value)) : Instr.build 43 parts = bdChg parts := rfl

set_option maxRecDepth 100000 in
theorem built_chg2 (k i : Int) : Try.prog.built 43 [(0, .int .i64 k), (1, .int .i64 i)] = some (chgL k i 0 z32 0).toArray := by kernel_rfl
set_option maxRecDepth 100000 in
theorem built_chg3 (k i : Int) {r : List UInt8} (hr : r.length = 32) (h : Int) : Try.prog.built 43 [(0, .int .i64 k), (1, .int .i64 i), (3, .agg (keyV r h))] = some (chgL k i 0 r h).toArray := by
  have e : Try.prog.built 43 [(0, .int .i64 k), (1, .int .i64 i), (3, .agg (keyV r h))] = Instr.fill (#[(0, 1), (1, 1), (2, 1), (3, 33)][·]?) ([Value.int .i64 k, .int .i64 i, .int .i64 0] ++ (keyL (List.replicate 32 0) 0 ++ [])).toArray [(3, .agg (keyV r h))] := by kernel_rfl
  rw [e, fill_step (off := 3) (size := 33) (vs := keyL r h) rfl rfl rfl rfl (keyL_len hr h)]
  unfold chgL Instr.fill
  simp
set_option maxRecDepth 100000 in
theorem built_chg4 (k i n : Int) {r : List UInt8} (hr : r.length = 32) (h : Int) : Try.prog.built 43 [(0, .int .i64 k), (1, .int .i64 i), (2, .int .i64 n), (3, .agg (keyV r h))] = some (chgL k i n r h).toArray := by
  have e : Try.prog.built 43 [(0, .int .i64 k), (1, .int .i64 i), (2, .int .i64 n), (3, .agg (keyV r h))] = Instr.fill (#[(0, 1), (1, 1), (2, 1), (3, 33)][·]?) ([Value.int .i64 k, .int .i64 i, .int .i64 n] ++ (keyL (List.replicate 32 0) 0 ++ [])).toArray [(3, .agg (keyV r h))] := by kernel_rfl
  rw [e, fill_step (off := 3) (size := 33) (vs := keyL r h) rfl rfl rfl rfl (keyL_len hr h)]
  unfold chgL Instr.fill
  simp
set_option maxRecDepth 100000 in
theorem bd_chg2 (k i : Int) (w : World) : (bdChg #[(0, .int .i64 k), (1, .int .i64 i)]).run Try.prog w = .ok (chgV k i 0 z32 0) w := run_build w _ _ _ (built_chg2 k i)
set_option maxRecDepth 100000 in
theorem bd_chg3 (k i : Int) {r : List UInt8} (hr : r.length = 32) (h : Int) (w : World) : (bdChg #[(0, .int .i64 k), (1, .int .i64 i), (3, .agg (keyV r h))]).run Try.prog w = .ok (chgV k i 0 r h) w := run_build w _ _ _ (built_chg3 k i hr h)
set_option maxRecDepth 100000 in
theorem bd_chg4 (k i n : Int) {r : List UInt8} (hr : r.length = 32) (h : Int) (w : World) : (bdChg #[(0, .int .i64 k), (1, .int .i64 i), (2, .int .i64 n), (3, .agg (keyV r h))]).run Try.prog w = .ok (chgV k i n r h) w := run_build w _ _ _ (built_chg4 k i n hr h)

attribute [local go_sem ↓] ldMem_def stMem_def eqMem_def bdMem_def bsMem_def clMem_def apAll_def ldChg_def ldKy_def ldCfg_def stCfg_def bdChg_def

def FourIs (w : World) (e : Ending) (w' : World) : Prop := ∃ A, e = .returned (.agg (cfgV 0 A 4 4)) ∧ Mems w' w'.heap.size A fourM ∧ Below w.heap.size w w'
set_option maxRecDepth 100000 in
theorem four_any (w : World) : Calls Try.prog 21 #[] w (FourIs w) := by
  obtain ⟨w1, hw1⟩ : ∃ w1, w1 = w.alloc (.cells (cfgV 0 none 0 0) 24) := ⟨_, rfl⟩
  have HF : Hid (Below w.heap.size w w1) := by
    rw [hw1]
    exact (Below.refl _ _).alloc (Nat.le_refl _) _
  have HX : Hid (Box w1 w.heap.size 24 (cfgV 0 none 0 0)) := by
    rw [hw1]
    exact Box.made _ _ _
  have b1 := bd_id 1
  have b2 := bd_id 2
  have b3 := bd_id 3
  have b4 := bd_id 4
  have hbs : (bsMem 4 #[(0, .agg (memL 1 z32 0).toArray), (1, .agg (memL 2 z32 0).toArray), (2, .agg (memL 3 z32 0).toArray), (3, .agg (memL 4 z32 0).toArray)]).run Try.prog w1 = .ok (.slice (some ⟨w1.heap.size, 0, none⟩) 4 4) (w1.alloc (.cells (flatM fourM).toArray 31)) := build_mems fourM (by decide) (by decide) w1
  obtain ⟨w2, hw2⟩ : ∃ w2, w2 = w1.alloc (.cells (flatM fourM).toArray 31) := ⟨_, rfl⟩
  rw [← hw2] at hbs
  have ho := own_mems w1 (Nat.le_refl _) fourM (by simp [maxLen, fourM])
  rw [← hw2] at ho
  have HF2 : Hid (Below w1.heap.size w1 w2) := by
    rw [hw2]
    exact (Below.refl _ _).alloc (Nat.le_refl _) _
  obtain ⟨w3, hst, hb3, hg3⟩ := (HX.out.below HF2.out HX.out.lt).st_cfg rfl 0 (some ⟨w1.heap.size, 0, none⟩) 4 4
  have HB3 := Lib.hid hb3
  have hbl := HF.out.trans (HF2.out.mono HF.out.size)
  have HG3 : Hid (Below w.heap.size w w3) := Lib.hid (hbl.trans (below_only hg3 (Nat.le_refl _) hbl.size))
  have HM : Hid (Mems w3 w3.heap.size (some ⟨w1.heap.size, 0, none⟩) fourM) := Lib.hid (by
    have h3 : OwnM w3 w1.heap.size (.slice (some ⟨w1.heap.size, 0, none⟩) fourM.length fourM.length) fourM := World.ownsRow.kept ho hg3 (.inr fun e => by
      have h1 := ho.lt _ e
      have h2 := HX.out.lt
      omega)
    exact h3.mems)
  generalize (memL 1 z32 0).toArray = v1 at *
  generalize (memL 2 z32 0).toArray = v2 at *
  generalize (memL 3 z32 0).toArray = v3 at *
  generalize (memL 4 z32 0).toArray = v4 at *
  clear hw2 ho hb3 hg3 hbl HX HF HF2
  go_enter Try.func21, Try.ntmps21
  go_upto_region 1 with fail
  change Code.wp _ _ _ _ (w.alloc (.cells (cfgV 0 none 0 0) 24))
  rw [← hw1]
  clear hw1
  go_wp2
  exact ret_cfg rfl rfl rfl HB3.out ⟨_, rfl, HM.out, HG3.out⟩

set_option maxRecDepth 100000 in
theorem four_good (A : Option Addr) (w : World) (hS : Mems w w.heap.size A fourM) : Calls Try.prog 12 #[.agg (cfgV 0 A 4 4)] w fun e w' => e = .returned (.bool true) ∧ Below w.heap.size w w' := good_any8 fourM 0 A 4 (by simp [maxLen, fourM]) w hS
set_option maxRecDepth 100000 in
theorem four_quorum (A : Option Addr) (w : World) : Calls Try.prog 16 #[.agg (cfgV 0 A 4 4)] w fun e w' => e = .returned (.int .i64 3) ∧ Below w.heap.size w w' := quorum_any 0 A 4 4 (by decide) w
set_option maxRecDepth 100000 in
theorem four_weak (A : Option Addr) (w : World) : Calls Try.prog 18 #[.agg (cfgV 0 A 4 4)] w fun e w' => e = .returned (.int .i64 2) ∧ Below w.heap.size w w' := weak_any 0 A 4 4 (by decide) w
def GoneIs (w : World) (e : Ending) (w' : World) : Prop := ∃ A' c', e = .returned (.tuple #[.agg (cfgV 1 A' 3 c'), .int .i64 0]) ∧ Below w.heap.size w w'
set_option maxRecDepth 100000 in
theorem four_gone (A : Option Addr) (w : World) (hS : Mems w w.heap.size A fourM) : Calls Try.prog 19 #[.agg (cfgV 0 A 4 4), chgV 2 2 0 z32 0] w (GoneIs w) :=
  (apply_ok 0 fourM A 4 2 2 0 z32 0 rfl (by decide +kernel) w hS).mono fun e w' ⟨A', c', ys, he, hb, _, hf⟩ => by
    have hl : ys.length = 3 := by rw [hb.perm.length_eq]; rfl
    rw [hl] at he
    exact ⟨A', c', he, hf⟩

set_option maxRecDepth 100000 in
set_option maxHeartbeats 2000000 in
theorem alive_any8 (w : World) : Calls Try.prog 9 #[] w fun e w' => e = .returned (.bool true) ∧ Below w.heap.size w w' := by
  have b1 := bd_chg2 2 2
  have HB : Hid (Below w.heap.size w w) := Lib.hid (Below.refl _ _)
  go_enter Try.func9, Try.ntmps9
  go_upto_region 2 with (first
    | (go_at_call 21; (with_reducible refine (four_any _).mono ?_); rintro e w2 ⟨A2, rfl, hm2, hb2⟩; have HM := Lib.hid hm2; have HB := Lib.hid (HB.out.trans (hb2.mono HB.out.size)); clear hm2 hb2)
    | (go_at_call 19; (with_reducible refine (four_gone _ _ HM.out).mono ?_); rintro e w3 ⟨A3, c3, rfl, hb3⟩; obtain ⟨w4, hst, hb4, hg4⟩ := laid_cfg w3 1 A3 3 c3; have HC := Lib.hid hb4; have HB := Lib.hid ((HB.out.trans (hb3.mono HB.out.size)).trans (hg4.mono (HB.out.trans (hb3.mono HB.out.size)).size)); clear hb3 hb4 hg4))
  clear b1 hst
  generalize w3.heap.size = gc at *
  go_wp2_with (first
    | (go_at_call 21; (with_reducible refine (four_any _).mono ?_); rintro e w5 ⟨A5, rfl, hm5, hb5⟩; have HM := Lib.hid hm5; have HB := Lib.hid (HB.out.trans (hb5.mono HB.out.size)); have HC := Lib.hid (HC.out.below hb5 HC.out.lt); clear hm5 hb5)
    | (go_at_call 12; (with_reducible refine (four_good _ _ HM.out).mono ?_); rintro e w5 ⟨rfl, hb5⟩; have HB := Lib.hid (HB.out.trans (hb5.mono HB.out.size)); have HC := Lib.hid (HC.out.below hb5 HC.out.lt); clear hb5)
    | (go_at_call 16; (with_reducible refine (four_quorum _ _).mono ?_); rintro e w5 ⟨rfl, hb5⟩; have HB := Lib.hid (HB.out.trans (hb5.mono HB.out.size)); have HC := Lib.hid (HC.out.below hb5 HC.out.lt); clear hb5)
    | (go_at_call 18; (with_reducible refine (four_weak _ _).mono ?_); rintro e w5 ⟨rfl, hb5⟩; have HB := Lib.hid (HB.out.trans (hb5.mono HB.out.size)); have HC := Lib.hid (HC.out.below hb5 HC.out.lt); have c0 := HC.out.cell 0; have c1 := HC.out.cell 1; clear hb5))
  go_ret
  exact ⟨rfl, HB.out⟩
end Go.Proofs.Ytloaidahlagmiaa
