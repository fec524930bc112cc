/-
  What the laws of state begin with: four members, two requests.
-/
import Derived.Test.YtbgbidgggjkmmaaGreatDoorNE
import Derived.Test.YtbgbidgggjkmmaaGreatDoorCC
namespace Go.Proofs.YtbgbidgggjkmmaaGreatDoor
open Go.RowKit Go.Sort

attribute [local go_sem ↓] ldMem_def stMem_def eqMem_def bdMem_def bsMem_def apAll_def ldCfg_def stCfg_def

def FourIs10 (w : World) (e : Ending) (w' : World) : Prop := ∃ A, e = .returned (.agg (cfgV 0 A 4 4)) ∧ Mems w' w'.heap.size A fourM ∧ Below w.heap.size w w'
set_option maxRecDepth 100000 in
theorem four10_any (w : World) : Calls Tryz.prog 18 #[] w (FourIs10 w) := by
  obtain ⟨w1, hw1⟩ : ∃ w1, w1 = w.alloc (.cells (cfgV 0 none 0 0) 26) := ⟨_, rfl⟩
  have HF : Hid (Below w.heap.size w w1) := by
    rw [hw1]
    exact (Below.refl _ _).alloc (Nat.le_refl _) _
  have HX : Hid (Box w1 w.heap.size 26 (cfgV 0 none 0 0)) := by
    rw [hw1]
    exact Box.made _ _ _
  have b1 := bd_id 1
  have b2 := bd_id 2
  have b3 := bd_id 3
  have b4 := bd_id 4
  have hbs : (bsMem 4 #[(0, .agg (memL 1 z32 0).toArray), (1, .agg (memL 2 z32 0).toArray), (2, .agg (memL 3 z32 0).toArray), (3, .agg (memL 4 z32 0).toArray)]).run Tryz.prog w1 = .ok (.slice (some ⟨w1.heap.size, 0, none⟩) 4 4) (w1.alloc (.cells (flatM fourM).toArray 74)) := build_mems fourM (by decide) (by decide) w1
  obtain ⟨w2, hw2⟩ : ∃ w2, w2 = w1.alloc (.cells (flatM fourM).toArray 74) := ⟨_, rfl⟩
  rw [← hw2] at hbs
  have ho := own_mems w1 (Nat.le_refl _) fourM (by simp [maxLen, fourM])
  rw [← hw2] at ho
  have HF2 : Hid (Below w1.heap.size w1 w2) := by
    rw [hw2]
    exact (Below.refl _ _).alloc (Nat.le_refl _) _
  obtain ⟨w3, hst, hb3, hg3⟩ := (HX.out.below HF2.out HX.out.lt).st_cfg rfl 0 (some ⟨w1.heap.size, 0, none⟩) 4 4
  have HB3 := Lib.hid hb3
  have hbl := HF.out.trans (HF2.out.mono HF.out.size)
  have HG3 : Hid (Below w.heap.size w w3) := Lib.hid (hbl.trans (below_only hg3 (Nat.le_refl _) hbl.size))
  have HM : Hid (Mems w3 w3.heap.size (some ⟨w1.heap.size, 0, none⟩) fourM) := Lib.hid (by
    have h3 : OwnM w3 w1.heap.size (.slice (some ⟨w1.heap.size, 0, none⟩) fourM.length fourM.length) fourM := World.ownsRow.kept ho hg3 (.inr fun e => by
      have h1 := ho.lt _ e
      have h2 := HX.out.lt
      omega)
    exact h3.mems)
  generalize (memL 1 z32 0).toArray = v1 at *
  generalize (memL 2 z32 0).toArray = v2 at *
  generalize (memL 3 z32 0).toArray = v3 at *
  generalize (memL 4 z32 0).toArray = v4 at *
  clear hw2 ho hb3 hg3 hbl HX HF HF2
  go_enter Tryz.func18, Tryz.ntmps18
  go_upto_region 1 with fail
  change Code.wp _ _ _ _ (w.alloc (.cells (cfgV 0 none 0 0) 26))
  rw [← hw1]
  clear hw1
  go_wp2
  exact ret_cfg rfl rfl rfl HB3.out ⟨_, rfl, HM.out, HG3.out⟩


def qA : ReqX := ⟨1, 1, 2, ⟨#[97]⟩, ⟨#[49]⟩, ⟨#[]⟩, 0, 0, 0, zeros, 0, zeros_len⟩
def qB : ReqX := ⟨2, 1, 4, ⟨#[97]⟩, ⟨#[50]⟩, ⟨#[48]⟩, 0, 0, 0, zeros, 0, zeros_len⟩
noncomputable def bdOp10 (parts : Array (Nat × Value)) : Sem Value := Instr.build 54 parts
set_option maxRecDepth 100000 in
theorem bdOp10_def (parts : Array (Nat × Value)) : Instr.build 54 parts = bdOp10 parts := rfl
set_option maxRecDepth 100000 in
theorem bd_opA (w : World) : (bdOp10 #[(0, .int .i64 2), (1, .string ⟨#[97]⟩), (2, .string ⟨#[49]⟩)]).run Tryz.prog w = .ok (.agg (opL qA).toArray) w := run_build w _ _ _ (by kernel_rfl)
set_option maxRecDepth 100000 in
theorem bd_opB (w : World) : (bdOp10 #[(0, .int .i64 4), (1, .string ⟨#[97]⟩), (3, .string ⟨#[48]⟩), (2, .string ⟨#[50]⟩)]).run Tryz.prog w = .ok (.agg (opL qB).toArray) w := run_build w _ _ _ (by kernel_rfl)
set_option maxRecDepth 100000 in
theorem bd_qA (w : World) : (bdReq #[(0, .int .i64 1), (1, .int .i64 1), (2, .agg (opL qA).toArray)]).run Tryz.prog w = .ok (.agg qA.cells.toArray) w := run_build w _ _ _ (by kernel_rfl)
set_option maxRecDepth 100000 in
theorem bd_qB (w : World) : (bdReq #[(0, .int .i64 2), (1, .int .i64 1), (2, .agg (opL qB).toArray)]).run Tryz.prog w = .ok (.agg qB.cells.toArray) w := run_build w _ _ _ (by kernel_rfl)

attribute [local go_sem ↓] ldReq_def stReq_def bdReq_def bdOp10_def ldSt_def stSt_def ldRp_def stRp_def bsT_def

/-- What a request of kinds 1 to 5 makes. -/
def exeF (s : StX) (q : ReqX) : StX × RepX :=
  if reqGood q = true then
    match rLook q.client s.rs with
    | some r => if r.num = q.num then (s, r) else if q.num < r.num then (s, ⟨q.client, q.num, 8, []⟩) else
        ({ (opF s q).1 with rs := rPut ⟨q.client, q.num, (opF s q).2.1, (opF s q).2.2⟩ (opF s q).1.rs }, ⟨q.client, q.num, (opF s q).2.1, (opF s q).2.2⟩)
    | none => ({ (opF s q).1 with rs := rPut ⟨q.client, q.num, (opF s q).2.1, (opF s q).2.2⟩ (opF s q).1.rs }, ⟨q.client, q.num, (opF s q).2.1, (opF s q).2.2⟩)
  else (s, ⟨q.client, q.num, 1, []⟩)
set_option maxRecDepth 100000 in
theorem FreshIs.det {s s' : StX} {q : ReqX} {a : RepX} (h : FreshIs s q s' a) (h6 : q.kind ≠ 6) (h7 : q.kind ≠ 7) : (s', a) = ({ (opF s q).1 with rs := rPut ⟨q.client, q.num, (opF s q).2.1, (opF s q).2.2⟩ (opF s q).1.rs }, ⟨q.client, q.num, (opF s q).2.1, (opF s q).2.2⟩) := by
  obtain ⟨s1, c, vs, ho, rfl, rfl⟩ := h
  unfold OpIs at ho
  rw [if_neg h6, if_neg h7] at ho
  obtain ⟨rfl, rfl, rfl⟩ := ho
  rfl
set_option maxRecDepth 100000 in
theorem ExeIs.det {s s' : StX} {q : ReqX} {a : RepX} (h : ExeIs s q s' a) (hk : reqGood q = true → q.kind ≤ 5) : (s', a) = exeF s q := by
  unfold ExeIs at h
  unfold exeF
  split at h
  · rename_i hg
    have hk := hk hg
    rw [if_pos hg]
    cases hl : rLook q.client s.rs with
    | none =>
      rw [hl] at h
      exact h.det (by omega) (by omega)
    | some r =>
      rw [hl] at h
      simp only at h ⊢
      split at h
      · rename_i h1
        rw [if_pos h1, h.1, h.2]
      · rename_i h1
        rw [if_neg h1]
        split at h
        · rename_i h2
          rw [if_pos h2, h.1, h.2]
        · rename_i h2
          rw [if_neg h2]
          exact h.det (by omega) (by omega)
  · rename_i hg
    rw [if_neg hg, h.1, h.2]
def s10 : StX := ⟨[], [], 0, fourM⟩
set_option maxRecDepth 100000 in
theorem alive_plain {s' : StX} {rl : List RepX} (h : AllIs s10 [qA, qB] s' rl) : ∃ a b, rl = [a, b] ∧ a.code = 0 ∧ b.code = 9 ∧ getV ⟨#[97]⟩ s'.ps = ⟨#[49]⟩ ∧ getB ⟨#[97]⟩ s'.ps = true ∧ s'.ps.length ≤ 10 ∧ PS s'.ps := by
  have hr := h.ris ⟨List.Pairwise.nil, List.Pairwise.nil⟩
  obtain ⟨s1, a, r1, h1, rfl, s2, b, r2, h2, rfl, rfl, rfl⟩ := h
  have e1 := h1.det (fun _ => by decide)
  have e2 := h2.det (fun _ => by decide)
  have f1 : exeF s10 qA = (⟨[⟨⟨#[97]⟩, ⟨#[49]⟩⟩], [⟨1, 1, 0, []⟩], 0, fourM⟩, ⟨1, 1, 0, []⟩) := by kernel_rfl
  rw [f1] at e1
  injection e1 with e3 e4
  subst e3
  subst e4
  have f2 : exeF ⟨[⟨⟨#[97]⟩, ⟨#[49]⟩⟩], [⟨1, 1, 0, []⟩], 0, fourM⟩ qB = (⟨[⟨⟨#[97]⟩, ⟨#[49]⟩⟩], [⟨1, 1, 0, []⟩, ⟨2, 1, 9, [⟨#[49]⟩]⟩], 0, fourM⟩, ⟨2, 1, 9, [⟨#[49]⟩]⟩) := by kernel_rfl
  rw [f2] at e2
  injection e2 with e3 e4
  subst e3
  subst e4
  exact ⟨_, _, rfl, rfl, rfl, by kernel_rfl, by kernel_rfl, by decide, hr.ps⟩

def AliveIs (w : World) (e : Ending) (w' : World) : Prop :=
  ∃ (s' : StM) (a b : RepM) (A : Option Addr) (c : Nat), e = .returned (.tuple #[.agg s'.cells, .slice A 2 c]) ∧ a.x.code = 0 ∧ b.x.code = 9 ∧ getV ⟨#[97]⟩ s'.ps = ⟨#[49]⟩ ∧ getB ⟨#[97]⟩ s'.ps = true ∧ s'.ps.length ≤ 10 ∧ PS s'.ps ∧ s'.See w' w'.heap.size ∧ RK.See w' w'.heap.size A [a, b] ∧ Below w.heap.size w w'
set_option maxRecDepth 100000 in
theorem alive_all (A : Option Addr) (c : Nat) (B : Option Addr) (d : Nat) (w : World) (hS : (newM 0 fourM A c).See w w.heap.size) (hQ : QK.See w w.heap.size B [qA, qB]) : Calls Tryz.prog 17 #[.agg (newM 0 fourM A c).cells, .slice B 2 d] w (AliveIs w) := by
  refine (sall_any (newM 0 fourM A c) ⟨Nat.zero_le _, Nat.zero_le _, fun r hr => (by cases hr), (show 4 ≤ 20 by decide), by
    refine ⟨⟨(by decide : (-9223372036854775808 : Int) ≤ 0), (by decide : (0 : Int) ≤ 9223372036854775807)⟩, fun m hm => ?_⟩
    have hm' : m ∈ fourM := hm
    simp only [fourM, List.mem_cons, List.not_mem_nil, or_false] at hm'
    rcases hm' with rfl | rfl | rfl | rfl <;> exact ⟨by decide, by decide⟩⟩ ⟨List.Pairwise.nil, List.Pairwise.nil⟩ [qA, qB] B d (by decide) (fun _ => True) w (fun _ _ => trivial) (fun x hx => hop_five x (fun _ => ?_)) hS hQ).mono ?_
  · simp only [List.mem_cons, List.not_mem_nil, or_false] at hx
    rcases hx with rfl | rfl <;> decide
  · rintro e w' ⟨s', rl, A', c', rfl, hl, ha, ho, hr, hv, hb⟩
    obtain ⟨a, b, rfl⟩ : ∃ a b, rl = [a, b] := by
      match rl, hl with
      | [a, b], _ => exact ⟨a, b, rfl⟩
    obtain ⟨a', b', e1, e2, e3, e4, e5, e6, e7⟩ := alive_plain ha
    injection e1 with e8 e9
    injection e9 with e9
    exact ⟨s', a, b, A', c', rfl, by rw [e8]; exact e2, by rw [e9]; exact e3, e4, e5, e6, e7, ho.see, hr.see, hb⟩
noncomputable def qqV : Array Value := (QK.flat [qA, qB]).toArray
set_option maxRecDepth 100000 in
theorem bs_two (w : World) : (bsT 57 2 #[(0, .agg qA.cells.toArray), (1, .agg qB.cells.toArray)]).run Tryz.prog w = .ok (.slice (some ⟨w.heap.size, 0, none⟩) 2 2) (w.alloc (.cells qqV 56)) :=
  QK.build [qA, qB] [.agg qA.cells.toArray, .agg qB.cells.toArray] (by decide) (by decide) rfl w
set_option maxRecDepth 100000 in
theorem see_two (w w' : World) (hb : Below (w.alloc (.cells qqV 56)).heap.size (w.alloc (.cells qqV 56)) w') : QK.See w' w'.heap.size (some ⟨w.heap.size, 0, none⟩) [qA, qB] := by
  refine EK.See.far ?_ hb
  have hX : Box (w.alloc (.cells qqV 56)) w.heap.size QK.e qqV := Box.made _ _ _
  have h := Sees.of_box hX hX.lt
  unfold qqV at h ⊢
  rw [List.toList_toArray] at h
  exact h.more (by simp)
set_option maxRecDepth 100000 in
theorem new_four (A : Option Addr) (w : World) (hS : Mems w w.heap.size A fourM) : Calls Tryz.prog 11 #[.agg (cfgV 0 A 4 4)] w fun e w' => ∃ A' c', e = .returned (.agg (newM 0 fourM A' c').cells) ∧ (newM 0 fourM A' c').Own w' w.heap.size ∧ Below w.heap.size w w' := snew_any 0 fourM A 4 (by decide) w hS

set_option maxRecDepth 100000 in
theorem alive10_any (w : World) : Calls Tryz.prog 5 #[] w fun e w' => e = .returned (.bool true) ∧ Below w.heap.size w w' := by
  have b1 := bd_opA
  have b2 := bd_opB
  have b3 := bd_qA
  have b4 := bd_qB
  have b5 := bs_two
  have HB : Hid (Below w.heap.size w w) := Lib.hid (Below.refl _ _)
  go_enter Tryz.func5, Tryz.ntmps5
  go_upto_region 2 with (first
    | (go_at_call 18; (with_reducible refine (four10_any _).mono ?_); rintro e w2 ⟨A2, rfl, hm2, hb2⟩; have HM := Lib.hid hm2; have HB := Lib.hid (HB.out.trans (hb2.mono HB.out.size)); clear hm2 hb2)
    | (go_at_call 11; (with_reducible refine (new_four A2 w2 HM.out).mono ?_); rintro e w3 ⟨A3, c3, rfl, ho3, hb3⟩; have HB := Lib.hid (HB.out.trans (hb3.mono HB.out.size)); have HN := Lib.hid ho3.see; clear ho3 hb3)
    | (go_at_call 17; have hal : Below w3.heap.size w3 (w3.alloc (.cells qqV 56)) := (Below.refl _ _).alloc (Nat.le_refl _) _; (with_reducible refine (alive_all A3 c3 _ 2 _ (HN.out.far hal) (see_two w3 _ (Below.refl _ _))).mono ?_); rintro e w4 ⟨s', a, b, A4, c4, rfl, h1, h2, h3, h4, h5, h6, h7, h8, hb4⟩; have hb5 := hal.trans (hb4.mono hal.size); have HB := Lib.hid (HB.out.trans (hb5.mono HB.out.size)); obtain ⟨w5, hst, hb6, hb7, _⟩ := laid_st w4 (stV none 0 0 none 0 0 0 none 0 0) rfl s'.pA s'.ps.length s'.pc s'.rA s'.rs.length s'.rc s'.ep s'.mA s'.ms.length s'.mc; have HSB := Lib.hid hb6; have HB := Lib.hid (HB.out.trans (hb7.mono HB.out.size)); have HSS := Lib.hid (h7.far hb7); have HRS := Lib.hid (EK.See.far h8 hb7); have HE := Lib.hid (And.intro h1 (And.intro h2 (And.intro h3 (And.intro h4 (And.intro h5 h6))))); clear h1 h2 h3 h4 h5 h6 h7 h8 hal hb4 hb5 hb6 hb7))
  clear hst b1 b2 b3 b4 b5 HM HN
  generalize w4.heap.size = g4 at *
  have ls := HSB.out.l_st
  have HC : Hid (∀ w', Below w5.heap.size w5 w' → ∃ g o, A4 = some ⟨g, o, none⟩ ∧ w'.cell? ⟨g, o + 0 * 4 + 2, none⟩ = some (.int .i64 0) ∧ w'.cell? ⟨g, o + 1 * 4 + 2, none⟩ = some (.int .i64 9)) := Lib.hid (fun w' hb => by
    obtain ⟨g, o, hA, hg, hr⟩ := EK.See.range (EK.See.far HRS.out hb) (i := 0) (by simp)
    refine ⟨g, o, hA, ?_, ?_⟩
    · have := (hr 0 (by simp)) 2 _ rfl
      exact Eq.trans this (by show some (Value.int .i64 a.x.code) = _; rw [HE.out.1])
    · have := (hr 1 (by simp)) 2 _ rfl
      exact Eq.trans this (by show some (Value.int .i64 b.x.code) = _; rw [HE.out.2.1]))
  go_upto_region 3 with (go_at_call 7; (with_reducible refine (get_any s' (by have := HE.out.2.2.2.2.1; omega) HE.out.2.2.2.2.2 ⟨#[97]⟩ w5 HSS.out).mono ?_); rintro e w6 ⟨rfl, hb6⟩; rw [HE.out.2.2.1, HE.out.2.2.2.1]; have HB := Lib.hid (HB.out.trans (hb6.mono HB.out.size)); obtain ⟨g, o, rfl, c0, c1⟩ := HC.out _ hb6; clear hb6)
  clear HC HRS HSS HSB ls
  go_wp2
  go_ret
  exact ⟨rfl, HB.out⟩
end Go.Proofs.YtbgbidgggjkmmaaGreatDoor
