/-
  Whether a configuration can be: config.Good, and the document's own.
-/
import Derived.Test.YtloaidahlagmiaaCfFind
namespace Go.Proofs.Ytloaidahlagmiaa
open Go.RowKit Go.Sort

def riseB : Int → List MemX → Bool
  | _, [] => true
  | a, m :: r => decide (a < m.id) && (fitsB m.id m.high && riseB m.id r)
def goodB (ep : Int) (ms : List MemX) : Bool := (inB ep 0 1073741824 && inB (ms.length : Int) 1 10) && riseB 0 ms
set_option maxRecDepth 100000 in
theorem rise_step {ms : List MemX} {k : Nat} (h : k < ms.length) (a : Int) : riseB a (ms.drop k) = (decide (a < (ms[k]'h).id) && (fitsB (ms[k]'h).id (ms[k]'h).high && riseB (ms[k]'h).id (ms.drop (k + 1)))) := by
  rw [List.drop_eq_getElem_cons h]
  rfl

attribute [local go_sem ↓] ldMem_def stMem_def eqMem_def bdMem_def

set_option maxRecDepth 100000 in
set_option maxHeartbeats 2000000 in
theorem good_any8 (ms : List MemX) (ep : Int) (A : Option Addr) (c : Nat) (hn : ms.length ≤ maxLen) (w : World) (hS : Mems w w.heap.size A ms) :
    Calls Try.prog 12 #[.agg (cfgV ep A ms.length c)] w fun e w' => e = .returned (.bool (goodB ep ms)) ∧ Below w.heap.size w w' := by
  have HB : Hid (Box (w.alloc (.cells (cfgV ep A ms.length c) 24)) w.heap.size 24 (cfgV ep A ms.length c)) := Box.made _ _ _
  have HF0 : Hid (Below w.heap.size w (w.alloc (.cells (cfgV ep A ms.length c) 24))) := Lib.hid ((Below.refl _ _).alloc (Nat.le_refl _) _)
  have c0 : (w.alloc (.cells (cfgV ep A ms.length c) 24)).cell? ⟨w.heap.size, 0, none⟩ = some (.int .i64 ep) := HB.out.cell 0
  have c1 : (w.alloc (.cells (cfgV ep A ms.length c) 24)).cell? ⟨w.heap.size, 1, none⟩ = some (.slice A ms.length c) := HB.out.cell 1
  have HS := Lib.hid hS
  have HN : Hid (ms.length ≤ 9223372036854775807) := Lib.hid (Nat.le_trans hn (by simp [maxLen]))
  have HW := Lib.hid (cwithin_any ep 0 1073741824)
  have HV := Lib.hid (cwithin_any (ms.length : Int) 1 10)
  have HG : Hid (goodB ep ms = ((inB ep 0 1073741824 && inB (ms.length : Int) 1 10) && riseB 0 ms)) := rfl
  clear hS hn HB
  generalize inB ep 0 1073741824 = p at *
  generalize inB (ms.length : Int) 1 10 = q at *
  generalize goodB ep ms = res at *
  cases p
  · have HR : Hid (res = false) := Lib.hid (by rw [HG.out]; rfl)
    go_enter Try.func12, Try.ntmps12
    go_wp2_with (go_at_call 24; (with_reducible refine (HW.out _).mono ?_); rintro e w' ⟨rfl, rfl⟩)
    go_ret
    exact ⟨by rw [HR.out]; rfl, HF0.out⟩
  cases q
  · have HR : Hid (res = false) := Lib.hid (by rw [HG.out]; rfl)
    go_enter Try.func12, Try.ntmps12
    go_wp2_with (first
      | (go_at_call 24; (with_reducible refine (HW.out _).mono ?_); rintro e w' ⟨rfl, rfl⟩)
      | (go_at_call 24; (with_reducible refine (HV.out _).mono ?_); rintro e w' ⟨rfl, rfl⟩))
    go_ret
    exact ⟨by rw [HR.out]; rfl, HF0.out⟩
  have HR : Hid (res = riseB 0 ms) := Lib.hid (by rw [HG.out]; rfl)
  clear HG
  go_enter Try.func12, Try.ntmps12
  go_wp2_with (first
    | (go_at_call 24; (with_reducible refine (HW.out _).mono ?_); rintro e w' ⟨rfl, rfl⟩)
    | (go_at_call 24; (with_reducible refine (HV.out _).mono ?_); rintro e w' ⟨rfl, rfl⟩))
  clear HW HV c0 c1
  go_loopw [3, 20] (fun ah n wr => ∃ (k : Nat) (a : Int), k ≤ ms.length ∧ n = .int .i64 (k : Int) ∧ ah = .int .i64 a ∧ Hid (Below w.heap.size w wr) ∧ Hid (riseB 0 ms = riseB a (ms.drop k))) (fun _ n _ => ms.length - (intOf n).toNat)
  case atStart => exact ⟨0, 0, Nat.zero_le _, rfl, rfl, HF0, Lib.hid rfl⟩
  case round =>
    obtain ⟨k, a, hk, rfl, rfl, HF, HI⟩ := hrel
    by_cases hlt : k < ms.length
    · obtain ⟨g, oo, rfl, _, hr⟩ := (HS.out.far HF.out).range hlt
      have lk := range_mem (hr k hlt)
      obtain ⟨w3, hst0, hb3, hg3⟩ := laid_mem wr (ms[k]'hlt)
      have HF3 : Hid (Below w.heap.size w w3) := Lib.hid (HF.out.trans (hg3.mono HF.out.size))
      have c0 : w3.cell? ⟨wr.heap.size, 0, none⟩ = some (.int .i64 (ms[k]'hlt).id) := hb3.cell 0
      have hst := hst0
      unfold zmemV at hst
      have l3 := hb3.ld_mem
      have HX := Lib.hid (fits_any (ms[k]'hlt) w3)
      have HLE := Lib.hid hlt
      have wk : IntKind.i64.wrap ((k : Int) + 1) = ((k + 1 : Nat) : Int) := by
        rw [IntKind.wrap_i64]
        have := HN.out
        omega
      have i1 : (k : Int) < (ms.length : Int) := by omega
      have HQ := Lib.hid (HI.out.trans (rise_step hlt a))
      generalize ms[k]'hlt = x at *
      have HGM : Hid (wr.heap.size < w3.heap.size) := Lib.hid hb3.lt
      clear hr hst0 hb3 hg3 HI
      by_cases h1 : a < x.id
      · have h2 : ¬ x.id ≤ a := by omega
        rw [decide_eq_true h1, Bool.true_and] at HQ
        generalize fitsB x.id x.high = f at *
        cases f
        · have HRR : Hid (res = false) := Lib.hid (by rw [HR.out, HQ.out]; rfl)
          clear HQ
          go_wp2_with (go_at_call 25; (with_reducible refine (HX.out).mono ?_); rintro e w4 ⟨rfl, hb4⟩; have HB4 := Lib.hid hb4; clear hb4)
          go_ret
          exact ⟨by rw [HRR.out]; rfl, HF3.out.trans (HB4.out.mono HF3.out.size)⟩
        · have HQ2 : Hid (riseB 0 ms = riseB x.id (ms.drop (k + 1))) := Lib.hid (by rw [HQ.out]; rfl)
          clear HQ
          generalize hxi : x.id = xi at *
          have HXI := Lib.hid hxi
          clear hxi
          go_upto_region 9 with (go_at_call 25; (with_reducible refine (HX.out).mono ?_); rintro e w4 ⟨rfl, hb4⟩; have HB4 := Lib.hid hb4; clear hb4)
          have c4 : w4.cell? ⟨wr.heap.size, 0, none⟩ = some (.int .i64 xi) := (HB4.out.cell (p := ⟨wr.heap.size, 0, none⟩) HGM.out).trans c0
          go_wp2
          go_roundw
          case rel => exact ⟨k + 1, xi, HLE.out, by go_num, rfl, Lib.hid (HF3.out.trans (HB4.out.mono HF3.out.size)), HQ2⟩
          case measure => have := HLE.out; simp [intOf]; omega
      · have h2 : x.id ≤ a := by omega
        have HRR : Hid (res = false) := Lib.hid (by rw [HR.out, HQ.out, decide_eq_false h1]; rfl)
        clear HQ
        go_wp2
        go_ret
        exact ⟨by rw [HRR.out]; rfl, HF3.out⟩
    · have HRR : Hid (res = true) := Lib.hid (by rw [HR.out, HI.out, List.drop_eq_nil_of_le (by omega)]; rfl)
      have i1 : ¬ (k : Int) < (ms.length : Int) := by omega
      go_wp2
      go_ret
      exact ⟨by rw [HRR.out]; rfl, HF.out⟩

set_option maxRecDepth 100000 in
set_option maxHeartbeats 2000000 in
theorem rgood_any8 (ms : List MemX) (ep : Int) (A : Option Addr) (c : Nat) (hn : ms.length ≤ maxLen) (w : World) (hS : Mems w w.heap.size A ms) :
    Calls Try.prog 13 #[.agg (cfgV ep A ms.length c)] w fun e w' => e = .returned (.bool (goodB ep ms)) ∧ Below w.heap.size w w' := by
  have HB : Hid (Box (w.alloc (.cells (cfgV ep A ms.length c) 24)) w.heap.size 24 (cfgV ep A ms.length c)) := Box.made _ _ _
  have HF0 : Hid (Below w.heap.size w (w.alloc (.cells (cfgV ep A ms.length c) 24))) := Lib.hid ((Below.refl _ _).alloc (Nat.le_refl _) _)
  have c0 : (w.alloc (.cells (cfgV ep A ms.length c) 24)).cell? ⟨w.heap.size, 0, none⟩ = some (.int .i64 ep) := HB.out.cell 0
  have c1 : (w.alloc (.cells (cfgV ep A ms.length c) 24)).cell? ⟨w.heap.size, 1, none⟩ = some (.slice A ms.length c) := HB.out.cell 1
  have HBL : Hid (w.heap.size < (w.alloc (.cells (cfgV ep A ms.length c) 24)).heap.size) := Lib.hid HB.out.lt
  have HC1 := Lib.hid c1
  have HS := Lib.hid hS
  have HN : Hid (ms.length ≤ 9223372036854775807) := Lib.hid (Nat.le_trans hn (by simp [maxLen]))
  have HG : Hid (goodB ep ms = (((decide (0 ≤ ep) && decide (ep ≤ 1073741824)) && (decide (1 ≤ (ms.length : Int)) && decide ((ms.length : Int) ≤ 10))) && riseB 0 ms)) := rfl
  clear hS hn HB
  generalize goodB ep ms = res at *
  by_cases g1 : 0 ≤ ep
  case neg =>
    have HR : Hid (res = false) := Lib.hid (by rw [HG.out, decide_eq_false g1]; rfl)
    have g1' : ep < 0 := by omega
    go_enter Try.func13, Try.ntmps13
    go_wp2
    go_ret
    exact ⟨by rw [HR.out]; rfl, HF0.out⟩
  by_cases g2 : ep ≤ 1073741824
  case neg =>
    have HR : Hid (res = false) := Lib.hid (by rw [HG.out, decide_eq_false g2]; simp)
    have g1' : ¬ ep < 0 := by omega
    have g2' : 1073741824 < ep := by omega
    go_enter Try.func13, Try.ntmps13
    go_wp2
    go_ret
    exact ⟨by rw [HR.out]; rfl, HF0.out⟩
  by_cases g3 : 1 ≤ (ms.length : Int)
  case neg =>
    have HR : Hid (res = false) := Lib.hid (by rw [HG.out, decide_eq_false g3]; simp)
    have g1' : ¬ ep < 0 := by omega
    have g2' : ¬ 1073741824 < ep := by omega
    have g3' : (ms.length : Int) < 1 := by omega
    go_enter Try.func13, Try.ntmps13
    go_wp2
    go_ret
    exact ⟨by rw [HR.out]; rfl, HF0.out⟩
  by_cases g4 : (ms.length : Int) ≤ 10
  case neg =>
    have HR : Hid (res = false) := Lib.hid (by rw [HG.out, decide_eq_false g4]; simp)
    have g1' : ¬ ep < 0 := by omega
    have g2' : ¬ 1073741824 < ep := by omega
    have g3' : ¬ (ms.length : Int) < 1 := by omega
    have g4' : (10 : Int) < (ms.length : Int) := by omega
    go_enter Try.func13, Try.ntmps13
    go_wp2
    go_ret
    exact ⟨by rw [HR.out]; rfl, HF0.out⟩
  have HR : Hid (res = riseB 0 ms) := Lib.hid (by rw [HG.out, decide_eq_true g1, decide_eq_true g2, decide_eq_true g3, decide_eq_true g4]; rfl)
  have g1' : ¬ ep < 0 := by omega
  have g2' : ¬ 1073741824 < ep := by omega
  have g3' : ¬ (ms.length : Int) < 1 := by omega
  have g4' : ¬ (10 : Int) < (ms.length : Int) := by omega
  clear HG
  go_enter Try.func13, Try.ntmps13
  go_wp2
  clear c0 c1 g1 g2 g3 g4 g1' g2' g3' g4'
  go_loopw [28] (fun n wr => ∃ (k : Nat) (a : Int), k ≤ ms.length ∧ n = .int .i64 (k : Int) ∧ Hid (Below (w.alloc (.cells (cfgV ep A ms.length c) 24)).heap.size (w.alloc (.cells (cfgV ep A ms.length c) 24)) wr) ∧ Hid (riseB 0 ms = riseB a (ms.drop k)) ∧ Hid (k = 0 ∧ a = 0 ∨ ∃ (h : k - 1 < ms.length), 0 < k ∧ a = (ms[k - 1]'h).id)) (fun n _ => ms.length - (intOf n).toNat)
  case atStart => exact ⟨0, 0, Nat.zero_le _, rfl, Lib.hid (Below.refl _ _), Lib.hid rfl, Lib.hid (.inl ⟨rfl, rfl⟩)⟩
  case round =>
    obtain ⟨k, a, hk, rfl, HFW, HI, HPV⟩ := hrel
    have HF : Hid (Below w.heap.size w wr) := Lib.hid (HF0.out.trans (HFW.out.mono HF0.out.size))
    by_cases hlt : k < ms.length
    · obtain ⟨g, oo, rfl, _, hr⟩ := (HS.out.far HF.out).range hlt
      have lk := range_mem (hr k hlt)
      obtain ⟨w3, hst0, hb3, hg3⟩ := laid_mem wr (ms[k]'hlt)
      have HF3 : Hid (Below w.heap.size w w3) := Lib.hid (HF.out.trans (hg3.mono HF.out.size))
      have HFW3 := Lib.hid (HFW.out.trans (hg3.mono HFW.out.size))
      have hst := hst0
      unfold zmemV at hst
      have l3 := hb3.ld_mem
      have HX := Lib.hid (right_any (ms[k]'hlt) w3)
      have HLE := Lib.hid hlt
      have wk : IntKind.i64.wrap ((k : Int) + 1) = ((k + 1 : Nat) : Int) := by
        rw [IntKind.wrap_i64]
        have := HN.out
        omega
      have i1 : (k : Int) < (ms.length : Int) := by omega
      have HQ := Lib.hid (HI.out.trans (rise_step hlt a))
      have HNX : Hid (∃ (h : k + 1 - 1 < ms.length), 0 < k + 1 ∧ (ms[k]'hlt).id = (ms[k + 1 - 1]'h).id) := Lib.hid ⟨by omega, by omega, rfl⟩
      have HB3 := Lib.hid hb3
      have HRG : Hid (∀ j (hj : j < ms.length), w3.rangeAt g (oo + j * 34) (ms[j]'hj).cells) := Lib.hid (fun j hj => by
        obtain ⟨g', o', e, _, h⟩ := (HS.out.far HF3.out).range hlt
        injection e with e
        injection e with e1 e2
        subst e1
        subst e2
        exact h j hj)
      generalize hx : ms[k]'hlt = x at *
      have HXX := Lib.hid hx
      clear hr hst0 hb3 hg3 HI hx
      generalize hfx : fitsB x.id x.high = f at *
      have HFX := Lib.hid hfx
      clear hfx
      cases f
      · have HRR : Hid (res = false) := Lib.hid (by rw [HR.out, HQ.out]; simp)
        clear HQ
        go_wp2_with (go_at_call 26; (with_reducible refine (HX.out).mono ?_); rintro e w4 ⟨rfl, hb4⟩; have HB4 := Lib.hid hb4; clear hb4)
        go_ret
        exact ⟨by rw [HRR.out]; rfl, HF3.out.trans (HB4.out.mono HF3.out.size)⟩
      · go_upto_region 9 with (go_at_call 26; (with_reducible refine (HX.out).mono ?_); rintro e w4 ⟨rfl, hb4⟩; have HB4 := Lib.hid hb4; clear hb4)
        clear lk l3 hst
        have c40 : w4.cell? ⟨wr.heap.size, 0, none⟩ = some (.int .i64 x.id) := (HB3.out.below HB4.out HB3.out.lt).cell 0
        have HFW4 := Lib.hid (HFW3.out.trans (HB4.out.mono HFW3.out.size))
        have c41 : w4.cell? ⟨w.heap.size, 1, none⟩ = some (.slice (some ⟨g, oo, none⟩) ms.length c) := (HFW4.out.cell (p := ⟨w.heap.size, 1, none⟩) HBL.out).trans HC1.out
        have HPA : Hid (k = 0 ∧ a = 0 ∨ 0 < k ∧ w4.cell? ⟨g, oo + (k - 1) * 34, none⟩ = some (.int .i64 a)) := Lib.hid (by
          rcases HPV.out with h | ⟨h1, h0, ha⟩
          · exact .inl h
          · refine .inr ⟨h0, ?_⟩
            have h := HRG.out (k - 1) h1 0 _ (MemX.cell0 _)
            have hb : g < w3.heap.size := World.block_lt_of_cell? w3 _ h
            rw [ha]
            exact (HB4.out.cell (p := ⟨g, oo + (k - 1) * 34, none⟩) hb).trans h)
        have HFF := Lib.hid (HF3.out.trans (HB4.out.mono HF3.out.size))
        generalize hxi : x.id = xi at *
        have HXI := Lib.hid hxi
        have HX1 : Hid (0 < xi) := Lib.hid (by
          have h := HFX.out
          unfold fitsB inB at h
          simp only [Bool.and_eq_true, decide_eq_true_iff] at h
          omega)
        clear HRG HPV HXX HX HB3 hxi HFX HB4
        rcases HPA.out with ⟨h0, ha⟩ | ⟨h0, ca⟩
        · have hd : decide ((0 : Int) < (k : Int)) = false := by simp; omega
          have hd2 : decide (0 < k) = false := by simp; omega
          have HQ2 : Hid (riseB 0 ms = riseB xi (ms.drop (k + 1))) := Lib.hid (by rw [HQ.out, ha, decide_eq_true HX1.out]; rfl)
          clear h0 ha HPA HQ
          go_quiet (fail)
          all_goals
            clear hd hd2 c40 c41
            go_wp2
            go_roundw
            case rel => exact ⟨k + 1, xi, HLE.out, by go_num, Lib.hid (below_drewN HFW4.out _), HQ2, Lib.hid (.inr HNX.out)⟩
            case measure => have := HLE.out; simp [intOf]; omega
        · have hd : decide ((0 : Int) < (k : Int)) = true := by simp; omega
          have hd2 : decide (0 < k) = true := by simp; omega
          have e1 : IntKind.i64.wrap ((k : Int) - 1) = (k : Int) - 1 := by
            rw [IntKind.wrap_i64]
            have := HN.out
            omega
          have e2 : ((k : Int) - 1).toNat = k - 1 := by omega
          have e3 : (0 : Int) ≤ (k : Int) - 1 := by omega
          have e4 : (k : Int) - 1 < (ms.length : Int) := by omega
          by_cases hxa : a < xi
          · have hd3 : decide (xi ≤ a) = false := by simp; omega
            have HQ2 : Hid (riseB 0 ms = riseB xi (ms.drop (k + 1))) := Lib.hid (by rw [HQ.out, decide_eq_true hxa]; rfl)
            clear h0 HPA HQ hxa
            go_quiet (fail)
            all_goals
              clear hd hd2 c40 c41 ca e1 e2 e3 e4 hd3
              go_wp2
              go_roundw
              case rel => exact ⟨k + 1, xi, HLE.out, by go_num, Lib.hid (below_drewN HFW4.out _), HQ2, Lib.hid (.inr HNX.out)⟩
              case measure => have := HLE.out; simp [intOf]; omega
          · have hd3 : decide (xi ≤ a) = true := by simp; omega
            have HRR : Hid (res = false) := Lib.hid (by rw [HR.out, HQ.out, decide_eq_false hxa]; rfl)
            clear h0 HPA HQ hxa
            go_quiet (fail)
            all_goals
              clear hd hd2 c40 c41 ca e1 e2 e3 e4 hd3
              go_wp2
              go_ret
              exact ⟨by rw [HRR.out]; rfl, below_drewN HFF.out _⟩
    · have HRR : Hid (res = true) := Lib.hid (by rw [HR.out, HI.out, List.drop_eq_nil_of_le (by omega)]; rfl)
      have i1 : ¬ (k : Int) < (ms.length : Int) := by omega
      go_wp2
      go_ret
      exact ⟨by rw [HRR.out]; rfl, HF.out⟩
end Go.Proofs.Ytloaidahlagmiaa
