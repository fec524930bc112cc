/-
  Two configurations compared: the document's Same.
-/
import Derived.Test.YtloaidahlagmiaaCfGood
namespace Go.Proofs.Ytloaidahlagmiaa
open Go.RowKit Go.Sort

def sameB (ep : Int) (ms : List MemX) (ep' : Int) (ns : List MemX) : Bool := decide (ep = ep') && decide (ms = ns)
set_option maxRecDepth 100000 in
theorem take_same {ms ns : List MemX} {k : Nat} (h : ms.take k = ns.take k) (h1 : k < ms.length) (h2 : k < ns.length) (e : ms[k]'h1 = ns[k]'h2) : ms.take (k + 1) = ns.take (k + 1) := by
  rw [List.take_succ_eq_append_getElem h1, List.take_succ_eq_append_getElem h2, h, e]

attribute [local go_sem ↓] ldMem_def stMem_def eqMem_def bdMem_def

set_option maxRecDepth 100000 in
set_option maxHeartbeats 2000000 in
theorem same_any8 (ep : Int) (ms : List MemX) (A : Option Addr) (c : Nat) (ep' : Int) (ns : List MemX) (A' : Option Addr) (c' : Nat) (hm : ms.length ≤ maxLen) (hn : ns.length ≤ maxLen) (w : World) (hS : Mems w w.heap.size A ms) (hT : Mems w w.heap.size A' ns) :
    Calls Try.prog 20 #[.agg (cfgV ep A ms.length c), .agg (cfgV ep' A' ns.length c')] w fun e w' => e = .returned (.bool (sameB ep ms ep' ns)) ∧ Below w.heap.size w w' := by
  obtain ⟨w1, hw1⟩ : ∃ w1, w1 = (w.alloc (.cells (cfgV ep A ms.length c) 24)).alloc (.cells (cfgV ep' A' ns.length c') 24) := ⟨_, rfl⟩
  have HX : Hid (Box w1 w.heap.size 24 (cfgV ep A ms.length c)) := by
    rw [hw1]
    exact (Box.made w _ _).alloc _
  have HY : Hid (Box w1 (w.heap.size + 1) 24 (cfgV ep' A' ns.length c')) := by
    rw [hw1]
    exact Box.made_at (by simp) _ _
  have HF1 : Hid (Below w.heap.size w w1) := by
    rw [hw1]
    exact ((Below.refl _ _).alloc (Nat.le_refl _) _).alloc (by simp) _
  have c0 : w1.cell? ⟨w.heap.size, 0, none⟩ = some (.int .i64 ep) := HX.out.cell 0
  have c1 : w1.cell? ⟨w.heap.size, 1, none⟩ = some (.slice A ms.length c) := HX.out.cell 1
  have d0 : w1.cell? ⟨w.heap.size + 1, 0, none⟩ = some (.int .i64 ep') := HY.out.cell 0
  have d1 : w1.cell? ⟨w.heap.size + 1, 1, none⟩ = some (.slice A' ns.length c') := HY.out.cell 1
  have HS := Lib.hid (hS.far HF1.out)
  have HT := Lib.hid (hT.far HF1.out)
  have HM : Hid (ms.length ≤ 9223372036854775807) := Lib.hid (Nat.le_trans hm (by simp [maxLen]))
  have HN : Hid (ns.length ≤ 9223372036854775807) := Lib.hid (Nat.le_trans hn (by simp [maxLen]))
  have HG : Hid (sameB ep ms ep' ns = (decide (ep = ep') && decide (ms = ns))) := rfl
  clear hS hT hm hn
  generalize sameB ep ms ep' ns = res at *
  go_enter Try.func20, Try.ntmps20
  go_upto_region 1 with fail
  change Code.wp _ _ _ _ ((w.alloc (.cells (cfgV ep A ms.length c) 24)).alloc (.cells (cfgV ep' A' ns.length c') 24))
  rw [← hw1]
  clear hw1
  by_cases g1 : ep = ep'
  case neg =>
    have HR : Hid (res = false) := Lib.hid (by rw [HG.out, decide_eq_false g1]; rfl)
    have e1 : (ep != ep') = true := by simpa using g1
    clear g1 HG
    go_wp2
    go_ret
    exact ⟨by rw [HR.out]; rfl, HF1.out⟩
  have e1 : (ep != ep') = false := by simpa using g1
  by_cases g2 : ms.length = ns.length
  case neg =>
    have HR : Hid (res = false) := Lib.hid (by
      rw [HG.out, decide_eq_false (fun e : ms = ns => g2 (by rw [e]))]
      simp)
    have e2 : ((ms.length : Int) != (ns.length : Int)) = true := by rw [bne_iff_ne]; omega
    clear g1 g2 HG
    go_wp2
    go_ret
    exact ⟨by rw [HR.out]; rfl, HF1.out⟩
  have e2 : ((ms.length : Int) != (ns.length : Int)) = false := by rw [bne_eq_false_iff_eq]; omega
  have HR : Hid (res = decide (ms = ns)) := Lib.hid (by rw [HG.out, decide_eq_true g1]; rfl)
  have HL := Lib.hid g2
  clear g1 g2 HG
  go_wp2
  have HC1 := Lib.hid c1
  have HD1 := Lib.hid d1
  clear c0 c1 d0 d1 e1 e2
  go_loopw [23] (fun n wr => ∃ k : Nat, k ≤ ms.length ∧ n = .int .i64 (k : Int) ∧ Hid (Below w1.heap.size w1 wr) ∧ Hid (ms.take k = ns.take k)) (fun n _ => ms.length - (intOf n).toNat)
  case atStart => exact ⟨0, Nat.zero_le _, rfl, Lib.hid (Below.refl _ _), Lib.hid (by simp)⟩
  case round =>
    obtain ⟨k, hk, rfl, HF, HI⟩ := hrel
    by_cases hlt : k < ms.length
    · have hlt2 : k < ns.length := by rw [← HL.out]; exact hlt
      obtain ⟨g, oo, rfl, _, hr⟩ := (HS.out.far HF.out).range hlt
      obtain ⟨g', oo', rfl, _, hr'⟩ := (HT.out.far HF.out).range hlt2
      have lk := fun n => range_mem (w := wr.drewN n) (hr k hlt)
      have lk' := fun n => range_mem (w := wr.drewN n) (hr' k hlt2)
      have lz := range_mem (w := wr) (hr k hlt)
      have lz' := range_mem (w := wr) (hr' k hlt2)
      have he := eq_mem (ms[k]'hlt) (ns[k]'hlt2)
      have HTK := Lib.hid (take_same HI.out hlt hlt2)
      have HNE : Hid (ms[k]'hlt ≠ ns[k]'hlt2 → ms ≠ ns) := Lib.hid (fun h e => h (by subst e; rfl))
      have HLE := Lib.hid hlt
      have wk : IntKind.i64.wrap ((k : Int) + 1) = ((k + 1 : Nat) : Int) := by
        rw [IntKind.wrap_i64]
        have := HM.out
        omega
      have i1 : (k : Int) < (ms.length : Int) := by omega
      have i2 : (k : Int) < (ns.length : Int) := by omega
      have i0 : (0 : Int) ≤ (k : Int) := by omega
      have HBL : Hid (w.heap.size < w1.heap.size ∧ w.heap.size + 1 < w1.heap.size) := Lib.hid ⟨HX.out.lt, HY.out.lt⟩
      have c1 := (HF.out.cell (p := ⟨w.heap.size, 1, none⟩) HBL.out.1).trans HC1.out
      have d1 := (HF.out.cell (p := ⟨w.heap.size + 1, 1, none⟩) HBL.out.2).trans HD1.out
      generalize ms[k]'hlt = x at *
      generalize ns[k]'hlt2 = y at *
      unfold MemX.enc at lk lk' lz lz' he
      clear hr hr' hlt2
      by_cases hxy : x = y
      · have HXY := Lib.hid hxy
        rw [decide_eq_true hxy] at he
        clear hxy
        go_upto_region 6 with fail
        go_quiet (fail)
        all_goals
          clear lk lk' lz lz' he c1 d1
          go_wp2
          go_roundw
          case rel => exact ⟨k + 1, HLE.out, by go_num, Lib.hid (below_drewN HF.out _), Lib.hid (HTK.out HXY.out)⟩
          case measure => have := HLE.out; simp [intOf]; omega
      · have HRR : Hid (res = false) := Lib.hid (by rw [HR.out]; exact decide_eq_false (HNE.out hxy))
        rw [decide_eq_false hxy] at he
        clear hxy
        go_upto_region 6 with fail
        go_quiet (fail)
        all_goals
          clear lk lk' lz lz' he c1 d1
          go_wp2
          go_ret
          exact ⟨by rw [HRR.out]; rfl, below_drewN (HF1.out.trans (HF.out.mono HF1.out.size)) _⟩
    · have HRR : Hid (res = true) := Lib.hid (by
        rw [HR.out]
        have h := HI.out
        have hl := HL.out
        rw [List.take_of_length_le (by omega), List.take_of_length_le (by omega)] at h
        exact decide_eq_true h)
      have i1 : ¬ (k : Int) < (ms.length : Int) := by omega
      go_wp2
      go_ret
      exact ⟨by rw [HRR.out]; rfl, HF1.out.trans (HF.out.mono HF1.out.size)⟩
end Go.Proofs.Ytloaidahlagmiaa
