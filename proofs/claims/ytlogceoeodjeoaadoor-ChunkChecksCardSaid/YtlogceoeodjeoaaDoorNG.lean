/-
  The document's Rises, Great, Same; wapentakelaw10.great.
  The document's Great; wapentakelaw10.great.
  wapentakelaw10.great; the document's Same of two states that are the same.
-/
import Derived.Test.YtlogceoeodjeoaaDoorNB
import Derived.Test.YtlogceoeodjeoaaDoorRB
import Derived.Lib.QuietBelow
namespace Go.Proofs.YtlogceoeodjeoaaDoor
open Go.RowKit

attribute [local go_sem ↓] ldRp_def stRp_def ldSt_def stSt_def ldCf_def stCf_def ldPr_def stPr_def

set_option maxRecDepth 100000 in
theorem PairX.range_key10 {w : World} {g o : Nat} {x : PairX} (h : w.rangeAt g o (PK.enc x)) : w.cell? ⟨g, o, none⟩ = some (.string x.key) := h 0 _ rfl
set_option maxRecDepth 100000 in
theorem RepM.range_client10 {w : World} {g o : Nat} {x : RepM} (h : w.rangeAt g o (RK.enc x)) : w.cell? ⟨g, o, none⟩ = some (.int .i64 x.x.client) := h 0 _ rfl
set_option maxRecDepth 100000 in
theorem sorted_of_adj {α K : Type} {lt : K → K → Bool} {key : α → K} (o : Lt3 lt) {l : List α} (h : ∀ i (hi : i + 1 < l.length), lt (key (l[i]'(by omega))) (key (l[i + 1]'hi)) = true) : SortedK lt key l := by
  unfold SortedK
  rw [List.pairwise_iff_getElem]
  intro i j hi hj hij
  induction j with
  | zero => omega
  | succ j ih =>
    by_cases e : i = j
    · subst e
      exact h i hj
    · exact o.tr (ih (by omega) (by omega)) (h j hj)
set_option maxRecDepth 100000 in
theorem sorted_adj {α K : Type} {lt : K → K → Bool} {key : α → K} {l : List α} (h : SortedK lt key l) (i : Nat) (hi : i + 1 < l.length) : lt (key (l[i]'(by omega))) (key (l[i + 1]'hi)) = true := List.pairwise_iff_getElem.1 h i (i + 1) (by omega) hi (by omega)
set_option maxRecDepth 100000 in
theorem rs_of_adj {l : List RepM} (h : ∀ i (hi : i + 1 < l.length), iLt (l[i]'(by omega)).x.client (l[i + 1]'hi).x.client = true) : RS (l.map RepM.x) := by
  refine sorted_of_adj iLt3 (fun i hi => ?_)
  rw [List.length_map] at hi
  simp only [List.getElem_map]
  exact h i hi
set_option maxRecDepth 100000 in
theorem rs_adj {l : List RepM} (h : RS (l.map RepM.x)) (i : Nat) (hi : i + 1 < l.length) : iLt (l[i]'(by omega)).x.client (l[i + 1]'hi).x.client = true := by
  have := sorted_adj h i (by rw [List.length_map]; exact hi)
  simpa only [List.getElem_map] using this

def RisesPost (s : StM) (w : World) (e : Ending) (w' : World) : Prop := ∃ r : Bool, e = .returned (.bool r) ∧ (r = true ↔ s.pl.Ris) ∧ Below w.heap.size w w'
set_option maxRecDepth 100000 in
set_option maxHeartbeats 4000000 in
theorem rises_any (s : StM) (hp : s.ps.length ≤ 1000000) (hr : s.rs.length ≤ 1000000) (w : World) (hS : s.See w w.heap.size) :
    Calls Tryd.prog 63 #[.agg s.cells] w (RisesPost s w) := by
  obtain ⟨w1, hw1⟩ : ∃ w1, w1 = w.alloc (.cells s.cells 37) := ⟨_, rfl⟩
  have HX : Hid (Box w1 w.heap.size 37 s.cells) := by rw [hw1]; exact Box.made w _ _
  have HF : Hid (Below w.heap.size w w1) := by rw [hw1]; exact (Below.refl _ _).alloc (Nat.le_refl _) _
  have HS := Lib.hid (hS.keep HF.out HF.out.size)
  have HP := Lib.hid hp
  have HR := Lib.hid hr
  have c0 : w1.cell? ⟨w.heap.size, 0, none⟩ = some (.slice s.pA s.ps.length s.pc) := HX.out.cell 0
  have HC : Hid (∀ w', Below w1.heap.size w1 w' → w'.cell? ⟨w.heap.size, 0, none⟩ = some (.slice s.pA s.ps.length s.pc) ∧ w'.cell? ⟨w.heap.size, 1, none⟩ = some (.slice s.rA s.rs.length s.rc)) := Lib.hid (fun w' hb => ⟨(HX.out.below hb HX.out.lt).cell 0, (HX.out.below hb HX.out.lt).cell 1⟩)
  clear hS hp hr HX
  go_enter Tryd.func63, Tryd.ntmps63
  go_upto_region 1 with fail
  change Code.wp _ _ _ _ (w.alloc (.cells s.cells 37))
  rw [← hw1]
  clear hw1
  go_wp2
  clear c0
  go_loopw [8] (fun i wr => ∃ k : Nat, k ≤ s.ps.length ∧ i = .int .i64 (k : Int) ∧ Hid (∀ i (hi : i + 1 < s.ps.length), i + 1 < k → sLt (s.ps[i]'(by omega)).key (s.ps[i + 1]'hi).key = true) ∧ Hid (Below w1.heap.size w1 wr)) (fun i _ => s.ps.length - (intOf i).toNat)
  case atStart => exact ⟨0, Nat.zero_le _, rfl, Lib.hid (fun i _ h => absurd h (by omega)), Lib.hid (Below.refl _ _)⟩
  case round =>
    obtain ⟨k, hk, rfl, HQ, HW⟩ := hrel
    by_cases hlt : k < s.ps.length
    · have HLT := Lib.hid hlt
      have i1 : (k : Int) < (s.ps.length : Int) := by omega
      have i0 : (0 : Int) ≤ (k : Int) := by omega
      have wk : IntKind.i64.wrap ((k : Int) + 1) = ((k + 1 : Nat) : Int) := by rw [IntKind.wrap_i64]; have := HP.out; omega
      obtain rfl | ⟨m, hm⟩ : k = 0 ∨ ∃ m, k = m + 1 := by cases k with
        | zero => exact .inl rfl
        | succ m => exact .inr ⟨m, rfl⟩
      · rw [show ((0 : Nat) : Int) = 0 from rfl] at *
        go_wp2
        go_quiet (fail)
        have HW2 := Lib.hid (below_drewN HW.out nq)
        generalize wr.drewN nq = w6 at *
        go_wp2
        go_roundw
        case rel => exact ⟨1, HLT.out, by go_num, Lib.hid (fun i hi h => absurd h (by omega)), HW2⟩
        case measure => have := HLT.out; simp [intOf]; omega
      · obtain ⟨g, o, hA, _, hrg⟩ := EK.See.range (EK.See.far HS.out.ps HW.out) hlt
        have cc := (HC.out wr HW.out).1
        rw [hA] at cc
        have ca : wr.cell? ⟨g, o + m * 2, none⟩ = some (.string (s.ps[m]'(by omega)).key) := PairX.range_key10 (hrg m (by omega))
        have cb : wr.cell? ⟨g, o + k * 2, none⟩ = some (.string (s.ps[k]'hlt).key) := PairX.range_key10 (hrg k hlt)
        have HSL : Hid (sLt (s.ps[m]'(by omega)).key (s.ps[k]'hlt).key = Op.bytesLess (s.ps[m]'(by omega)).key.toList (s.ps[k]'hlt).key.toList) := Lib.hid rfl
        have HNX : Hid (sLt (s.ps[m]'(by omega)).key (s.ps[k]'hlt).key = true → ∀ i (hi : i + 1 < s.ps.length), i + 1 < k + 1 → sLt (s.ps[i]'(by omega)).key (s.ps[i + 1]'hi).key = true) := Lib.hid (fun h i hi hlt2 => by
          by_cases e : i = m
          · subst e
            subst hm
            exact h
          · exact HQ.out i hi (by omega))
        have HNR : Hid (sLt (s.ps[m]'(by omega)).key (s.ps[k]'hlt).key = false → ¬ s.pl.Ris) := Lib.hid (fun h hris => by
          have := sorted_adj hris.ps m (by show m + 1 < s.ps.length; omega)
          subst hm
          exact Bool.noConfusion (h.symm.trans this))
        have j0 : (0 : Int) < (k : Int) := by omega
        have j00 : 0 < k := by omega
        have jd : decide (0 < k) = true := decide_eq_true j00
        have jd2 : decide ((0 : Int) < (k : Int)) = true := decide_eq_true j0
        have j1 : IntKind.i64.wrap ((k : Int) - 1) = (m : Int) := by rw [IntKind.wrap_i64]; have := HP.out; omega
        have j2 : (0 : Int) ≤ (m : Int) := by omega
        have j3 : (m : Int) < (s.ps.length : Int) := by omega
        have HMK : Hid (k = m + 1) := Lib.hid hm
        clear hrg hA
        have hm' : m < s.ps.length := by omega
        generalize (s.ps[m]'hm').key = x at *
        generalize (s.ps[k]'hlt).key = y at *
        cases hb : Op.bytesLess x.toList y.toList
        · rw [hb] at HSL
          have HRF := Lib.hid (HNR.out HSL.out)
          clear HQ HNX HNR HSL hm
          go_wp2
          go_quiet (fail)
          have HW2 := Lib.hid (below_drewN HW.out nq)
          generalize wr.drewN nq = w6 at *
          go_wp2
          go_ret
          exact ⟨false, rfl, ⟨fun h => (by cases h), fun h => absurd h HRF.out⟩, HF.out.trans (HW2.out.mono HF.out.size)⟩
        · rw [hb] at HSL
          have HQ2 := Lib.hid (HNX.out HSL.out)
          clear HQ HNX HNR HSL hm
          go_wp2
          go_quiet (fail)
          have HW2 := Lib.hid (below_drewN HW.out nq)
          generalize wr.drewN nq = w6 at *
          go_wp2
          go_roundw
          case rel => exact ⟨k + 1, HLT.out, by go_num, HQ2, HW2⟩
          case measure => have := HLT.out; simp [intOf]; omega
    · have hke : k = s.ps.length := by omega
      have HPS : Hid (PS s.ps) := Lib.hid (sorted_of_adj sLt3 (fun i hi => HQ.out i hi (by omega)))
      have c1 := (HC.out wr HW.out).2
      have i1 : ¬ (k : Int) < (s.ps.length : Int) := by omega
      clear HQ hke hk
      go_wp2
      have HWO := HW
      clear c1 hlt i1
      go_loopw [33] (fun i wr => ∃ k : Nat, k ≤ s.rs.length ∧ i = .int .i64 (k : Int) ∧ Hid (∀ i (hi : i + 1 < s.rs.length), i + 1 < k → iLt (s.rs[i]'(by omega)).x.client (s.rs[i + 1]'hi).x.client = true) ∧ Hid (Below w1.heap.size w1 wr)) (fun i _ => s.rs.length - (intOf i).toNat)
      case atStart => exact ⟨0, Nat.zero_le _, rfl, Lib.hid (fun i _ h => absurd h (by omega)), HWO⟩
      case round =>
        obtain ⟨k, hk, rfl, HQ, HW⟩ := hrel
        by_cases hlt : k < s.rs.length
        · have HLT := Lib.hid hlt
          have i1 : (k : Int) < (s.rs.length : Int) := by omega
          have i0 : (0 : Int) ≤ (k : Int) := by omega
          have wk : IntKind.i64.wrap ((k : Int) + 1) = ((k + 1 : Nat) : Int) := by rw [IntKind.wrap_i64]; have := HR.out; omega
          obtain rfl | ⟨m, hm⟩ : k = 0 ∨ ∃ m, k = m + 1 := by cases k with
            | zero => exact .inl rfl
            | succ m => exact .inr ⟨m, rfl⟩
          · rw [show ((0 : Nat) : Int) = 0 from rfl] at *
            go_wp2
            go_quiet (fail)
            have HW2 := Lib.hid (below_drewN HW.out nq)
            generalize wr.drewN nq = w6 at *
            go_wp2
            go_roundw
            case rel => exact ⟨1, HLT.out, by go_num, Lib.hid (fun i hi h => absurd h (by omega)), HW2⟩
            case measure => have := HLT.out; simp [intOf]; omega
          · obtain ⟨g, o, hA, _, hrg⟩ := EK.See.range (EK.See.far HS.out.rs HW.out) hlt
            have cc := (HC.out wr HW.out).2
            rw [hA] at cc
            have ca : wr.cell? ⟨g, o + m * 4, none⟩ = some (.int .i64 (s.rs[m]'(by omega)).x.client) := RepM.range_client10 (hrg m (by omega))
            have cb : wr.cell? ⟨g, o + k * 4, none⟩ = some (.int .i64 (s.rs[k]'hlt).x.client) := RepM.range_client10 (hrg k hlt)
            have HSL : Hid (iLt (s.rs[m]'(by omega)).x.client (s.rs[k]'hlt).x.client = decide ((s.rs[m]'(by omega)).x.client < (s.rs[k]'hlt).x.client)) := Lib.hid rfl
            have HNX : Hid (iLt (s.rs[m]'(by omega)).x.client (s.rs[k]'hlt).x.client = true → ∀ i (hi : i + 1 < s.rs.length), i + 1 < k + 1 → iLt (s.rs[i]'(by omega)).x.client (s.rs[i + 1]'hi).x.client = true) := Lib.hid (fun h i hi hlt2 => by
              by_cases e : i = m
              · subst e
                subst hm
                exact h
              · exact HQ.out i hi (by omega))
            have HNR : Hid (iLt (s.rs[m]'(by omega)).x.client (s.rs[k]'hlt).x.client = false → ¬ s.pl.Ris) := Lib.hid (fun h hris => by
              have := rs_adj hris.rs m (by omega)
              subst hm
              exact Bool.noConfusion (h.symm.trans this))
            have j0 : (0 : Int) < (k : Int) := by omega
            have j00 : 0 < k := by omega
            have jd : decide (0 < k) = true := decide_eq_true j00
            have jd2 : decide ((0 : Int) < (k : Int)) = true := decide_eq_true j0
            have j1 : IntKind.i64.wrap ((k : Int) - 1) = (m : Int) := by rw [IntKind.wrap_i64]; have := HR.out; omega
            have j2 : (0 : Int) ≤ (m : Int) := by omega
            have j3 : (m : Int) < (s.rs.length : Int) := by omega
            have HMK : Hid (k = m + 1) := Lib.hid hm
            clear hrg hA
            have hm' : m < s.rs.length := by omega
            generalize (s.rs[m]'hm').x.client = x at *
            generalize (s.rs[k]'hlt).x.client = y at *
            by_cases hb : x < y
            rotate_left
            · rw [decide_eq_false hb] at HSL
              have hb2 : y ≤ x := by omega
              have hb3 : decide (y ≤ x) = true := decide_eq_true hb2
              have HRF := Lib.hid (HNR.out HSL.out)
              clear HQ HNX HNR HSL hm
              go_wp2
              go_quiet (fail)
              have HW2 := Lib.hid (below_drewN HW.out nq)
              generalize wr.drewN nq = w6 at *
              go_wp2
              go_ret
              exact ⟨false, rfl, ⟨fun h => (by cases h), fun h => absurd h HRF.out⟩, HF.out.trans (HW2.out.mono HF.out.size)⟩
            · rw [decide_eq_true hb] at HSL
              have hb2 : ¬ y ≤ x := by omega
              have hb3 : decide (y ≤ x) = false := decide_eq_false hb2
              have HQ2 := Lib.hid (HNX.out HSL.out)
              clear HQ HNX HNR HSL hm
              go_wp2
              go_quiet (fail)
              have HW2 := Lib.hid (below_drewN HW.out nq)
              generalize wr.drewN nq = w6 at *
              go_wp2
              go_roundw
              case rel => exact ⟨k + 1, HLT.out, by go_num, HQ2, HW2⟩
              case measure => have := HLT.out; simp [intOf]; omega
        · have hke : k = s.rs.length := by omega
          have HRS : Hid (RS (s.rs.map RepM.x)) := Lib.hid (rs_of_adj (fun i hi => HQ.out i hi (by omega)))
          have i1 : ¬ (k : Int) < (s.rs.length : Int) := by omega
          clear HQ hke hk
          go_wp2
          go_ret
          exact ⟨true, rfl, ⟨fun _ => ⟨HPS.out, HRS.out⟩, fun _ => rfl⟩, HF.out.trans (HW.out.mono HF.out.size)⟩

end Go.Proofs.YtlogceoeodjeoaaDoor

namespace Go.Proofs.YtlogceoeodjeoaaDoor
open Go.RowKit

attribute [local go_sem ↓] ldRp_def stRp_def ldSt_def stSt_def ldCf_def stCf_def ldPr_def stPr_def

/-- What memory says of a state's sizes. -/
structure StM.Sz (s : StM) : Prop where
  ps : s.ps.length ≤ 140737488351232
  rs : s.rs.length ≤ 140737488351232
  ms : s.ms.length ≤ 140737488351232
  kv : ∀ p ∈ s.ps, p.key.size ≤ 140737488351232 ∧ p.val.size ≤ 140737488351232
  vs : ∀ r ∈ s.rs, r.x.vals.length ≤ 8796093022000 ∧ ∀ v ∈ r.x.vals, v.size ≤ 140737488351232
  ok : s.pl.Ok
def Small0 (s : StM) : Prop := s.ps.length ≤ 300 ∧ s.rs.length ≤ 100 ∧ s.ms.length ≤ 20 ∧ (∀ r ∈ s.rs, r.x.vals.length ≤ 300) ∧ s.pl.Ok
def GreatPost (s : StM) (w : World) (e : Ending) (w' : World) : Prop := ∃ g : Bool, e = .returned (.bool g) ∧ (g = false → Small0 s) ∧ Below w.heap.size w w'
set_option maxRecDepth 100000 in
theorem GreatPost.yes {s : StM} {w w' : World} (h : Below w.heap.size w w') : GreatPost s w (.returned (.bool true)) w' := ⟨true, rfl, fun h => (by cases h), h⟩

set_option maxRecDepth 100000 in
set_option maxHeartbeats 4000000 in
theorem great_any10 (s : StM) (hz : s.Sz) (w : World) (hS : s.See w w.heap.size) :
    Calls Tryd.prog 12 #[.agg s.cells, .int .i64 16384] w (GreatPost s w) := by
  obtain ⟨w1, hw1⟩ : ∃ w1, w1 = w.alloc (.cells s.cells 37) := ⟨_, rfl⟩
  have HX : Hid (Box w1 w.heap.size 37 s.cells) := by rw [hw1]; exact Box.made w _ _
  have HF : Hid (Below w.heap.size w w1) := by rw [hw1]; exact (Below.refl _ _).alloc (Nat.le_refl _) _
  have HS := Lib.hid (hS.keep HF.out HF.out.size)
  have HZ := Lib.hid hz
  have HOK := Lib.hid hz.ok
  have c0 : w1.cell? ⟨w.heap.size, 0, none⟩ = some (.slice s.pA s.ps.length s.pc) := HX.out.cell 0
  have c1 : w1.cell? ⟨w.heap.size, 1, none⟩ = some (.slice s.rA s.rs.length s.rc) := HX.out.cell 1
  have c3 : w1.cell? ⟨w.heap.size, 3, none⟩ = some (.slice s.mA s.ms.length s.mc) := HX.out.cell 3
  have HC : Hid (∀ w', Below w1.heap.size w1 w' → w'.cell? ⟨w.heap.size, 1, none⟩ = some (.slice s.rA s.rs.length s.rc)) := Lib.hid (fun w' hb => (HX.out.below hb HX.out.lt).cell 1)
  clear hS hz HX
  by_cases h1 : 300 < s.ps.length
  · have e1 : decide ((300 : Int) < (s.ps.length : Int)) = true := decide_eq_true (by omega)
    have e2 : decide (300 < s.ps.length) = true := decide_eq_true h1
    have e3 : (300 : Int) < (s.ps.length : Int) := by omega
    go_enter Tryd.func12, Tryd.ntmps12
    go_upto_region 1 with fail
    change Code.wp _ _ _ _ (w.alloc (.cells s.cells 37))
    rw [← hw1]
    clear hw1
    go_wp2
    go_ret
    exact GreatPost.yes HF.out
  have e1 : decide ((300 : Int) < (s.ps.length : Int)) = false := decide_eq_false (by omega)
  have e1' : decide (300 < s.ps.length) = false := decide_eq_false h1
  have e1n : ¬ (300 : Int) < (s.ps.length : Int) := by omega
  have H1 : Hid (s.ps.length ≤ 300) := Lib.hid (by omega)
  clear h1
  by_cases h2 : 100 < s.rs.length
  · have e2 : decide ((100 : Int) < (s.rs.length : Int)) = true := decide_eq_true (by omega)
    have e2' : (100 : Int) < (s.rs.length : Int) := by omega
    go_enter Tryd.func12, Tryd.ntmps12
    go_upto_region 1 with fail
    change Code.wp _ _ _ _ (w.alloc (.cells s.cells 37))
    rw [← hw1]
    clear hw1
    go_wp2
    go_ret
    exact GreatPost.yes HF.out
  have e2 : decide ((100 : Int) < (s.rs.length : Int)) = false := decide_eq_false (by omega)
  have e2n : ¬ (100 : Int) < (s.rs.length : Int) := by omega
  have H2 : Hid (s.rs.length ≤ 100) := Lib.hid (by omega)
  clear h2
  by_cases h3 : 20 < s.ms.length
  · have e3 : decide ((20 : Int) < (s.ms.length : Int)) = true := decide_eq_true (by omega)
    have e3' : (20 : Int) < (s.ms.length : Int) := by omega
    go_enter Tryd.func12, Tryd.ntmps12
    go_upto_region 1 with fail
    change Code.wp _ _ _ _ (w.alloc (.cells s.cells 37))
    rw [← hw1]
    clear hw1
    go_wp2
    go_ret
    exact GreatPost.yes HF.out
  have e3 : decide ((20 : Int) < (s.ms.length : Int)) = false := decide_eq_false (by omega)
  have e3n : ¬ (20 : Int) < (s.ms.length : Int) := by omega
  have H3 : Hid (s.ms.length ≤ 20) := Lib.hid (by omega)
  clear h3
  go_enter Tryd.func12, Tryd.ntmps12
  go_upto_region 1 with fail
  change Code.wp _ _ _ _ (w.alloc (.cells s.cells 37))
  rw [← hw1]
  clear hw1
  go_wp2
  clear c0 c1 c3 e1 e1' e1n e2 e2n e3 e3n
  go_loopw [5, 32] (fun n i wr => ∃ k t : Nat, k ≤ s.ps.length ∧ i = .int .i64 (k : Int) ∧ n = .int .i64 (t : Int) ∧ Hid (t ≤ 16384) ∧ Hid (Below w1.heap.size w1 wr)) (fun _ i _ => s.ps.length - (intOf i).toNat)
  case atStart => exact ⟨0, 0, Nat.zero_le _, rfl, rfl, Lib.hid (by omega), Lib.hid (Below.refl _ _)⟩
  case round =>
    obtain ⟨k, t, hk, rfl, rfl, HT, HW⟩ := hrel
    by_cases hlt : k < s.ps.length
    · have HLT := Lib.hid hlt
      obtain ⟨g, o, hA, _, hr⟩ := EK.See.range (EK.See.far HS.out.ps HW.out) hlt
      have lk : (ldPr (.pointer (some ⟨g, o + k * 2, none⟩))).run Tryd.prog wr = .ok (.agg #[.string (s.ps[k]'hlt).key, .string (s.ps[k]'hlt).val]) wr := range_pr (hr k hlt)
      rw [hA]
      have HKV := Lib.hid (HZ.out.kv _ (List.getElem_mem hlt))
      have i1 : (k : Int) < (s.ps.length : Int) := by omega
      have i0 : (0 : Int) ≤ (k : Int) := by omega
      have wk : IntKind.i64.wrap ((k : Int) + 1) = ((k + 1 : Nat) : Int) := by rw [IntKind.wrap_i64]; have := H1.out; omega
      obtain ⟨w3, hst, hb3, hbl3, _⟩ := laid_pr wr #[.string ⟨#[]⟩, .string ⟨#[]⟩] rfl (s.ps[k]'hlt).key (s.ps[k]'hlt).val
      have d0 : w3.cell? ⟨wr.heap.size, 0, none⟩ = some (.string (s.ps[k]'hlt).key) := hb3.cell 0
      have d1 : w3.cell? ⟨wr.heap.size, 1, none⟩ = some (.string (s.ps[k]'hlt).val) := hb3.cell 1
      have HW3 := Lib.hid (HW.out.trans (hbl3.mono HW.out.size))
      generalize (s.ps[k]'hlt).key = x at *
      generalize (s.ps[k]'hlt).val = y at *
      obtain ⟨q, hq⟩ : ∃ q : Nat, q = t + 1 + x.size + y.size := ⟨_, rfl⟩
      have a1 : IntKind.i64.wrap ((t : Int) + 1) = (t : Int) + 1 := by rw [IntKind.wrap_i64]; have := HT.out; omega
      have a2 : IntKind.i64.wrap ((t : Int) + 1 + (x.size : Int)) = (t : Int) + 1 + (x.size : Int) := by rw [IntKind.wrap_i64]; have := HT.out; have := HKV.out.1; omega
      have a3 : IntKind.i64.wrap ((t : Int) + 1 + (x.size : Int) + (y.size : Int)) = (q : Int) := by rw [IntKind.wrap_i64]; have := HT.out; have := HKV.out.1; have := HKV.out.2; omega
      clear hr hb3 hbl3 hq
      by_cases hb : 16384 < q
      · have e2 : decide ((16384 : Int) < (q : Int)) = true := decide_eq_true (by omega)
        have e2' : (16384 : Int) < (q : Int) := by omega
        go_wp2
        go_ret
        exact GreatPost.yes (HF.out.trans (HW3.out.mono HF.out.size))
      · have e2 : decide ((16384 : Int) < (q : Int)) = false := decide_eq_false (by omega)
        have e2' : ¬ (16384 : Int) < (q : Int) := by omega
        have HQ : Hid (q ≤ 16384) := Lib.hid (by omega)
        go_wp2
        go_roundw
        case rel => exact ⟨k + 1, q, HLT.out, by go_num, rfl, HQ, HW3⟩
        case measure => have := HLT.out; simp [intOf]; omega
    · have i1 : ¬ (k : Int) < (s.ps.length : Int) := by omega
      have c1 := HC.out wr HW.out
      clear hk
      go_wp2
      clear c1 i1 hlt
      go_loopw [5, 53] (fun n i wr => ∃ k t : Nat, k ≤ s.rs.length ∧ i = .int .i64 (k : Int) ∧ n = .int .i64 (t : Int) ∧ Hid (t ≤ 16384) ∧ Hid (∀ j (hj : j < s.rs.length), j < k → (s.rs[j]'hj).x.vals.length ≤ 300) ∧ Hid (Below w1.heap.size w1 wr)) (fun _ i _ => s.rs.length - (intOf i).toNat)
      case atStart => exact ⟨0, t, Nat.zero_le _, rfl, rfl, HT, Lib.hid (fun j _ h => absurd h (by omega)), HW⟩
      case round =>
        obtain ⟨k2, t2, hk2, rfl, rfl, HT2, HV, HW2⟩ := hrel
        by_cases hlt : k2 < s.rs.length
        · have HLT := Lib.hid hlt
          obtain ⟨g, o, hA, _, hr⟩ := EK.See.range (EK.See.far HS.out.rs HW2.out) hlt
          have lk : (ldRp (.pointer (some ⟨g, o + k2 * 4, none⟩))).run Tryd.prog wr = .ok (.agg (repv (s.rs[k2]'hlt).x.client (s.rs[k2]'hlt).x.num (s.rs[k2]'hlt).x.code (s.rs[k2]'hlt).A (s.rs[k2]'hlt).x.vals.length (s.rs[k2]'hlt).z)) wr := range_rp (hr k2 hlt)
          rw [hA]
          have HVS := Lib.hid (HZ.out.vs _ (List.getElem_mem hlt))
          have HSV : Hid (∀ w', Below w1.heap.size w1 w' → SK.See w' w'.heap.size (s.rs[k2]'hlt).A (s.rs[k2]'hlt).x.vals) := Lib.hid (fun w' hb => EK.See.far (HS.out.vals _ (List.getElem_mem hlt)) hb)
          have HNX : Hid ((s.rs[k2]'hlt).x.vals.length ≤ 300 → ∀ j (hj : j < s.rs.length), j < k2 + 1 → (s.rs[j]'hj).x.vals.length ≤ 300) := Lib.hid (fun h j hj hjk => by
            by_cases e : j = k2
            · subst e
              exact h
            · exact HV.out j hj (by omega))
          have i1 : (k2 : Int) < (s.rs.length : Int) := by omega
          have i0 : (0 : Int) ≤ (k2 : Int) := by omega
          have wk : IntKind.i64.wrap ((k2 : Int) + 1) = ((k2 + 1 : Nat) : Int) := by rw [IntKind.wrap_i64]; have := H2.out; omega
          obtain ⟨w3, hst, hb3, hbl3, _⟩ := laid_rp wr (repv 0 0 0 none 0 0) rfl (s.rs[k2]'hlt).x.client (s.rs[k2]'hlt).x.num (s.rs[k2]'hlt).x.code (s.rs[k2]'hlt).A (s.rs[k2]'hlt).x.vals.length (s.rs[k2]'hlt).z
          have HW3 := Lib.hid (HW2.out.trans (hbl3.mono HW2.out.size))
          generalize (s.rs[k2]'hlt).x.client = xc at *
          generalize (s.rs[k2]'hlt).x.num = xn at *
          generalize (s.rs[k2]'hlt).x.code = xk at *
          generalize (s.rs[k2]'hlt).x.vals = vs at *
          generalize (s.rs[k2]'hlt).A = xA at *
          generalize (s.rs[k2]'hlt).z = xz at *
          have d3 : w3.cell? ⟨wr.heap.size, 3, none⟩ = some (.slice xA vs.length xz) := hb3.cell 3
          clear hr hb3 hbl3 HV
          by_cases hv : 300 < vs.length
          · have e2 : decide ((300 : Int) < (vs.length : Int)) = true := decide_eq_true (by omega)
            have e2' : (300 : Int) < (vs.length : Int) := by omega
            clear HNX HSV
            go_wp2
            go_ret
            exact GreatPost.yes (HF.out.trans (HW3.out.mono HF.out.size))
          · have e2 : decide ((300 : Int) < (vs.length : Int)) = false := decide_eq_false (by omega)
            have e2' : ¬ (300 : Int) < (vs.length : Int) := by omega
            have HVN := Lib.hid (HNX.out (by omega))
            have HVL : Hid (vs.length ≤ 300) := Lib.hid (by omega)
            clear HNX hv
            go_wp2
            clear d3 e2 e2' hst lk
            go_loopw [5, 64] (fun n i wr' => ∃ j t : Nat, j ≤ vs.length ∧ i = .int .i64 (j : Int) ∧ n = .int .i64 (t : Int) ∧ Hid (t ≤ 16384) ∧ Hid (Below w1.heap.size w1 wr')) (fun _ i _ => vs.length - (intOf i).toNat)
            case atStart => exact ⟨0, t2, Nat.zero_le _, rfl, rfl, HT2, HW3⟩
            case round =>
              obtain ⟨j, t3, hj, rfl, rfl, HT3, HW4⟩ := hrel
              by_cases hjl : j < vs.length
              · have HJL := Lib.hid hjl
                have hsv := HSV.out _ HW4.out
                unfold EK.See at hsv
                rw [SK_flat] at hsv
                obtain ⟨gv, ov, hAv, _, hcv⟩ := hsv.at_ (k := j) (by simpa using hjl)
                simp only [List.getElem_map] at hcv
                have HSZ := Lib.hid (HVS.out.2 _ (List.getElem_mem hjl))
                rw [hAv]
                have j1 : (j : Int) < (vs.length : Int) := by omega
                have j0 : (0 : Int) ≤ (j : Int) := by omega
                have wj : IntKind.i64.wrap ((j : Int) + 1) = ((j + 1 : Nat) : Int) := by rw [IntKind.wrap_i64]; have := HVL.out; omega
                generalize vs[j] = y at *
                obtain ⟨q, hq⟩ : ∃ q : Nat, q = t3 + 1 + y.size := ⟨_, rfl⟩
                have a1 : IntKind.i64.wrap ((t3 : Int) + 1) = (t3 : Int) + 1 := by rw [IntKind.wrap_i64]; have := HT3.out; omega
                have a2 : IntKind.i64.wrap ((t3 : Int) + 1 + (y.size : Int)) = (q : Int) := by rw [IntKind.wrap_i64]; have := HT3.out; have := HSZ.out; omega
                clear hsv hq
                by_cases hb : 16384 < q
                · have e2 : decide ((16384 : Int) < (q : Int)) = true := decide_eq_true (by omega)
                  have e2' : (16384 : Int) < (q : Int) := by omega
                  go_wp2
                  go_ret
                  exact GreatPost.yes (HF.out.trans (HW4.out.mono HF.out.size))
                · have e2 : decide ((16384 : Int) < (q : Int)) = false := decide_eq_false (by omega)
                  have e2' : ¬ (16384 : Int) < (q : Int) := by omega
                  have HQ : Hid (q ≤ 16384) := Lib.hid (by omega)
                  go_wp2
                  go_roundw
                  case rel => exact ⟨j + 1, q, HJL.out, by go_num, rfl, HQ, HW4⟩
                  case measure => have := HJL.out; simp [intOf]; omega
              · have j1 : ¬ (j : Int) < (vs.length : Int) := by omega
                clear hj
                go_wp2
                go_roundw
                case rel => exact ⟨k2 + 1, t3, HLT.out, by go_num, rfl, HT3, HVN, HW4⟩
                case measure => have := HLT.out; simp [intOf]; omega
        · have i1 : ¬ (k2 : Int) < (s.rs.length : Int) := by omega
          have HVA : Hid (∀ r ∈ s.rs, r.x.vals.length ≤ 300) := Lib.hid (fun r hr => by
            obtain ⟨j, hj, rfl⟩ := List.mem_iff_getElem.1 hr
            exact HV.out j hj (by omega))
          clear HV hk2
          go_wp2
          go_ret
          exact ⟨false, rfl, fun _ => ⟨H1.out, H2.out, H3.out, HVA.out, HOK.out⟩, HF.out.trans (HW2.out.mono HF.out.size)⟩
end Go.Proofs.YtlogceoeodjeoaaDoor

namespace Go.Proofs.YtlogceoeodjeoaaDoor
open Go.RowKit Go.Sort

attribute [local go_sem ↓] ldRp_def stRp_def ldSt_def stSt_def ldCf_def stCf_def ldPr_def stPr_def

def GrtPost (s : StM) (qs : List ReqX) (w : World) (e : Ending) (w' : World) : Prop := ∃ g : Bool, e = .returned (.bool g) ∧ (g = false → Small0 s ∧ s.pl.Ris ∧ qs.length ≤ 60) ∧ Below w.heap.size w w'
set_option maxRecDepth 100000 in
theorem GrtPost.yes {s : StM} {qs : List ReqX} {w w' : World} (h : Below w.heap.size w w') : GrtPost s qs w (.returned (.bool true)) w' := ⟨true, rfl, fun h => (by cases h), h⟩
set_option maxRecDepth 100000 in
theorem Small0.fits {s : StM} (h : Small0 s) : s.pl.Fits 0 := ⟨h.1, by show (s.rs.map RepM.x).length ≤ _; rw [List.length_map]; have := h.2.1; omega, fun r hr => by
  obtain ⟨m, hm, rfl⟩ := List.mem_map.1 hr
  exact h.2.2.2.1 m hm, h.2.2.1, h.2.2.2.2⟩

/-! ### Same, of what is the same -/
noncomputable def eqPr (a b : Value) : Sem Bool := Op.equalIn 10000 63 a b
set_option maxRecDepth 100000 in
theorem eqPr_def (a b : Value) : Op.equalIn 10000 63 a b = eqPr a b := rfl
set_option maxRecDepth 100000 in
theorem eq_pr_self (k v : ByteArray) (w : World) : (eqPr (.agg #[.string k, .string v]) (.agg #[.string k, .string v])).run Tryd.prog w = .ok true w := by
  have hu : Tryd.prog.underlying 63 = some (.struct (Tryd.prog.fieldsOf 63)) := by kernel_rfl
  have hst : Tryd.prog.stoodInHeld 63 = false := by kernel_rfl
  have hfs : (Tryd.prog.fieldsOf 63).toList.map (fun f => (decide (f.name ≠ "_"), f.type, f.offset)) = [(true, 9, 0), (true, 9, 1)] := by kernel_rfl
  show (Op.equalIn (9999 + 1) 63 _ _).run _ w = _
  rw [run_equalIn_struct w 9999 63 _ _ hu hst]
  generalize (Tryd.prog.fieldsOf 63).toList = fs at hfs
  obtain ⟨f0, fs, rfl⟩ : ∃ f0 r, fs = f0 :: r := by cases fs <;> simp at hfs ⊢
  obtain ⟨f1, fs, rfl⟩ : ∃ f1 r, fs = f1 :: r := by cases fs <;> simp at hfs ⊢
  obtain rfl : fs = [] := by cases fs <;> simp at hfs ⊢
  simp only [List.map_cons, List.map_nil, List.cons.injEq, Prod.mk.injEq, and_true] at hfs
  obtain ⟨n0, n1⟩ := hfs
  have h := eqF_cons n0 (run_part_plain (P := Tryd.prog) (xs := #[.string k, .string v]) w (by kernel_rfl) rfl) (run_part_plain (P := Tryd.prog) (xs := #[.string k, .string v]) w (by kernel_rfl) rfl) (run_eq_str 9998 k k w)
    (eqF_cons n1 (run_part_plain (P := Tryd.prog) (xs := #[.string k, .string v]) w (by kernel_rfl) rfl) (run_part_plain (P := Tryd.prog) (xs := #[.string k, .string v]) w (by kernel_rfl) rfl) (run_eq_str 9998 v v w) eqF_nil)
  simpa using h

attribute [local go_sem ↓] eqPr_def
set_option maxRecDepth 100000 in
theorem same9_self (c n k : Int) (vs : List ByteArray) : same9B c n k vs c n k vs = true := by
  unfold same9B
  simp

set_option maxRecDepth 100000 in
set_option maxHeartbeats 4000000 in
theorem ssame_any (s t : StM) (hp : t.pl = s.pl) (hfit : s.pl.Fits 100000) (w : World) (hS : s.See w w.heap.size) (hT : t.See w w.heap.size) :
    Calls Tryd.prog 11 #[.agg s.cells, .agg t.cells] w fun e w' => e = .returned (.bool true) ∧ Below w.heap.size w w' := by
  obtain ⟨w1, hw1⟩ : ∃ w1, w1 = (w.alloc (.cells s.cells 37)).alloc (.cells t.cells 37) := ⟨_, rfl⟩
  have HX : Hid (Box w1 w.heap.size 37 s.cells) := by rw [hw1]; exact (Box.made w _ _).alloc _
  have HY : Hid (Box w1 (w.heap.size + 1) 37 t.cells) := by rw [hw1]; exact Box.made_at (by simp) _ _
  have HF : Hid (Below w.heap.size w w1) := by rw [hw1]; exact ((Below.refl _ _).alloc (Nat.le_refl _) _).alloc (by simp) _
  have HS := Lib.hid (hS.keep HF.out HF.out.size)
  have HT := Lib.hid (hT.keep HF.out HF.out.size)
  obtain ⟨e1, e2, e3, e4⟩ : t.ps = s.ps ∧ t.ms = s.ms ∧ t.rs.map RepM.x = s.rs.map RepM.x ∧ t.ep = s.ep := by
    unfold StM.pl at hp
    injection hp with h1 h2 h3 h4
    exact ⟨h1, h4, h2, h3⟩
  have HE3 := Lib.hid e3
  have hlr : t.rs.length = s.rs.length := by have := congrArg List.length e3; simpa using this
  have HXE : Hid (∀ k (h1 : k < s.rs.length) (h2 : k < t.rs.length), (t.rs[k]'h2).x = (s.rs[k]'h1).x) := Lib.hid (fun k h1 h2 => by
    have := congrArg (fun l : List RepX => l[k]?) e3
    simp only [List.getElem?_map, List.getElem?_eq_getElem h1, List.getElem?_eq_getElem h2, Option.map_some, Option.some.injEq] at this
    exact this)
  have HCM := Lib.hid (same_any8 s.ep s.ms s.mA s.mc t.ep t.ms t.mA t.mc (by have := hfit.ms; unfold maxLen; unfold StM.pl at this; simp only at this; omega) (by rw [e2]; have := hfit.ms; unfold maxLen; unfold StM.pl at this; simp only at this; omega) w1 HS.out.ms HT.out.ms)
  have HRL : Hid (∀ k (h1 : k < s.rs.length), (s.rs[k]'h1).x.vals.length ≤ 200000) := Lib.hid (fun k h1 => by have := hfit.vals _ (List.mem_map_of_mem (List.getElem_mem h1)); omega)
  have HPN : Hid (s.ps.length ≤ 1000000 ∧ s.rs.length ≤ 1000000) := Lib.hid (by have h1 := hfit.ps; have h2 := hfit.rs; unfold StM.pl at h1 h2; simp only [List.length_map] at h1 h2; omega)
  have x0 : w1.cell? ⟨w.heap.size, 0, none⟩ = some (.slice s.pA s.ps.length s.pc) := HX.out.cell 0
  have x1 : w1.cell? ⟨w.heap.size, 1, none⟩ = some (.slice s.rA s.rs.length s.rc) := HX.out.cell 1
  have y0 : w1.cell? ⟨w.heap.size + 1, 0, none⟩ = some (.slice t.pA t.ps.length t.pc) := HY.out.cell 0
  have y1 : w1.cell? ⟨w.heap.size + 1, 1, none⟩ = some (.slice t.rA t.rs.length t.rc) := HY.out.cell 1
  have l2 : (ldCf (.pointer (some ⟨w.heap.size, 2, none⟩))).run Tryd.prog w1 = .ok (.agg (cfgV s.ep s.mA s.ms.length s.mc)) w1 := range_cf (Box.range_mid (pre := [.slice s.pA s.ps.length s.pc, .slice s.rA s.rs.length s.rc]) (mid := (cfgV s.ep s.mA s.ms.length s.mc).toList) (post := []) HX.out rfl)
  have l3 : (ldCf (.pointer (some ⟨w.heap.size + 1, 2, none⟩))).run Tryd.prog w1 = .ok (.agg (cfgV t.ep t.mA t.ms.length t.mc)) w1 := range_cf (Box.range_mid (pre := [.slice t.pA t.ps.length t.pc, .slice t.rA t.rs.length t.rc]) (mid := (cfgV t.ep t.mA t.ms.length t.mc).toList) (post := []) HY.out rfl)
  have HSB : Hid (sameB s.ep s.ms t.ep t.ms = true) := Lib.hid (by rw [e2, e4]; unfold sameB; simp)
  rw [HSB.out] at HCM
  rw [e1] at y0
  rw [hlr] at y1
  have HEP := Lib.hid e1
  have HLR := Lib.hid hlr
  have HCC : Hid (∀ w', Below w1.heap.size w1 w' → w'.cell? ⟨w.heap.size, 0, none⟩ = some (.slice s.pA s.ps.length s.pc) ∧ w'.cell? ⟨w.heap.size + 1, 0, none⟩ = some (.slice t.pA s.ps.length t.pc) ∧ w'.cell? ⟨w.heap.size, 1, none⟩ = some (.slice s.rA s.rs.length s.rc) ∧ w'.cell? ⟨w.heap.size + 1, 1, none⟩ = some (.slice t.rA s.rs.length t.rc)) := Lib.hid (fun w' hb => ⟨(HX.out.below hb HX.out.lt).cell 0, by rw [← e1]; exact (HY.out.below hb HY.out.lt).cell 0, (HX.out.below hb HX.out.lt).cell 1, by rw [← hlr]; exact (HY.out.below hb HY.out.lt).cell 1⟩)
  have n1 : ((s.ps.length : Int) != (s.ps.length : Int)) = false := by simp
  have n2 : ((s.rs.length : Int) != (s.rs.length : Int)) = false := by simp
  clear hS hT hp hfit e1 e2 e3 e4 hlr HX HY
  go_enter Tryd.func11, Tryd.ntmps11
  go_upto_region 1 with fail
  change Code.wp _ _ _ _ ((w.alloc (.cells s.cells 37)).alloc (.cells t.cells 37))
  rw [← hw1]
  clear hw1
  go_upto_region 3 with (go_at_call 26; (with_reducible refine (HCM.out).mono ?_); rintro e w2 ⟨rfl, hb2⟩; have HB2 := Lib.hid hb2; clear hb2)
  clear HCM x0 x1 y0 y1 l2 l3 n1 n2
  have x0 := (HCC.out w2 HB2.out).1
  go_wp2
  clear x0
  go_loopw [34] (fun i wr => ∃ k : Nat, k ≤ s.ps.length ∧ i = .int .i64 (k : Int) ∧ Hid (Below w1.heap.size w1 wr)) (fun i _ => s.ps.length - (intOf i).toNat)
  case atStart => exact ⟨0, Nat.zero_le _, rfl, HB2⟩
  case round =>
    obtain ⟨k, hk, rfl, HW⟩ := hrel
    by_cases hlt : k < s.ps.length
    · have HLT := Lib.hid hlt
      obtain ⟨g, o, hA, _, hr⟩ := EK.See.range (EK.See.far HS.out.ps HW.out) hlt
      have hTp := EK.See.far HT.out.ps HW.out
      rw [HEP.out] at hTp
      obtain ⟨g', o', hA', _, hr'⟩ := EK.See.range hTp hlt
      have lk : (ldPr (.pointer (some ⟨g, o + k * 2, none⟩))).run Tryd.prog wr = .ok (.agg #[.string (s.ps[k]'hlt).key, .string (s.ps[k]'hlt).val]) wr := range_pr (hr k hlt)
      have lk' : (ldPr (.pointer (some ⟨g', o' + k * 2, none⟩))).run Tryd.prog wr = .ok (.agg #[.string (s.ps[k]'hlt).key, .string (s.ps[k]'hlt).val]) wr := range_pr (hr' k hlt)
      obtain ⟨x0, y0, _, _⟩ := HCC.out wr HW.out
      rw [hA] at x0
      rw [hA'] at y0
      have i1 : (k : Int) < (s.ps.length : Int) := by omega
      have i0 : (0 : Int) ≤ (k : Int) := by omega
      have wk : IntKind.i64.wrap ((k : Int) + 1) = ((k + 1 : Nat) : Int) := by rw [IntKind.wrap_i64]; have := HPN.out.1; omega
      have heq := eq_pr_self (s.ps[k]'hlt).key (s.ps[k]'hlt).val
      have HR1 : Hid (∀ j v, (#[Value.string (s.ps[k]'hlt).key, .string (s.ps[k]'hlt).val] : Array Value).toList[j]? = some v → wr.cell? ⟨g, o + k * 2 + j, none⟩ = some v) := Lib.hid (hr k hlt)
      have HR2 : Hid (∀ j v, (#[Value.string (s.ps[k]'hlt).key, .string (s.ps[k]'hlt).val] : Array Value).toList[j]? = some v → wr.cell? ⟨g', o' + k * 2 + j, none⟩ = some v) := Lib.hid (hr' k hlt)
      generalize (s.ps[k]'hlt).key = kx at *
      generalize (s.ps[k]'hlt).val = vx at *
      have LQ := Lib.hid (fun d os => range_pr (w := grow (redrawn wr d) os) (g := g) (o := o + k * 2) (ky := kx) (vl := vx) (fun j v hv => cell_regrown (HR1.out j v hv) d os))
      have LQ' := Lib.hid (fun d os => range_pr (w := grow (redrawn wr d) os) (g := g') (o := o' + k * 2) (ky := kx) (vl := vx) (fun j v hv => cell_regrown (HR2.out j v hv) d os))
      have X0 := Lib.hid (fun d os => cell_regrown x0 d os)
      have Y0 := Lib.hid (fun d os => cell_regrown y0 d os)
      clear hr hr' hA hA' hTp HR1 HR2 x0 y0 lk lk'
      go_upto_region 6 with fail
      have q1 := LQ.out
      have q2 := LQ'.out
      have q3 := X0.out
      have q4 := Y0.out
      refine wp_region_quiet_below (by kernel_rfl) (by kernel_rfl) ?_
      repeat (quiet_step (fail))
      refine wpQuiet_nil ?_
      intro _ hw'
      obtain ⟨⟨dq, osq⟩, hw''⟩ := hw'
      subst hw''
      clear q1 q2 q3 q4 LQ LQ' X0 Y0
      have HW2 := Lib.hid (HW.out.trans ((below_regrown wr dq osq).mono HW.out.size))
      generalize grow (redrawn wr dq) osq = w6 at *
      go_wp2
      go_roundw
      case rel => exact ⟨k + 1, HLT.out, by go_num, HW2⟩
      case measure => have := HLT.out; simp [intOf]; omega
    · have i1 : ¬ (k : Int) < (s.ps.length : Int) := by omega
      have x1 := (HCC.out wr HW.out).2.2.1
      clear hk
      go_wp2
      clear x1 i1 hlt
      go_loopw [52] (fun i wr => ∃ k : Nat, k ≤ s.rs.length ∧ i = .int .i64 (k : Int) ∧ Hid (Below w1.heap.size w1 wr)) (fun i _ => s.rs.length - (intOf i).toNat)
      case atStart => exact ⟨0, Nat.zero_le _, rfl, HW⟩
      case round =>
        obtain ⟨k2, hk2, rfl, HW2⟩ := hrel
        by_cases hlt : k2 < s.rs.length
        · have HLT := Lib.hid hlt
          have hlt' : k2 < t.rs.length := by have := HLR.out; omega
          obtain ⟨g, o, hA, _, hr⟩ := EK.See.range (EK.See.far HS.out.rs HW2.out) hlt
          obtain ⟨g', o', hA', _, hr'⟩ := EK.See.range (EK.See.far HT.out.rs HW2.out) hlt'
          obtain ⟨_, _, x1, y1⟩ := HCC.out wr HW2.out
          rw [hA] at x1
          rw [hA'] at y1
          have i1 : (k2 : Int) < (s.rs.length : Int) := by omega
          have i0 : (0 : Int) ≤ (k2 : Int) := by omega
          have wk : IntKind.i64.wrap ((k2 : Int) + 1) = ((k2 + 1 : Nat) : Int) := by rw [IntKind.wrap_i64]; have := HPN.out.2; omega
          have hr1 : ∀ j v, (repv (s.rs[k2]'hlt).x.client (s.rs[k2]'hlt).x.num (s.rs[k2]'hlt).x.code (s.rs[k2]'hlt).A (s.rs[k2]'hlt).x.vals.length (s.rs[k2]'hlt).z).toList[j]? = some v → wr.cell? ⟨g, o + k2 * 4 + j, none⟩ = some v := hr k2 hlt
          have hr2 : ∀ j v, (repv (t.rs[k2]'hlt').x.client (t.rs[k2]'hlt').x.num (t.rs[k2]'hlt').x.code (t.rs[k2]'hlt').A (t.rs[k2]'hlt').x.vals.length (t.rs[k2]'hlt').z).toList[j]? = some v → wr.cell? ⟨g', o' + k2 * 4 + j, none⟩ = some v := hr' k2 hlt'
          have hv1 := EK.See.far (HS.out.vals _ (List.getElem_mem hlt)) HW2.out
          have hv2 := EK.See.far (HT.out.vals _ (List.getElem_mem hlt')) HW2.out
          rw [HXE.out k2 hlt hlt'] at hr2 hv2
          have hvl := HRL.out k2 hlt
          generalize (s.rs[k2]'hlt).x = rx at *
          generalize (s.rs[k2]'hlt).A = rA1 at *
          generalize (s.rs[k2]'hlt).z = rz1 at *
          generalize (t.rs[k2]'hlt').A = rA2 at *
          generalize (t.rs[k2]'hlt').z = rz2 at *
          have HCS : Hid (∀ d os, Calls Tryd.prog 27 #[.agg (repv rx.client rx.num rx.code rA1 rx.vals.length rz1), .agg (repv rx.client rx.num rx.code rA2 rx.vals.length rz2)] (grow (redrawn wr d) os) fun e w'' => e = .returned (.bool true) ∧ ∃ p : Regrown, w'' = grow (redrawn wr p.d) p.os) := Lib.hid (fun d os => Calls.regrown_of (by
            have h1 := EK.See.far hv1 (below_regrown wr d os)
            have h2 := EK.See.far hv2 (below_regrown wr d os)
            unfold EK.See at h1 h2
            rw [SK_flat] at h1 h2
            have h3 := rsame_any9 rx.client rx.num rx.code rA1 rx.vals rz1 rx.client rx.num rx.code rA2 rx.vals rz2 (by unfold maxLen; omega) (by unfold maxLen; omega) _ h1 h2
            rw [same9_self] at h3
            exact h3))
          have LQ := Lib.hid (fun d os => range_rp (w := grow (redrawn wr d) os) (g := g) (o := o + k2 * 4) (c := rx.client) (n := rx.num) (k := rx.code) (A := rA1) (m := rx.vals.length) (z := rz1) (fun j v hv => cell_regrown (hr1 j v hv) d os))
          have LQ' := Lib.hid (fun d os => range_rp (w := grow (redrawn wr d) os) (g := g') (o := o' + k2 * 4) (c := rx.client) (n := rx.num) (k := rx.code) (A := rA2) (m := rx.vals.length) (z := rz2) (fun j v hv => cell_regrown (hr2 j v hv) d os))
          have X0 := Lib.hid (fun d os => cell_regrown x1 d os)
          have Y0 := Lib.hid (fun d os => cell_regrown y1 d os)
          have i2 : (k2 : Int) < (s.rs.length : Int) := i1
          clear hr hr' hA hA' hr1 hr2 hv1 hv2 hvl x1 y1
          go_upto_region 12 with fail
          have q1 := LQ.out
          have q2 := LQ'.out
          have q3 := X0.out
          have q4 := Y0.out
          refine wp_region_quiet_below (by kernel_rfl) (by kernel_rfl) ?_
          repeat (quiet_step ((go_at_call 27; with_reducible exact HCS.out _ _)))
          refine wpQuiet_nil ?_
          intro _ hw'
          obtain ⟨⟨dq, osq⟩, hw''⟩ := hw'
          subst hw''
          clear q1 q2 q3 q4 LQ LQ' X0 Y0 HCS
          have HW3 := Lib.hid (HW2.out.trans ((below_regrown wr dq osq).mono HW2.out.size))
          generalize grow (redrawn wr dq) osq = w6 at *
          go_wp2
          go_roundw
          case rel => exact ⟨k2 + 1, HLT.out, by go_num, HW3⟩
          case measure => have := HLT.out; simp [intOf]; omega
        · have i1 : ¬ (k2 : Int) < (s.rs.length : Int) := by omega
          clear hk2
          go_wp2
          go_ret
          exact ⟨rfl, HF.out.trans (HW2.out.mono HF.out.size)⟩
end Go.Proofs.YtlogceoeodjeoaaDoor
