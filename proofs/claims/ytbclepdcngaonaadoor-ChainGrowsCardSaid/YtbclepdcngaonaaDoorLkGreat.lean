/-
  Whether what is played is great: wapentakelaw15.great; what is known of what isn't.
-/
import Derived.Test.YtbclepdcngaonaaDoorLkStep
import Derived.Test.YtbclepdcngaonaaDoorEB
namespace Go.Proofs.YtbclepdcngaonaaDoor
open Go.RowKit Go.Maps Go.Sort

/-- A link of lists that can be. -/
structure LkLim (l : LkM) : Prop where
  len : l.b.x.reqs.length ≤ 140737488351232
  txt : ∀ q ∈ l.b.x.reqs, q.key.size ≤ 140737488351232 ∧ q.val.size ≤ 140737488351232 ∧ q.old.size ≤ 140737488351232
/-- What is played when it isn't great. -/
structure LkSmall (l : LkM) : Prop where
  mem : l.ms.length ≤ 20
  len : l.vs.length ≤ 12
  blk : Few14 l.b.x
  few : ∀ m ∈ l.vs, VFew m.x
structure LSmall (ms : List MemX) (ls : List LkM) : Prop where
  mem : ms.length ≤ 20
  len : ls.length ≤ 6
  each : ∀ l ∈ ls, LkSmall l
set_option maxRecDepth 100000 in
theorem few_small15 {x : BlkX} (h : Few14 x) : Small12 x := ⟨by have := h.len; omega, fun q hq => by have := h.txt q hq; omega⟩
set_option maxRecDepth 100000 in
theorem LkSmall.lk {l : LkM} (h : LkSmall l) : LkFew l := ⟨by have := h.mem; omega, few_small15 h.blk, by have := h.len; omega⟩
def GreatL (ms : List MemX) (ls : List LkM) (w : World) (e : Ending) (w' : World) : Prop := ∃ g : Bool, e = .returned (.bool g) ∧ (g = false → LSmall ms ls) ∧ Below w.heap.size w w'
set_option maxRecDepth 100000 in
theorem GreatL.yes {ms : List MemX} {ls : List LkM} {w w' : World} (h : Below w.heap.size w w') : GreatL ms ls w (.returned (.bool true)) w' := ⟨true, rfl, fun h => (by cases h), h⟩

attribute [local go_sem ↓] ldCf_def ldBlk_def ldCt_def ldLk_def stLk_def alLk_def ldVt_def stVt_def alVt14_def
set_option maxRecDepth 100000 in
set_option maxHeartbeats 16000000 in
theorem lgreat_any (ms : List MemX) (ep : Int) (AM : Option Addr) (cM : Nat) (ls : List LkM) (hlim : ∀ l ∈ ls, LkLim l) (A : Option Addr) (c : Nat) (w : World) (hL : LksSee w A ls) :
    Calls Tryd.prog 6 #[.agg (cfgV ep AM ms.length cM), .slice A ls.length c] w (GreatL ms ls w) := by
  obtain ⟨w1, hw1⟩ : ∃ w1, w1 = w.alloc (.cells (cfgV ep AM ms.length cM) 24) := ⟨_, rfl⟩
  have hX : Box w1 w.heap.size 24 (cfgV ep AM ms.length cM) := by rw [hw1]; exact Box.made w _ _
  have HF : Hid (Below w.heap.size w w1) := by rw [hw1]; exact (Below.refl _ _).alloc (Nat.le_refl _) _
  have c1 : w1.cell? ⟨w.heap.size, 1, none⟩ = some (.slice AM ms.length cM) := hX.cell 1
  have HL1 := Lib.hid (hL.call HF.out)
  have HLIM := Lib.hid hlim
  clear hX hlim hL
  go_enter Tryd.func6, Tryd.ntmps6
  go_upto_region 1 with fail
  change Code.wp _ _ _ _ (w.alloc (.cells (cfgV ep AM ms.length cM) 24))
  rw [← hw1]
  clear hw1
  by_cases h20 : 20 < ms.length
  · have e1 : decide ((20 : Int) < (ms.length : Int)) = true := decide_eq_true (by omega)
    go_wp2
    go_ret
    exact GreatL.yes HF.out
  have e1 : decide ((20 : Int) < (ms.length : Int)) = false := decide_eq_false (by omega)
  have H20 : Hid (ms.length ≤ 20) := Lib.hid (by omega)
  clear h20
  by_cases h6 : 6 < ls.length
  · have e2 : decide ((6 : Int) < (ls.length : Int)) = true := decide_eq_true (by omega)
    go_wp2
    go_ret
    exact GreatL.yes HF.out
  have e2 : decide ((6 : Int) < (ls.length : Int)) = false := decide_eq_false (by omega)
  have H6 : Hid (ls.length ≤ 6) := Lib.hid (by omega)
  have HEND : Hid ((∀ l ∈ ls, LkSmall l) → LSmall ms ls) := Lib.hid (fun h => ⟨H20.out, H6.out, h⟩)
  clear h6
  go_wp2
  clear c1 e1 e2
  generalize cfgV ep AM ms.length cM = CF at *
  generalize ms.length = mN at *
  go_loopw [20] (fun i wr => ∃ k : Nat, k ≤ ls.length ∧ i = .int .i64 (k : Int) ∧ Hid (Below w1.heap.size w1 wr) ∧ Hid (∀ j (h : j < ls.length), j < k → LkSmall (ls[j]'h))) (fun i _ => ls.length - (intOf i).toNat)
  case atStart => exact ⟨0, Nat.zero_le _, rfl, Lib.hid (Below.refl _ _), Lib.hid (fun j h h2 => by omega)⟩
  case round =>
    obtain ⟨k, hk, rfl, HW, HI⟩ := hrel
    by_cases hlt : k < ls.length
    rotate_left
    · have i1 : ¬ (k : Int) < (ls.length : Int) := by omega
      have HEE : Hid (LSmall ms ls) := Lib.hid (HEND.out (fun m hm => by
        obtain ⟨j, hj, rfl⟩ := List.getElem_of_mem hm
        exact HI.out j hj (by omega)))
      go_wp2
      go_ret
      exact ⟨false, rfl, fun _ => HEE.out, HF.out.trans (HW.out.mono HF.out.size)⟩
    have i1 : (k : Int) < (ls.length : Int) := by omega
    have i0 : (0 : Int) ≤ (k : Int) := by omega
    have HLR := Lib.hid (HL1.out.call HW.out)
    obtain ⟨g, o, hA, hll⟩ := row_link HLR.out.row hlt
    have lk := hll wr (Below.refl _ _)
    have HYE : Hid (LkSmall (ls[k]'hlt) → ∀ j (h : j < ls.length), j < k + 1 → LkSmall (ls[j]'h)) := Lib.hid (fun h j hj hjk => by
      by_cases e : j = k
      · subst e
        exact h
      · exact HI.out j hj (by omega))
    have HSE := Lib.hid (HLR.out.each _ (List.getElem_mem hlt))
    have HLM := Lib.hid (HLIM.out _ (List.getElem_mem hlt))
    have HLT := Lib.hid hlt
    clear hll HI HLR hk
    rw [hA]
    generalize ls[k]'hlt = l at *
    obtain ⟨w8, hst8, hb8, hbl8⟩ := laid_lk wr l
    have HX8 := Lib.hid hb8
    have HW8 := Lib.hid (HW.out.trans (hbl8.mono HW.out.size))
    have hav := al_lk wr
    have wk : IntKind.i64.wrap ((k : Int) + 1) = ((k + 1 : Nat) : Int) := by rw [IntKind.wrap_i64]; have := H6.out; omega
    have d1 : w8.cell? ⟨wr.heap.size, 102, none⟩ = some (.slice l.M l.ms.length l.m) := Box.lk_102 l.b.cells_len hb8
    have d2 : w8.cell? ⟨wr.heap.size, 100, none⟩ = some (.slice l.A l.vs.length l.c) := Box.lk_100 l.b.cells_len hb8
    have lb : (ldBlk (.pointer (some ⟨wr.heap.size, 0, none⟩))).run Tryd.prog w8 = .ok (.agg l.b.cells.toArray) w8 := Box.lk_blk hb8
    have HG := Lib.hid (great_any14 l.b HLM.out.len HLM.out.txt w8 (HSE.out.call hbl8).blk)
    have HV8 := Lib.hid (HSE.out.call hbl8).vts
    clear hb8 hbl8 HLM HSE HW hlt
    generalize wr.heap.size = g10 at *
    by_cases hm : 20 < l.ms.length
    · have e1 : decide ((20 : Int) < (l.ms.length : Int)) = true := decide_eq_true (by omega)
      go_wp2
      go_ret
      exact GreatL.yes (HF.out.trans (HW8.out.mono HF.out.size))
    have e1 : decide ((20 : Int) < (l.ms.length : Int)) = false := decide_eq_false (by omega)
    have HMM : Hid (l.ms.length ≤ 20) := Lib.hid (by omega)
    clear hm
    by_cases h12 : 12 < l.vs.length
    · have e2 : decide ((12 : Int) < (l.vs.length : Int)) = true := decide_eq_true (by omega)
      go_wp2
      go_ret
      exact GreatL.yes (HF.out.trans (HW8.out.mono HF.out.size))
    have e2 : decide ((12 : Int) < (l.vs.length : Int)) = false := decide_eq_false (by omega)
    have H12 : Hid (l.vs.length ≤ 12) := Lib.hid (by omega)
    clear h12
    go_upto_region 6 with fail
    clear hst8 lk hav
    go_wp2_with fail
    refine (HG.out).mono ?_
    rintro e w9 ⟨gb, rfl, hg, hb⟩
    have HB9 := Lib.hid (HW8.out.trans (hb.mono HW8.out.size))
    have HV9 := Lib.hid (EK.See.far HV8.out hb)
    have d2 : w9.cell? ⟨g10, 100, none⟩ = some (.slice l.A l.vs.length l.c) := Box.lk_100 l.b.cells_len (HX8.out.below hb HX8.out.lt)
    clear hb HG HV8 d1 lb
    cases gb with
    | true =>
      go_wp2
      go_ret
      exact GreatL.yes (HF.out.trans (HB9.out.mono HF.out.size))
    | false =>
    have HFW := Lib.hid (hg rfl)
    have HLK : Hid ((∀ m ∈ l.vs, VFew m.x) → LkSmall l) := Lib.hid (fun h => ⟨HMM.out, H12.out, HFW.out, h⟩)
    clear hg HX8 HW8
    go_wp2
    clear d2 e1 e2
    go_loopw [45] (fun i wr => ∃ k2 : Nat, k2 ≤ l.vs.length ∧ i = .int .i64 (k2 : Int) ∧ Hid (Below w9.heap.size w9 wr) ∧ Hid (∀ j (h : j < l.vs.length), j < k2 → VFew (l.vs[j]'h).x)) (fun i _ => l.vs.length - (intOf i).toNat)
    case atStart => exact ⟨0, Nat.zero_le _, rfl, Lib.hid (Below.refl _ _), Lib.hid (fun j h h2 => by omega)⟩
    case round =>
      obtain ⟨k2, hk2, rfl, HW2, HI2⟩ := hrel
      by_cases hlt2 : k2 < l.vs.length
      rotate_left
      · have i2 : ¬ (k2 : Int) < (l.vs.length : Int) := by omega
        have HY2 := Lib.hid (HYE.out (HLK.out (fun m hm => by
          obtain ⟨j, hj, rfl⟩ := List.getElem_of_mem hm
          exact HI2.out j hj (by omega))))
        have HW3 := Lib.hid (HB9.out.trans (HW2.out.mono HB9.out.size))
        go_wp2
        go_roundw
        case rel => exact ⟨k + 1, HLT.out, by go_num, HW3, HY2⟩
        case measure => have := HLT.out; simp [intOf]; omega
      have i2 : (k2 : Int) < (l.vs.length : Int) := by omega
      have i3 : (0 : Int) ≤ (k2 : Int) := by omega
      obtain ⟨g, o, hA, hlv⟩ := row_vote (EK.See.far HV9.out HW2.out) hlt2
      have lv := hlv wr (Below.refl _ _)
      have HY3 : Hid (VFew (l.vs[k2]'hlt2).x → ∀ j (h : j < l.vs.length), j < k2 + 1 → VFew (l.vs[j]'h).x) := Lib.hid (fun h j hj hjk => by
        by_cases e : j = k2
        · subst e
          exact h
        · exact HI2.out j hj (by omega))
      have HLT2 := Lib.hid hlt2
      clear hlv
      rw [hA]
      generalize l.vs[k2]'hlt2 = m at *
      obtain ⟨w8, hst8, hb8, hbl8⟩ := laid_vt wr m
      have HW8 := Lib.hid (HW2.out.trans (hbl8.mono HW2.out.size))
      have HWA := Lib.hid (HB9.out.trans (HW8.out.mono HB9.out.size))
      have hav := al_vt14
      have wk2 : IntKind.i64.wrap ((k2 : Int) + 1) = ((k2 + 1 : Nat) : Int) := by rw [IntKind.wrap_i64]; have := H12.out; omega
      have d1 : w8.cell? ⟨wr.heap.size, 38, none⟩ = some (.slice m.A m.x.opn.length m.a) := hb8.vt_38 m.x.len
      have d2 : w8.cell? ⟨wr.heap.size, 39, none⟩ = some (.slice m.B m.x.sht.length m.b) := hb8.vt_39 m.x.len
      have d3 : w8.cell? ⟨wr.heap.size, 40, none⟩ = some (.slice m.C m.x.pth.length m.c) := hb8.vt_40 m.x.len
      have HFV : Hid (m.x.opn.length ≤ 200 → m.x.sht.length ≤ 200 → m.x.pth.length ≤ 200 → VFew m.x) := Lib.hid (fun h1 h2 h3 => ⟨h1, h2, h3⟩)
      clear hb8 hbl8
      generalize m.x.opn.length = z1 at *
      generalize m.x.sht.length = z2 at *
      generalize m.x.pth.length = z3 at *
      by_cases g1 : 200 < z1
      · have e1 : decide ((200 : Int) < (z1 : Int)) = true := decide_eq_true (by omega)
        go_wp2
        go_ret
        exact GreatL.yes (HF.out.trans (HWA.out.mono HF.out.size))
      have e1 : decide ((200 : Int) < (z1 : Int)) = false := decide_eq_false (by omega)
      by_cases g2 : 200 < z2
      · have e2 : decide ((200 : Int) < (z2 : Int)) = true := decide_eq_true (by omega)
        go_wp2
        go_ret
        exact GreatL.yes (HF.out.trans (HWA.out.mono HF.out.size))
      have e2 : decide ((200 : Int) < (z2 : Int)) = false := decide_eq_false (by omega)
      by_cases g3 : 200 < z3
      · have e3 : decide ((200 : Int) < (z3 : Int)) = true := decide_eq_true (by omega)
        go_wp2
        go_ret
        exact GreatL.yes (HF.out.trans (HWA.out.mono HF.out.size))
      have e3 : decide ((200 : Int) < (z3 : Int)) = false := decide_eq_false (by omega)
      have HY4 := Lib.hid (HY3.out (HFV.out (by omega) (by omega) (by omega)))
      clear HY3 HFV
      go_wp2
      go_roundw
      case rel => exact ⟨k2 + 1, HLT2.out, by go_num, HW8, HY4⟩
      case measure => have := HLT2.out; simp [intOf]; omega
end Go.Proofs.YtbclepdcngaonaaDoor
