/-
  Whether a link leads: chain.Step. Written by gen_lkstep.py.
-/
import Derived.Test.YtbclepdcngaonaaDoorLkKit
import Derived.Test.YtbclepdcngaonaaDoorLkDgt
import Derived.Test.YtbclepdcngaonaaDoorEB
namespace Go.Proofs.YtbclepdcngaonaaDoor
open Go.RowKit Go.Maps Go.Sort

/-- What a link is answered, from a configuration on, behind a height. -/
def stepN (ep : Int) (ms : List MemX) (h : Int) (x : LkX) : Int :=
  if (decide (x.b.height ≤ h) || (!goodB x.ep x.ms || decide (x.ep ≤ ep))) = true then 12 else if certB ep ms x.b x.r x.vs = false then 10 else if cfgD x.ep x.ms = x.b.next then 0 else 13
/-- A link of few things. -/
structure LkFew (l : LkM) : Prop where
  mem : l.ms.length ≤ 1000000
  blk : Small12 l.b.x
  len : l.vs.length ≤ 1000000

set_option maxRecDepth 100000 in
theorem neq_digest15 (xs ys : List UInt8) (h1 : xs.length = 32) (h2 : ys.length = 32) (w : World) : (eqDigest (.agg (xs.map bv).toArray) (.agg (ys.map bv).toArray)).run Tryd.prog w = .ok (decide (xs = ys)) w := eq_digest xs ys h1 h2 w

attribute [local go_sem ↓] ldCf_def ldBlk_def ldCt_def ldLk_def ldDigest_def eqDigest_def
set_option maxRecDepth 100000 in
set_option maxHeartbeats 8000000 in
theorem step_any15 (ep : Int) (ms : List MemX) (AM : Option Addr) (cM : Nat) (hn : ms.length ≤ 1099511627776) (h : Int) (l : LkM) (hf : LkFew l) (w : World) (hM : Mems w w.heap.size AM ms) (hL : LkSee w l) (hR : Roots w) :
    Calls Tryd.prog 9 #[.agg (cfgV ep AM ms.length cM), .int .i64 h, .agg l.cells.toArray] w fun e w' => e = .returned (.int .i64 (stepN ep ms h l.x)) ∧ Below w.heap.size w w' := by
  obtain ⟨w1, hw1⟩ : ∃ w1, w1 = (w.alloc (.cells (cfgV ep AM ms.length cM) 24)).alloc (.cells l.cells.toArray 40) := ⟨_, rfl⟩
  have hX : Box w1 w.heap.size 24 (cfgV ep AM ms.length cM) := by rw [hw1]; exact (Box.made w _ _).alloc _
  have hY : Box w1 (w.heap.size + 1) 40 (lkL l.b.cells l.r (.slice l.A l.vs.length l.c) l.ep (.slice l.M l.ms.length l.m)).toArray := by rw [hw1]; exact Box.made_at (by simp) _ _
  have HF : Hid (Below w.heap.size w w1) := by rw [hw1]; exact ((Below.refl _ _).alloc (Nat.le_refl _) _).alloc (by simp) _
  have HC : Hid (∀ w', Below w1.heap.size w1 w' → (ldCf (.pointer (some ⟨w.heap.size, 0, none⟩))).run Tryd.prog w' = .ok (.agg (cfgV ep AM ms.length cM)) w' ∧ w'.cell? ⟨w.heap.size, 0, none⟩ = some (.int .i64 ep) ∧ w'.cell? ⟨w.heap.size + 1, 1, none⟩ = some (.int .i64 l.b.x.height) ∧ (ldCf (.pointer (some ⟨w.heap.size + 1, 101, none⟩))).run Tryd.prog w' = .ok (.agg (cfgV l.ep l.M l.ms.length l.m)) w' ∧ w'.cell? ⟨w.heap.size + 1, 101, none⟩ = some (.int .i64 l.ep) ∧ (ldBlk (.pointer (some ⟨w.heap.size + 1, 0, none⟩))).run Tryd.prog w' = .ok (.agg l.b.cells.toArray) w' ∧ (ldCt (.pointer (some ⟨w.heap.size + 1, 99, none⟩))).run Tryd.prog w' = .ok (.agg (crtV l.r l.A l.vs.length l.c)) w' ∧ (ldDigest (.pointer (some ⟨w.heap.size + 1, 66, none⟩))).run Tryd.prog w' = .ok (.agg (l.b.x.next.map bv).toArray) w') := Lib.hid (fun w' hb => by
    have hx := hX.below hb hX.lt
    have hy := hY.below hb hY.lt
    exact ⟨hx.l_cf, hx.cell 0, hy.lk_1, hy.lk_cf l.b.cells_len, hy.lk_101 l.b.cells_len, hy.lk_blk, hy.lk_ct l.b.cells_len, range_load hy.lk_next l.b.x.ln⟩)
  have HR1 := Lib.hid (hR.of_below HF.out)
  have HL1 := Lib.hid (hL.call HF.out)
  have HM1 := Lib.hid (hM.far HF.out)
  have HGC : Hid (∀ w', Below w1.heap.size w1 w' → Calls Tryd.prog 11 #[.agg (cfgV l.ep l.M l.ms.length l.m)] w' fun e w'' => e = .returned (.bool (goodB l.ep l.ms)) ∧ Below w'.heap.size w' w'') := Lib.hid (fun w' hb => good_any8 l.ms l.ep l.M l.m (Nat.le_trans hf.mem (by simp [maxLen])) w' (HL1.out.mem.far hb))
  have HCK : Hid (∀ w', Below w1.heap.size w1 w' → Calls Tryd.prog 13 #[.agg (cfgV ep AM ms.length cM), .agg l.b.cells.toArray, .agg (crtV l.r l.A l.vs.length l.c)] w' fun e w'' => e = .returned (.bool (certB ep ms l.b.x l.r (l.vs.map VtM.x))) ∧ Below w'.heap.size w' w'') := Lib.hid (fun w' hb =>
    ccheck_any ms ep AM cM hn l.b hf.blk l.r l.vs l.A l.c hf.len w' (HM1.out.far hb) (HL1.out.call hb).blk (HL1.out.call hb).vts (HL1.out.call hb).sgs (HR1.out.of_below hb))
  have HDG : Hid (∀ w', Below w1.heap.size w1 w' → Calls Tryd.prog 14 #[.agg (cfgV l.ep l.M l.ms.length l.m)] w' fun e w'' => e = .returned (.agg ((cfgD l.ep l.ms).map bv).toArray) ∧ Below w'.heap.size w' w'') := Lib.hid (fun w' hb => cfgdgt_any l.ep l.ms l.M l.m hf.mem w' (HL1.out.call hb).mem (HR1.out.of_below hb))
  have ed := eq_digest (cfgD l.ep l.ms) l.b.x.next (cfgD_len _ _) l.b.x.ln
  have HE : Hid (stepN ep ms h l.x = if (decide (l.b.x.height ≤ h) || (!goodB l.ep l.ms || decide (l.ep ≤ ep))) = true then 12 else if certB ep ms l.b.x l.r (l.vs.map VtM.x) = false then 10 else if decide (cfgD l.ep l.ms = l.b.x.next) = true then 0 else 13) := Lib.hid (by
    unfold stepN LkM.x
    simp only [decide_eq_true_eq])
  clear hX hY hn hf hM hL hR HR1 HL1 HM1
  generalize stepN ep ms h l.x = res at *
  generalize decide (cfgD l.ep l.ms = l.b.x.next) = dq at *
  generalize ((cfgD l.ep l.ms).map bv).toArray = P1 at *
  generalize (l.b.x.next.map bv).toArray = Q1 at *
  generalize goodB l.ep l.ms = g0 at *
  generalize certB ep ms l.b.x l.r (l.vs.map VtM.x) = g1 at *
  generalize cfgV ep AM ms.length cM = CF at *
  generalize cfgV l.ep l.M l.ms.length l.m = CL at *
  generalize crtV l.r l.A l.vs.length l.c = CT at *
  generalize l.b.cells.toArray = BC at *
  generalize l.b.x.height = hh at *
  generalize l.ep = el at *
  generalize l.cells.toArray = LC at *
  go_enter Tryd.func9, Tryd.ntmps9
  go_upto_region 1 with fail
  change Code.wp _ _ _ _ ((w.alloc (.cells CF 24)).alloc (.cells LC 40))
  rw [← hw1]
  clear hw1
  obtain ⟨_, k1, k2, k3, k4, _⟩ := HC.out w1 (Below.refl _ _)
  by_cases hh0 : hh ≤ h
  · have e1 : decide (hh ≤ h) = true := decide_eq_true hh0
    have HRS : Hid (res = 12) := Lib.hid (by rw [HE.out, e1]; rfl)
    clear HE
    go_wp2
    go_ret
    exact ⟨ret_val (congrArg (Value.int .i64) HRS.out.symm), HF.out⟩
  have e1 : decide (hh ≤ h) = false := decide_eq_false hh0
  have HG1 := Lib.hid (HGC.out w1 (Below.refl _ _))
  cases g0 with
  | false =>
    have HRS : Hid (res = 12) := Lib.hid (by rw [HE.out, e1]; rfl)
    clear HE
    go_wp2_with (go_at_call 11; (with_reducible refine (HG1.out).mono ?_); rintro e w2 ⟨rfl, hb⟩; have HB2 := Lib.hid hb; clear hb)
    go_ret
    exact ⟨ret_val (congrArg (Value.int .i64) HRS.out.symm), HF.out.trans (HB2.out.mono HF.out.size)⟩
  | true =>
  by_cases hep : el ≤ ep
  · have e2 : decide (el ≤ ep) = true := decide_eq_true hep
    have HRS : Hid (res = 12) := Lib.hid (by rw [HE.out, e1, e2]; rfl)
    clear HE
    go_wp2_with (go_at_call 11; (with_reducible refine (HG1.out).mono ?_); rintro e w2 ⟨rfl, hb⟩; have HB2 := Lib.hid hb; obtain ⟨_, j1, _, _, j4, _⟩ := HC.out w2 hb; clear hb)
    go_ret
    exact ⟨ret_val (congrArg (Value.int .i64) HRS.out.symm), HF.out.trans (HB2.out.mono HF.out.size)⟩
  have e2 : decide (el ≤ ep) = false := decide_eq_false hep
  cases g1 with
  | false =>
    have HRS : Hid (res = 10) := Lib.hid (by rw [HE.out, e1, e2]; rfl)
    clear HE
    go_wp2_with (first
      | (go_at_call 11; (with_reducible refine (HG1.out).mono ?_); rintro e w2 ⟨rfl, hb⟩; have HB2 := Lib.hid hb; obtain ⟨j0, j1, _, _, j4, j5, j6, _⟩ := HC.out w2 hb; have HK2 := Lib.hid (HCK.out w2 hb); clear hb)
      | (go_at_call 13; (with_reducible refine (HK2.out).mono ?_); rintro e w3 ⟨rfl, hb⟩; have HB3 := Lib.hid (HB2.out.trans (hb.mono HB2.out.size)); clear hb))
    go_ret
    exact ⟨ret_val (congrArg (Value.int .i64) HRS.out.symm), HF.out.trans (HB3.out.mono HF.out.size)⟩
  | true =>
  have HRS : Hid (res = if dq = true then 0 else 13) := Lib.hid (by rw [HE.out, e1, e2]; rfl)
  clear HE hh0 hep
  go_upto_region 5 with (first
    | (go_at_call 11; (with_reducible refine (HG1.out).mono ?_); rintro e w2 ⟨rfl, hb⟩; have HB2 := Lib.hid hb; obtain ⟨j0, j1, _, _, j4, j5, j6, _⟩ := HC.out w2 hb; have HK2 := Lib.hid (HCK.out w2 hb); clear hb)
    | (go_at_call 13; (with_reducible refine (HK2.out).mono ?_); rintro e w3 ⟨rfl, hb⟩; have HB3 := Lib.hid (HB2.out.trans (hb.mono HB2.out.size)); clear hb))
  clear k1 k2 k3 k4 j0 j1 j4 j5 j6 HK2 HG1 HCK HGC HB2
  obtain ⟨wd, hwd⟩ : ∃ wd, wd = w3.drew := ⟨_, rfl⟩
  have hbd : Below w1.heap.size w1 wd := by rw [hwd]; exact HB3.out.trans (((Below.refl _ _).drew).mono HB3.out.size)
  refine wp_region_held_drew (S := fun w' => Below w1.heap.size w1 w') (by kernel_rfl) (by rw [← hwd]; exact hbd) (fun hS => ?_)
  rw [← hwd] at hS ⊢
  clear hwd hbd
  (refine wpAnyH_take (i := 0) (v := .pointer (some ⟨w.heap.size + 1, 101, none⟩)) rfl (by kernel_rfl) (by kernel_rfl) (by kernel_rfl) (fun _ _ _ h => h) (Or.inl ⟨by kernel_rfl, fun w hSw => by go_simp⟩) hS ?_)
  (try simp only [Act.put])
  (refine wpAnyH_take (i := 1) (v := .agg CL) rfl (by kernel_rfl) (by kernel_rfl) (by kernel_rfl) (fun _ _ _ h => h) (Or.inl ⟨by kernel_rfl, fun w hSw => by have hc := (HC.out w hSw).2.2.2.1; go_simp⟩) hS ?_)
  (try simp only [Act.put])
  (refine wpAnyH_take (i := 3) (v := .pointer (some ⟨w.heap.size + 1, 0, none⟩)) rfl (by kernel_rfl) (by kernel_rfl) (by kernel_rfl) (fun _ _ _ h => h) (Or.inl ⟨by kernel_rfl, fun w hSw => by go_simp⟩) hS ?_)
  (try simp only [Act.put])
  (refine wpAnyH_take (i := 4) (v := .pointer (some ⟨w.heap.size + 1, 66, none⟩)) rfl (by kernel_rfl) (by kernel_rfl) (by kernel_rfl) (fun _ _ _ h => h) (Or.inl ⟨by kernel_rfl, fun w hSw => by go_simp⟩) hS ?_)
  (try simp only [Act.put])
  (refine wpAnyH_take (i := 5) (v := .agg Q1) rfl (by kernel_rfl) (by kernel_rfl) (by kernel_rfl) (fun _ _ _ h => h) (Or.inl ⟨by kernel_rfl, fun w hSw => by have hc := (HC.out w hSw).2.2.2.2.2.2.2; go_simp⟩) hS ?_)
  (try simp only [Act.put])
  refine wpAnyH_ready (rs := [2]) (by decide +kernel) (by simp) (AllReadyH.cons rfl (fun K hK => ?_) AllReadyH.nil)
  go_simp
  (go_at_call 14; (with_reducible refine (HDG.out _ hS).mono ?_); rintro e w4 ⟨rfl, hb⟩)
  refine hK.out _ _ (hS.trans (hb.mono hS.size)) (fun hS => ?_)
  clear hK K
  (try simp only [Act.put])
  clear hb
  (refine wpAnyH_take (i := 6) (v := .bool (!dq)) rfl (by kernel_rfl) (by kernel_rfl) (by kernel_rfl) (fun _ _ _ h => h) (Or.inl ⟨by kernel_rfl, fun w hSw => by have hc := ed w; go_simp⟩) hS ?_)
  (try simp only [Act.put])
  (refine wpAnyH_take (i := 7) (v := .bool (!dq)) rfl (by kernel_rfl) (by kernel_rfl) (by kernel_rfl) (fun _ _ _ h => h) (Or.inl ⟨by kernel_rfl, fun w hSw => by go_simp⟩) hS ?_)
  (try simp only [Act.put])
  refine wpAnyH_done (by kernel_rfl) ?_ _
  have HB9 := Lib.hid hS
  clear hS HDG ed
  go_simp
  cases dq with
  | true =>
    go_wp2
    go_ret
    exact ⟨ret_val (congrArg (Value.int .i64) HRS.out.symm), HF.out.trans (HB9.out.mono HF.out.size)⟩
  | false =>
    go_wp2
    go_ret
    exact ⟨ret_val (congrArg (Value.int .i64) HRS.out.symm), HF.out.trans (HB9.out.mono HF.out.size)⟩
end Go.Proofs.YtbclepdcngaonaaDoor
