/-
  StateOnce.
-/
import Derived.Test.YtbgbidgggjkmmaaGreatDoorStHeld
import Derived.Test.YtbgbidgggjkmmaaGreatDoorNH
namespace Go.Proofs.YtbgbidgggjkmmaaGreatDoor
open Go.RowKit Go.Sort

def asC (n : ReqX) (c : Int) : ReqX := { n with client := c }
set_option maxRecDepth 100000 in
theorem asC_good {n q : ReqX} (hn : reqGood n = true) (hq : reqGood q = true) : reqGood (asC n q.client) = true := by
  unfold reqGood asC at *
  simp only [Bool.and_eq_true, decide_eq_true_eq] at *
  exact ⟨⟨⟨hq.1.1.1, hn.1.1.2⟩, hn.1.2⟩, hn.2⟩
set_option maxRecDepth 100000 in
theorem asC_cells (n : ReqX) (c : Int) : n.cells.toArray.setIfInBounds 0 (.int .i64 c) = (asC n c).cells.toArray := by
  apply Array.ext'
  rw [Array.toList_setIfInBounds]
  rfl
set_option maxRecDepth 100000 in
theorem fits_len1 {s : StM} {n : Nat} (hf : s.pl.Fits n) (hn : n ≤ 1000) : s.ps.length ≤ 1300 ∧ s.rs.length ≤ 1300 ∧ ∀ r ∈ s.rs, r.x.vals.length ≤ 1300 := by
  have h1 : s.ps.length ≤ 300 + n := hf.ps
  have h2 : (s.rs.map RepM.x).length ≤ 300 + n := hf.rs
  rw [List.length_map] at h2
  exact ⟨by omega, by omega, fun r hr => by
    have := hf.vals r.x (List.mem_map_of_mem hr)
    omega⟩
set_option maxRecDepth 100000 in
theorem same9_to (r t : RepM) (hrt : r.x = t.x) (hl : r.x.vals.length ≤ 1500) (w : World) (h1 : SK.See w w.heap.size r.A r.x.vals) (h2 : SK.See w w.heap.size t.A t.x.vals) : Calls Tryz.prog 13 #[.agg (repv r.x.client r.x.num r.x.code r.A r.x.vals.length r.z), .agg (repv t.x.client t.x.num t.x.code t.A t.x.vals.length t.z)] w fun e w' => e = .returned (.bool true) ∧ Below w.heap.size w w' := by
  have h3 := rsame_any9 r.x.client r.x.num r.x.code r.A r.x.vals r.z t.x.client t.x.num t.x.code t.A t.x.vals t.z (by unfold maxLen; omega) (by rw [← hrt]; unfold maxLen; omega) w (sk_see h1) (sk_see h2)
  rw [← hrt, same9_self] at h3
  rw [← hrt]
  exact h3

attribute [local go_sem ↓] ldRp_def stRp_def ldSt_def stSt_def ldReq_def stReq_def bdReq_def ldPr_def stPr_def bsT_def

/-- Whether it is a request that the law asks of. -/
def OnceOk (q n : ReqX) : Prop := reqGood q = true ∧ reqGood n = true ∧ q.num < n.num

set_option maxRecDepth 100000 in
set_option maxHeartbeats 8000000 in
theorem once10_walk (s : StM) (q n : ReqX) (os : List ReqX) (A : Option Addr) (c : Nat) (w : World) (hz : s.Sz) (hqs : q.key.size ≤ 140737488351232 ∧ q.val.size ≤ 140737488351232 ∧ q.old.size ≤ 140737488351232) (hns : n.key.size ≤ 140737488351232 ∧ n.val.size ≤ 140737488351232 ∧ n.old.size ≤ 140737488351232) (hl : os.length ≤ 140737488351232) (hos : ∀ q ∈ os, q.key.size ≤ 140737488351232 ∧ q.val.size ≤ 140737488351232 ∧ q.old.size ≤ 140737488351232)
    (T : World → Prop) (hT : ∀ w', Below w.heap.size w w' → T w') (hop : ∀ o ∈ os, HopFor o T) (hopq : HopFor q T) (hopn : HopFor (asC n q.client) T) (hS : s.See w w.heap.size) (hO : QK.See w w.heap.size A os) :
    Calls Tryz.prog 4 #[.agg s.cells, .agg q.cells.toArray, .slice A os.length c, .agg n.cells.toArray] w fun e w' => e = .returned (.bool true) ∧ Below w.heap.size w w' := by
  obtain ⟨w1, hw1⟩ : ∃ w1, w1 = ((w.alloc (.cells s.cells 28)).alloc (.cells q.cells.toArray 56)).alloc (.cells n.cells.toArray 56) := ⟨_, rfl⟩
  have HX : Hid (Box w1 w.heap.size 28 s.cells) := by rw [hw1]; exact ((Box.made w _ _).alloc _).alloc _
  have HA : Hid (Box w1 (w.heap.size + 1) 56 q.cells.toArray) := by rw [hw1]; exact (Box.made_at (by simp) _ _).alloc _
  have HN : Hid (Box w1 (w.heap.size + 2) 56 n.cells.toArray) := by rw [hw1]; exact Box.made_at (by simp) _ _
  have HW : Hid (Below w.heap.size w w1) := by rw [hw1]; exact (((Below.refl _ _).alloc (Nat.le_refl _) _).alloc (by simp) _).alloc (by simp; omega) _
  have HS0 := Lib.hid hS
  have HO0 := Lib.hid hO
  have HT := Lib.hid hT
  have HHO := Lib.hid hop
  have HHQ := Lib.hid hopq
  have HHN := Lib.hid hopn
  clear hS hO hT hop hopq hopn
  go_enter Tryz.func4, Tryz.ntmps4
  go_upto_region 1 with fail
  change Code.wp _ _ _ _ (((w.alloc (.cells s.cells 28)).alloc (.cells q.cells.toArray 56)).alloc (.cells n.cells.toArray 56))
  rw [← hw1]
  clear hw1
  go_upto_region 3 with (go_at_call 5; (with_reducible refine (alive10_any _).mono ?_); rintro e w2 ⟨rfl, hb2⟩; replace HX := Lib.hid (HX.out.below hb2 HX.out.lt); replace HA := Lib.hid (HA.out.below hb2 HA.out.lt); replace HN := Lib.hid (HN.out.below hb2 HN.out.lt); replace HW := Lib.hid (HW.out.trans (hb2.mono HW.out.size)); clear hb2)
  have ls := HX.out.l_st
  have HG : Hid (Calls Tryz.prog 6 #[.agg s.cells, .slice A os.length c] w2 (GrtPost s os w2)) := Lib.hid (grt_any s hz os A c hl hos w2 (HS0.out.far HW.out) (EK.See.far HO0.out HW.out))
  have HGG : Hid (∀ w', Below w2.heap.size w2 w' → Calls Tryz.prog 6 #[.agg s.cells, .slice (some ⟨w'.heap.size, 0, none⟩) 2 2] (w'.alloc (.cells (qq2 q n) 56)) (GrtPost s [q, n] (w'.alloc (.cells (qq2 q n) 56)))) := Lib.hid (fun w' hb => grt_any s hz [q, n] _ 2 (by simp) (fun x hx => by
    simp only [List.mem_cons, List.not_mem_nil, or_false] at hx
    rcases hx with rfl | rfl
    · exact hqs
    · exact hns) _ (HS0.out.far (HW.out.trans ((hb.trans ((below_qq q n w').mono hb.size)).mono HW.out.size))) (see_qq q n w'))
  have HC : Hid (∀ w', Below w2.heap.size w2 w' → (ldSt (.pointer (some ⟨w.heap.size, 0, none⟩))).run Tryz.prog w' = .ok (.agg s.cells) w' ∧ (ldReq (.pointer (some ⟨w.heap.size + 1, 0, none⟩))).run Tryz.prog w' = .ok (.agg q.cells.toArray) w' ∧ (ldReq (.pointer (some ⟨w.heap.size + 2, 0, none⟩))).run Tryz.prog w' = .ok (.agg n.cells.toArray) w' ∧ w'.cell? ⟨w.heap.size + 1, 1, none⟩ = some (.int .i64 q.num) ∧ w'.cell? ⟨w.heap.size + 2, 1, none⟩ = some (.int .i64 n.num)) := Lib.hid (fun w' hb =>
    ⟨(HX.out.below hb HX.out.lt).l_st, (HA.out.below hb HA.out.lt).ld_req, (HN.out.below hb HN.out.lt).ld_req, (HA.out.below hb HA.out.lt).rq_cell rfl, (HN.out.below hb HN.out.lt).rq_cell rfl⟩)
  have HGQ : Hid (∀ w', Calls Tryz.prog 14 #[.agg q.cells.toArray] w' fun e w'' => e = .returned (.bool (reqGood q)) ∧ Below w'.heap.size w' w'') := Lib.hid (fun w' => rgood_any9 q w')
  have HGN : Hid (∀ w', Calls Tryz.prog 14 #[.agg n.cells.toArray] w' fun e w'' => e = .returned (.bool (reqGood n)) ∧ Below w'.heap.size w' w'') := Lib.hid (fun w' => rgood_any9 n w')
  clear hz hqs hns hl hos
  cases hgq : reqGood q
  · rw [hgq] at HGQ
    clear hgq HX HA HN HS0 HO0 HT HHO HHQ HHN
    go_wp2_with (first | (go_at_call 6; (with_reducible refine (HG.out).mono ?_); rintro e w3 ⟨g, rfl, hg, hb3⟩; have HB3 := Lib.hid hb3; obtain ⟨k0, k1, k2, _, _⟩ := HC.out w3 hb3; have bs := bs_qq q n w3; have HG2 := Lib.hid (HGG.out w3 hb3); have HW3 := Lib.hid (HW.out.trans (hb3.mono HW.out.size)); clear hg; cases g; all_goals clear hb3) | (go_at_call 6; (with_reducible refine (HG2.out).mono ?_); rintro e w4 ⟨g, rfl, _, hb4⟩; have hb5 := HB3.out.trans (((below_qq q n w3).trans (hb4.mono (below_qq q n w3).size)).mono HB3.out.size); obtain ⟨m0, m1, m2, _, _⟩ := HC.out w4 hb5; have HB4 := Lib.hid hb5; have HW4 := Lib.hid (HW.out.trans (hb5.mono HW.out.size)); cases g; all_goals clear hb4 hb5) | (go_at_call 14; (with_reducible refine (HGQ.out w4).mono ?_); rintro e w5 ⟨rfl, hb5⟩; have hb6 := HB4.out.trans (hb5.mono HB4.out.size); obtain ⟨_, _, p2, _, _⟩ := HC.out w5 hb6; have HB5 := Lib.hid hb6; have HW5 := Lib.hid (HW.out.trans (hb6.mono HW.out.size)); clear hb5 hb6) | (go_at_call 14; (with_reducible refine (HGN.out w5).mono ?_); rintro e w6 ⟨rfl, hb6⟩; have hb7 := HB5.out.trans (hb6.mono HB5.out.size); obtain ⟨_, _, _, r3, r4⟩ := HC.out w6 hb7; have HB6 := Lib.hid hb7; have HW6 := Lib.hid (HW.out.trans (hb7.mono HW.out.size)); clear hb6 hb7))
    all_goals (go_ret; first | exact ⟨rfl, HW6.out⟩ | exact ⟨rfl, HW5.out⟩ | exact ⟨rfl, HW4.out⟩ | exact ⟨rfl, HW3.out⟩)
  cases hgn : reqGood n
  · rw [hgq] at HGQ
    rw [hgn] at HGN
    clear hgq hgn HX HA HN HS0 HO0 HT HHO HHQ HHN
    go_wp2_with (first | (go_at_call 6; (with_reducible refine (HG.out).mono ?_); rintro e w3 ⟨g, rfl, hg, hb3⟩; have HB3 := Lib.hid hb3; obtain ⟨k0, k1, k2, _, _⟩ := HC.out w3 hb3; have bs := bs_qq q n w3; have HG2 := Lib.hid (HGG.out w3 hb3); have HW3 := Lib.hid (HW.out.trans (hb3.mono HW.out.size)); clear hg; cases g; all_goals clear hb3) | (go_at_call 6; (with_reducible refine (HG2.out).mono ?_); rintro e w4 ⟨g, rfl, _, hb4⟩; have hb5 := HB3.out.trans (((below_qq q n w3).trans (hb4.mono (below_qq q n w3).size)).mono HB3.out.size); obtain ⟨m0, m1, m2, _, _⟩ := HC.out w4 hb5; have HB4 := Lib.hid hb5; have HW4 := Lib.hid (HW.out.trans (hb5.mono HW.out.size)); cases g; all_goals clear hb4 hb5) | (go_at_call 14; (with_reducible refine (HGQ.out w4).mono ?_); rintro e w5 ⟨rfl, hb5⟩; have hb6 := HB4.out.trans (hb5.mono HB4.out.size); obtain ⟨_, _, p2, _, _⟩ := HC.out w5 hb6; have HB5 := Lib.hid hb6; have HW5 := Lib.hid (HW.out.trans (hb6.mono HW.out.size)); clear hb5 hb6) | (go_at_call 14; (with_reducible refine (HGN.out w5).mono ?_); rintro e w6 ⟨rfl, hb6⟩; have hb7 := HB5.out.trans (hb6.mono HB5.out.size); obtain ⟨_, _, _, r3, r4⟩ := HC.out w6 hb7; have HB6 := Lib.hid hb7; have HW6 := Lib.hid (HW.out.trans (hb7.mono HW.out.size)); clear hb6 hb7))
    all_goals (go_ret; first | exact ⟨rfl, HW6.out⟩ | exact ⟨rfl, HW5.out⟩ | exact ⟨rfl, HW4.out⟩ | exact ⟨rfl, HW3.out⟩)
  by_cases hnum : n.num ≤ q.num
  · rw [hgq] at HGQ
    rw [hgn] at HGN
    clear hgq hgn HX HA HN HS0 HO0 HT HHO HHQ HHN
    go_wp2_with (first | (go_at_call 6; (with_reducible refine (HG.out).mono ?_); rintro e w3 ⟨g, rfl, hg, hb3⟩; have HB3 := Lib.hid hb3; obtain ⟨k0, k1, k2, _, _⟩ := HC.out w3 hb3; have bs := bs_qq q n w3; have HG2 := Lib.hid (HGG.out w3 hb3); have HW3 := Lib.hid (HW.out.trans (hb3.mono HW.out.size)); clear hg; cases g; all_goals clear hb3) | (go_at_call 6; (with_reducible refine (HG2.out).mono ?_); rintro e w4 ⟨g, rfl, _, hb4⟩; have hb5 := HB3.out.trans (((below_qq q n w3).trans (hb4.mono (below_qq q n w3).size)).mono HB3.out.size); obtain ⟨m0, m1, m2, _, _⟩ := HC.out w4 hb5; have HB4 := Lib.hid hb5; have HW4 := Lib.hid (HW.out.trans (hb5.mono HW.out.size)); cases g; all_goals clear hb4 hb5) | (go_at_call 14; (with_reducible refine (HGQ.out w4).mono ?_); rintro e w5 ⟨rfl, hb5⟩; have hb6 := HB4.out.trans (hb5.mono HB4.out.size); obtain ⟨_, _, p2, _, _⟩ := HC.out w5 hb6; have HB5 := Lib.hid hb6; have HW5 := Lib.hid (HW.out.trans (hb6.mono HW.out.size)); clear hb5 hb6) | (go_at_call 14; (with_reducible refine (HGN.out w5).mono ?_); rintro e w6 ⟨rfl, hb6⟩; have hb7 := HB5.out.trans (hb6.mono HB5.out.size); obtain ⟨_, _, _, r3, r4⟩ := HC.out w6 hb7; have HB6 := Lib.hid hb7; have HW6 := Lib.hid (HW.out.trans (hb7.mono HW.out.size)); clear hb6 hb7))
    all_goals (go_ret; first | exact ⟨rfl, HW6.out⟩ | exact ⟨rfl, HW5.out⟩ | exact ⟨rfl, HW4.out⟩ | exact ⟨rfl, HW3.out⟩)
  have HOK : Hid (reqGood q = true ∧ reqGood n = true ∧ q.num < n.num) := Lib.hid ⟨hgq, hgn, by omega⟩
  rw [hgq] at HGQ
  rw [hgn] at HGN
  clear hgq hgn
  go_upto_region 5 with (first | (go_at_call 6; (with_reducible refine (HG.out).mono ?_); rintro e w3 ⟨g, rfl, hg, hb3⟩; have HB3 := Lib.hid hb3; obtain ⟨k0, k1, k2, _, _⟩ := HC.out w3 hb3; have bs := bs_qq q n w3; have HG2 := Lib.hid (HGG.out w3 hb3); have HW3 := Lib.hid (HW.out.trans (hb3.mono HW.out.size)); cases g; (focus (have HSM := Lib.hid (hg rfl))); all_goals clear hb3 hg) | (go_at_call 6; (with_reducible refine (HG2.out).mono ?_); rintro e w4 ⟨g, rfl, _, hb4⟩; have hb5 := HB3.out.trans (((below_qq q n w3).trans (hb4.mono (below_qq q n w3).size)).mono HB3.out.size); obtain ⟨m0, m1, m2, _, _⟩ := HC.out w4 hb5; have HB4 := Lib.hid hb5; have HW4 := Lib.hid (HW.out.trans (hb5.mono HW.out.size)); cases g; all_goals clear hb4 hb5) | (go_at_call 14; (with_reducible refine (HGQ.out w4).mono ?_); rintro e w5 ⟨rfl, hb5⟩; have hb6 := HB4.out.trans (hb5.mono HB4.out.size); obtain ⟨_, _, p2, _, _⟩ := HC.out w5 hb6; have HB5 := Lib.hid hb6; have HW5 := Lib.hid (HW.out.trans (hb6.mono HW.out.size)); clear hb5 hb6) | (go_at_call 14; (with_reducible refine (HGN.out w5).mono ?_); rintro e w6 ⟨rfl, hb6⟩; have hb7 := HB5.out.trans (hb6.mono HB5.out.size); obtain ⟨_, _, _, r3, r4⟩ := HC.out w6 hb7; have HB6 := Lib.hid hb7; have HW6 := Lib.hid (HW.out.trans (hb7.mono HW.out.size)); clear hb6 hb7))
  all_goals (try (go_ret; first | exact ⟨rfl, HW6.out⟩ | exact ⟨rfl, HW5.out⟩ | exact ⟨rfl, HW4.out⟩ | exact ⟨rfl, HW3.out⟩))
  have HX6 := Lib.hid (HX.out.below HB6.out HX.out.lt)
  have HA6 := Lib.hid (HA.out.below HB6.out HA.out.lt)
  have HN6 := Lib.hid (HN.out.below HB6.out HN.out.lt)
  clear HX HA HN HG HGG HC HGQ HGN HG2 HB3 HB4 HB5 HB6 HW HW3 HW4 HW5 k0 k1 k2 m0 m1 m2 p2 r3 r4 bs ls hnum
  have cq : w6.cell? ⟨w.heap.size + 1, 0, none⟩ = some (.int .i64 q.client) := HA6.out.rq_cell rfl
  have cn : w6.cell? ⟨w.heap.size + 1 + 1, 0, none⟩ = some (.int .i64 n.client) := HN6.out.rq_cell rfl
  have fn := HN6.out.free 0
  go_upto_region 6 with fail
  obtain ⟨w7, hw7⟩ : ∃ w7, w7 = w6.setCell ⟨w.heap.size + 1 + 1, 0, none⟩ (.int .i64 q.client) := ⟨_, rfl⟩
  have hg7 : w6.grownBy w7 (some (w.heap.size + 2)) := by rw [hw7]; exact only_put (only_refl _ _) 0 _
  have HN7 : Hid (Box w7 (w.heap.size + 2) 56 (asC n q.client).cells.toArray) := Lib.hid (by
    rw [hw7, ← asC_cells]
    exact HN6.out.put 0 _)
  have HX7 := Lib.hid (HX6.out.grown hg7 (fun e => by injection e with e; omega))
  have HA7 := Lib.hid (HA6.out.grown hg7 (fun e => by injection e with e; omega))
  have HW7 := Lib.hid (HW6.out.trans (below_only hg7 (by omega) HW6.out.size))
  rw [← hw7]
  clear hw7 hg7 cq cn fn HN6 HX6 HA6 HW6
  have ls := HX7.out.l_st
  have lq := HA7.out.ld_req
  have HAP := Lib.hid (sapply_any s (HSM.out.1.fits.more (by decide)) HSM.out.2.1 q T w7 (fun w' hb => HT.out w' (HW7.out.trans (hb.mono HW7.out.size))) HHQ.out (HS0.out.far HW7.out))
  go_upto_region 7 with (go_at_call 15; (with_reducible refine (HAP.out).mono ?_); rintro e w8 ⟨x, a, aA, az, rfl, hx, ho8, hv8, hb8⟩; have HXE := Lib.hid hx; obtain ⟨w9, w10, hst9, hst10, ht10, hr10, hf10⟩ := laid_strp w8 x a.client a.num a.code aA a.vals.length az; have hf11 := hb8.trans (hf10.mono hb8.size); have HB10 : Hid (Box w10 w8.heap.size 28 x.cells) := Lib.hid ht10; have HR10 := Lib.hid hr10; have HX10 := Lib.hid (HX7.out.below hf11 HX7.out.lt); have HF10 := Lib.hid hf11; have HO10 := Lib.hid (ho8.keep hf10); have HV10 := Lib.hid (EK.Own.keep hv8 hf10); have GM := Lib.hid hb8.size; clear hx ho8 hv8 hb8 ht10 hr10 hf10 hf11)
  clear hst9 hst10 HAP ls lq HX7
  generalize w8.heap.size = m8 at *
  have HRX : Hid (x.pl.Ris ∧ x.pl.Fits 1) := Lib.hid ⟨HXE.out.ris HSM.out.2.1, HXE.out.fits HSM.out.1.fits⟩
  have HFI := Lib.hid (HXE.out.first HSM.out.2.1.rs HOK.out.1)
  have c2 : w10.cell? ⟨m8 + 1, 2, none⟩ = some (.int .i64 a.code) := HR10.out.cell 2
  by_cases i1 : a.code = 8
  · have lx := HB10.out.l_st
    have ls := HX10.out.l_st
    have HSA := Lib.hid (ssame_any x s (HFI.out.1 i1).symm (HRX.out.2.more (by decide)) w10 HO10.out.see (HS0.out.far (HW7.out.trans (HF10.out.mono HW7.out.size))))
    have HW10 := Lib.hid (HW7.out.trans (HF10.out.mono HW7.out.size))
    clear HFI HRX HX10 HB10 HR10 HO10 HV10 HXE
    go_wp2_with (go_at_call 16; (with_reducible refine (HSA.out).mono ?_); rintro e w11 ⟨rfl, hb11⟩; have HW11 := Lib.hid (HW10.out.trans (hb11.mono HW10.out.size)); clear hb11)
    go_ret
    exact ⟨rfl, HW11.out⟩
  · have HLK : Hid (rLook q.client x.pl.rs = some a ∧ a.num = q.num) := Lib.hid (HFI.out.2 i1)
    have i2 : (a.code == 8) = false := by simpa using i1
    have HLN : Hid (os.length ≤ 60) := Lib.hid HSM.out.2.2
    clear HFI HX10 HXE i1
    go_upto_region 9 with fail
    clear c2 i2
    go_wp2
    go_loopw [63] (fun i wr => ∃ (k : Nat) (y : StM), k ≤ os.length ∧ i = .int .i64 (k : Int) ∧ Hid (y.pl.Ris ∧ y.pl.Fits (k + 1) ∧ rLook q.client y.pl.rs = some a) ∧ Hid (Box wr m8 28 y.cells) ∧ Hid (Box wr (m8 + 1) 36 (repv a.client a.num a.code aA a.vals.length az)) ∧ Hid (y.See wr wr.heap.size) ∧ Hid (SK.Own wr w7.heap.size (.slice aA a.vals.length az) a.vals) ∧ Hid (Below w7.heap.size w7 wr)) (fun i _ => os.length - (intOf i).toNat)
    case atStart => exact ⟨0, x, Nat.zero_le _, rfl, Lib.hid ⟨HRX.out.1, HRX.out.2, HLK.out.1⟩, HB10, HR10, Lib.hid HO10.out.see, HV10, HF10⟩
    case round =>
      obtain ⟨k, y, hk, rfl, HRF, HB, HR, HSY, HV, HF⟩ := hrel
      clear HB10 HR10 HO10 HV10 HF10
      by_cases hlt : k < os.length
      · have HLT := Lib.hid hlt
        obtain ⟨g, o, hA, _, hr⟩ := EK.See.range (EK.See.far HO0.out (HW7.out.trans (HF.out.mono HW7.out.size))) hlt
        have lk : (ldReq (.pointer (some ⟨g, o + k * 42, none⟩))).run Tryz.prog wr = .ok (.agg (os[k]'hlt).cells.toArray) wr := run_loadAt_mid (P := Tryz.prog) wr g (o + k * 42) 56 (os[k]'hlt).cells _ (hr k hlt) Tryz.underlying56 rfl (os[k]'hlt).size
        rw [hA]
        have i1 : (k : Int) < (os.length : Int) := by omega
        have i0 : (0 : Int) ≤ (k : Int) := by omega
        have wk : IntKind.i64.wrap ((k : Int) + 1) = ((k + 1 : Nat) : Int) := by rw [IntKind.wrap_i64]; have := HLN.out; omega
        obtain ⟨w11, hst, hb11, hg11⟩ := (Box.made wr 56 zreqV).st_req rfl (os[k]'hlt)
        have hF11 : Below wr.heap.size wr w11 := ((Below.refl _ _).alloc (Nat.le_refl _) _).trans (below_only hg11 (Nat.le_refl _) (by simp))
        have HQ11 := Lib.hid hb11
        have HB11 := Lib.hid (HB.out.below hF11 HB.out.lt)
        have HR11 := Lib.hid (HR.out.below hF11 HR.out.lt)
        have HS11 := Lib.hid (HSY.out.far hF11)
        have HV11 := Lib.hid (EK.Own.keep HV.out hF11)
        have HF11 := Lib.hid (HF.out.trans (hF11.mono HF.out.size))
        have HHOP := Lib.hid (HHO.out _ (List.getElem_mem hlt))
        generalize os[k]'hlt = ok at *
        clear hr hb11 hg11 hF11 hA HB HR HSY HV HF
        go_upto_region 12 with fail
        clear lk hst
        generalize wr.heap.size = m11 at *
        have co : w11.cell? ⟨m11, 0, none⟩ = some (.int .i64 ok.client) := HQ11.out.rq_cell rfl
        have cq : w11.cell? ⟨w.heap.size + 1, 0, none⟩ = some (.int .i64 q.client) := (HA7.out.below HF11.out HA7.out.lt).rq_cell rfl
        by_cases i2 : ok.client = q.client
        · have i3 : (ok.client == q.client) = true := by simpa using i2
          clear HQ11 HHOP
          go_wp2
          go_roundw
          case rel => exact ⟨k + 1, y, HLT.out, by go_num, Lib.hid ⟨HRF.out.1, HRF.out.2.1.more (by omega), HRF.out.2.2⟩, HB11, HR11, HS11, HV11, HF11⟩
          case measure => have := HLT.out; simp [intOf]; omega
        · have i3 : (ok.client == q.client) = false := by simpa using i2
          have lx := HB11.out.l_st
          have lo := HQ11.out.ld_req
          have HNE := Lib.hid i2
          have HAP := Lib.hid (sapply_any y (HRF.out.2.1.more (by have := HLN.out; have := HLT.out; omega)) HRF.out.1 ok T w11 (fun w' hb => HT.out w' (HW7.out.trans ((HF11.out.trans (hb.mono HF11.out.size)).mono HW7.out.size))) HHOP.out HS11.out)
          clear i2 HQ11 HHOP
          go_wp2_with (go_at_call 15; (with_reducible refine (HAP.out).mono ?_); rintro e w12 ⟨z, b, bA, bz, rfl, hx, ho, _, hb⟩; have HXE := Lib.hid hx; have HB12 := Lib.hid (HB11.out.below hb HB11.out.lt); have HR12 := Lib.hid (HR11.out.below hb HR11.out.lt); have HV12 := Lib.hid (EK.Own.keep HV11.out hb); have HF12 := Lib.hid (HF11.out.trans (hb.mono HF11.out.size)); obtain ⟨w13, hst13, hb13, hg13⟩ := HB12.out.s_st rfl z.pA z.ps.length z.pc z.rA z.rs.length z.rc z.ep z.mA z.ms.length z.mc; have HB13 : Hid (Box w13 m8 28 z.cells) := Lib.hid hb13; have HR13 := Lib.hid (HR12.out.grown hg13 (fun e => by injection e with e; omega)); have HS13 := Lib.hid (ho.aside HB12.out hg13).see; have HV13 : Hid (SK.Own w13 w7.heap.size (.slice aA a.vals.length az) a.vals) := Lib.hid (World.ownsRow.kept HV12.out hg13 (.inr (Box.own_ne HB12.out HV12.out (by decide)))); have HF13 := Lib.hid (HF12.out.trans (below_only hg13 GM.out HF12.out.size)); clear hx ho hb hb13 hg13)
          clear hst13 HAP lx lo
          go_roundw
          case rel => exact ⟨k + 1, z, HLT.out, by go_num, Lib.hid ⟨HXE.out.ris HRF.out.1, HXE.out.fits HRF.out.2.1, by rw [HXE.out.other HRF.out.1.rs HNE.out]; exact HRF.out.2.2⟩, HB13, HR13, HS13, HV13, HF13⟩
          case measure => have := HLT.out; simp [intOf]; omega
      · have hke : k = os.length := by omega
        have i1 : ¬ (k : Int) < (os.length : Int) := by omega
        have HRY : Hid (y.pl.Ris ∧ y.pl.Fits 100 ∧ rLook q.client y.pl.rs = some a) := Lib.hid ⟨HRF.out.1, HRF.out.2.1.more (by have := HLN.out; omega), HRF.out.2.2⟩
        clear hlt hk hke HRF
        go_upto_region 15 with fail
        have lx := HB.out.l_st
        have HAr := Lib.hid (HA7.out.below HF.out HA7.out.lt)
        have HNr := Lib.hid (HN7.out.below HF.out HN7.out.lt)
        have HWr := Lib.hid (HW7.out.trans (HF.out.mono HW7.out.size))
        have HVr : Hid (SK.See wr wr.heap.size aA a.vals) := Lib.hid (EK.Own.see HV.out)
        clear HA7 HN7 HW7 HV HF
        have lq := HAr.out.ld_req
        have HAP := Lib.hid (sapply_any y (HRY.out.2.1.more (by decide)) HRY.out.1 q T wr (fun w' hb => HT.out w' (HWr.out.trans (hb.mono HWr.out.size))) HHQ.out HSY.out)
        go_upto_region 16 with (go_at_call 15; (with_reducible refine (HAP.out).mono ?_); rintro e w15 ⟨z, b, bA, bz, rfl, hx, ho, hv, hb⟩; have HXZ := Lib.hid (hx.again HOK.out.1 HRY.out.2.2 HLK.out.2); obtain ⟨w16, w17, hst16, hst17, ht17, hr17, hf17⟩ := laid_strp w15 z b.client b.num b.code bA b.vals.length bz; have hf := hb.trans (hf17.mono hb.size); have HZ17 : Hid (Box w17 w15.heap.size 28 z.cells) := Lib.hid ht17; have HC17 := Lib.hid hr17; have HB17 := Lib.hid (HB.out.below hf HB.out.lt); have HR17 := Lib.hid (HR.out.below hf HR.out.lt); have HA17 := Lib.hid (HAr.out.below hf HAr.out.lt); have HN17 := Lib.hid (HNr.out.below hf HNr.out.lt); have HW17 := Lib.hid (HWr.out.trans (hf.mono HWr.out.size)); have HSY17 := Lib.hid (HSY.out.far hf); have HSZ17 := Lib.hid (ho.keep hf17).see; have HV17 := Lib.hid (EK.See.far HVr.out hf); have HU17 : Hid (SK.See w17 w17.heap.size bA b.vals) := Lib.hid (EK.Own.see (EK.Own.keep hv hf17)); have GN := Lib.hid (Nat.lt_of_lt_of_le HAr.out.lt hb.size); clear hx ho hv hb ht17 hr17 hf17 hf)
        clear hst16 hst17 HAP lx lq HB HR HAr HNr HWr HSY HVr
        generalize w15.heap.size = m15 at *
        have HRZ : Hid (z.pl.Ris ∧ z.pl.Fits 100 ∧ rLook q.client z.pl.rs = some a) := Lib.hid (by
          rw [HXZ.out.1]
          exact HRY.out)
        have HAV : Hid (a.vals.length ≤ 400) := Lib.hid (by
          have := HRZ.out.2.1.vals a (look_mem HRZ.out.2.2)
          omega)
        have lx := HB17.out.l_st
        have lz := HZ17.out.l_st
        have HSA := Lib.hid (ssame_any y z HXZ.out.1 (HRY.out.2.1.more (by decide)) w17 HSY17.out HSZ17.out)
        go_upto_region 18 with (first
          | (go_at_call 16; (with_reducible refine (HSA.out).mono ?_); rintro e w18 ⟨rfl, hb18⟩; have hl1 := (HR17.out.below hb18 HR17.out.lt).l_rp; have hl2 := (HC17.out.below hb18 HC17.out.lt).l_rp; have HS9 := Lib.hid (same9_to ⟨a, aA, az⟩ ⟨b, bA, bz⟩ HXZ.out.2.symm (by have := HAV.out; show a.vals.length ≤ _; omega) w18 (EK.See.far HV17.out hb18) (EK.See.far HU17.out hb18)); have HF18 := Lib.hid hb18; clear hb18)
          | (go_at_call 13; (with_reducible refine (HS9.out).mono ?_); rintro e w19 ⟨rfl, hb19⟩; have hf := HF18.out.trans (hb19.mono HF18.out.size); have HZ19 := Lib.hid (HZ17.out.below hf HZ17.out.lt); have HA19 := Lib.hid (HA17.out.below hf HA17.out.lt); have HN19 := Lib.hid (HN17.out.below hf HN17.out.lt); have HW19 := Lib.hid (HW17.out.trans (hf.mono HW17.out.size)); have HSZ19 := Lib.hid (HSZ17.out.far hf); clear hb19 hf))
        clear HSA HS9 HF18 hl1 hl2 lx lz HB17 HR17 HC17 HZ17 HA17 HN17 HW17 HSY17 HSZ17 HV17 HU17
        have lz := HZ19.out.l_st
        have ln := HN19.out.ld_req
        have HAP := Lib.hid (sapply_any z (HRZ.out.2.1.more (by decide)) HRZ.out.1 (asC n q.client) T w19 (fun w' hb => HT.out w' (HW19.out.trans (hb.mono HW19.out.size))) HHN.out HSZ19.out)
        go_upto_region 19 with (go_at_call 15; (with_reducible refine (HAP.out).mono ?_); rintro e w20 ⟨z2, c2, cA, cz, rfl, hx, ho, _, hb⟩; have HNX := Lib.hid (hx.next HRZ.out.1.rs (asC_good HOK.out.2.1 HOK.out.1) HRZ.out.2.2 (by rw [HLK.out.2]; exact HOK.out.2.2)); have HR2 : Hid (z2.pl.Ris ∧ z2.pl.Fits 101) := Lib.hid ⟨hx.ris HRZ.out.1, hx.fits HRZ.out.2.1⟩; have hz20 := HZ19.out.below hb HZ19.out.lt; obtain ⟨w21, hst21, hb21, hg21⟩ := hz20.s_st rfl z2.pA z2.ps.length z2.pc z2.rA z2.rs.length z2.rc z2.ep z2.mA z2.ms.length z2.mc; have HZ21 : Hid (Box w21 m15 28 z2.cells) := Lib.hid hb21; have HS21 := Lib.hid (ho.aside hz20 hg21).see; have HA21 := Lib.hid ((HA19.out.below hb HA19.out.lt).grown hg21 (fun e => by have := GN.out; injection e with e; omega)); have HW20 := HW19.out.trans (hb.mono HW19.out.size); have HW21 := Lib.hid (HW20.trans (below_only hg21 (by have := GN.out; omega) HW20.size)); clear hx ho hb hz20 hb21 hg21 HW20)
        clear hst21 HAP lz ln HZ19 HA19 HN19 HW19 HSZ19
        have lz := HZ21.out.l_st
        have lq := HA21.out.ld_req
        have HAP := Lib.hid (sapply_any z2 (HR2.out.2.more (by decide)) HR2.out.1 q T w21 (fun w' hb => HT.out w' (HW21.out.trans (hb.mono HW21.out.size))) HHQ.out HS21.out)
        go_upto_region 20 with (go_at_call 15; (with_reducible refine (HAP.out).mono ?_); rintro e w22 ⟨z3, c3, dA, dz, rfl, hx, ho, _, hb⟩; have HOL := Lib.hid (hx.old HOK.out.1 HNX.out.1 (by rw [HNX.out.2]; exact HOK.out.2.2)); obtain ⟨w23, w24, hst23, hst24, ht24, hr24, hf24⟩ := laid_strp w22 z3 c3.client c3.num c3.code dA c3.vals.length dz; have hf := hb.trans (hf24.mono hb.size); have HY24 : Hid (Box w24 w22.heap.size 28 z3.cells) := Lib.hid ht24; have HC24 := Lib.hid hr24; have HZ24 := Lib.hid (HZ21.out.below hf HZ21.out.lt); have HW24 := Lib.hid (HW21.out.trans (hf.mono HW21.out.size)); have HS24 := Lib.hid (HS21.out.far hf); have HT24 := Lib.hid (ho.keep hf24).see; clear hx ho hb ht24 hr24 hf24 hf)
        clear hst23 hst24 HAP lz lq HZ21 HA21 HW21 HS21
        generalize w22.heap.size = m22 at *
        obtain ⟨hz3, hc3⟩ := HOL.out
        have e8 : w24.cell? ⟨m22 + 1, 2, none⟩ = some (.int .i64 8) := by
          have h := HC24.out.cell 2
          rw [hc3] at h
          exact h
        have e9 : w24.cell? ⟨m22 + 1, 3, none⟩ = some (.slice dA 0 dz) := by
          have h := HC24.out.cell 3
          rw [hc3] at h
          exact h
        have HSA := Lib.hid (ssame_any z3 z2 hz3.symm (by rw [hz3]; exact HR2.out.2.more (by decide)) w24 HT24.out HS24.out)
        have lx := HY24.out.l_st
        have lz := HZ24.out.l_st
        clear hz3 hc3
        go_wp2_with (go_at_call 16; (with_reducible refine (HSA.out).mono ?_); rintro e w25 ⟨rfl, hb25⟩; have HW25 := Lib.hid (HW24.out.trans (hb25.mono HW24.out.size)); clear hb25)
        go_ret
        exact ⟨rfl, HW25.out⟩
end Go.Proofs.YtbgbidgggjkmmaaGreatDoor
