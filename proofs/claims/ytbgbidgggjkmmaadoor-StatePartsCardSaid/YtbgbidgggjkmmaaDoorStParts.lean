/-
  StateParts.
-/
import Derived.Test.YtbgbidgggjkmmaaDoorStLists
import Derived.Test.YtbgbidgggjkmmaaDoorStComm
import Derived.Lib.QuietBelow
namespace Go.Proofs.YtbgbidgggjkmmaaDoor
open Go.RowKit Go.Sort

/-! ### Two requests, asked at once -/
noncomputable def qq2 (a b : ReqX) : Array Value := (QK.flat [a, b]).toArray
set_option maxRecDepth 100000 in
theorem bs_qq (a b : ReqX) (w : World) : (bsT 29 2 #[(0, .agg a.cells.toArray), (1, .agg b.cells.toArray)]).run Tryd.prog w = .ok (.slice (some ⟨w.heap.size, 0, none⟩) 2 2) (w.alloc (.cells (qq2 a b) 43)) :=
  QK.build [a, b] [.agg a.cells.toArray, .agg b.cells.toArray] (by simp) (by show 2 * 42 ≤ _; omega) rfl w
set_option maxRecDepth 100000 in
theorem see_qq (a b : ReqX) (w : World) : QK.See (w.alloc (.cells (qq2 a b) 43)) (w.alloc (.cells (qq2 a b) 43)).heap.size (some ⟨w.heap.size, 0, none⟩) [a, b] := by
  have hX : Box (w.alloc (.cells (qq2 a b) 43)) w.heap.size QK.e (qq2 a b) := Box.made _ _ _
  have h := Sees.of_box hX hX.lt
  unfold qq2 at h ⊢
  rw [List.toList_toArray] at h
  exact h
set_option maxRecDepth 100000 in
theorem below_qq (a b : ReqX) (w : World) : Below w.heap.size w (w.alloc (.cells (qq2 a b) 43)) := (Below.refl _ _).alloc (Nat.le_refl _) _
set_option maxRecDepth 100000 in
theorem sk_see {w : World} {B : Nat} {A : Option Addr} {xs : List ByteArray} (h : SK.See w B A xs) : Sees w B A (xs.map Value.string) := by
  have h' : Sees w B A (SK.flat xs) := h
  rwa [SK_flat] at h'
def TwoIs (s : StM) (a b : ReqX) (w : World) (e : Ending) (w' : World) : Prop :=
  ∃ (s' : StM) (u v : RepM) (A : Option Addr) (c : Nat), e = .returned (.tuple #[.agg s'.cells, .slice A 2 c]) ∧ AllIs s.pl [a, b] s'.pl [u.x, v.x] ∧ s'.pl.Fits 100 ∧ s'.See w' w'.heap.size ∧ RK.See w' w'.heap.size A [u, v] ∧ SK.See w' w'.heap.size u.A u.x.vals ∧ SK.See w' w'.heap.size v.A v.x.vals ∧ u.x.vals.length ≤ 1000 ∧ v.x.vals.length ≤ 1000 ∧ Below w.heap.size w w'
set_option maxRecDepth 100000 in
theorem exe_vals {s s' : StX} {q : ReqX} {a : RepX} {n : Nat} (h : ExeIs s q s' a) (hs : s.Fits n) : a.vals.length ≤ 300 + (n + 1) := by
  unfold ExeIs at h
  have hfr : FreshIs s q s' a → a.vals.length ≤ 300 + (n + 1) := fun hf => by
    obtain ⟨s1, c, vs, ho, rfl, rfl⟩ := hf
    exact (ho.fits hs).2
  split at h
  · cases hl : rLook q.client s.rs with
    | none => rw [hl] at h; exact hfr h
    | some r =>
      rw [hl] at h
      simp only at h
      split at h
      · rw [h.2]
        have := hs.vals r (look_mem hl)
        omega
      · split at h
        · rw [h.2]; simp
        · exact hfr h
  · rw [h.2]; simp
set_option maxRecDepth 100000 in
theorem all_two10 (s : StM) (hsm : Small0 s) (hris : s.pl.Ris) (a b : ReqX) (ha : a.kind ≤ 4) (hb : b.kind ≤ 4) (g c : Nat) (w : World) (hS : s.See w w.heap.size) (hQ : QK.See w w.heap.size (some ⟨g, 0, none⟩) [a, b]) :
    Calls Tryd.prog 13 #[.agg s.cells, .slice (some ⟨g, 0, none⟩) 2 c] w (TwoIs s a b w) := by
  refine (sall_any s (hsm.fits.more (by decide)) hris [a, b] (some ⟨g, 0, none⟩) c (by simp) (fun _ => True) w (fun _ _ => trivial) (fun x hx => hop_five x (fun _ => ?_)) hS hQ).mono ?_
  · simp only [List.mem_cons, List.not_mem_nil, or_false] at hx
    rcases hx with rfl | rfl <;> omega
  · rintro e w' ⟨s', rl, A', c', rfl, hl, hal, ho, hr, hv, hb⟩
    obtain ⟨u, v, rfl⟩ : ∃ u v, rl = [u, v] := by
      match rl, hl with
      | [u, v], _ => exact ⟨u, v, rfl⟩
    have hf := hal.fits hsm.fits
    have hal0 : AllIs s.pl [a, b] s'.pl [u.x, v.x] := hal
    obtain ⟨s1, r1, t1, h1, e1, s2, r2, t2, h2, e2, e3, e4⟩ := hal
    have hf1 := h1.fits hsm.fits
    injection e1 with e5 e6
    have l1 := exe_vals h1 hsm.fits
    have l2 := exe_vals h2 hf1
    have e9 : [v.x] = r2 :: t2 := e6.trans e2
    injection e9 with e7 e8
    refine ⟨s', u, v, A', c', rfl, hal0, hf.more (by simp), ho.see, hr.see, (hv u (by simp)).see, (hv v (by simp)).see, by rw [e5]; omega, by rw [e7]; omega, hb⟩

attribute [local go_sem ↓] ldRp_def stRp_def ldSt_def stSt_def ldReq_def stReq_def bdReq_def bdOp10_def ldPr_def stPr_def bsT_def

set_option maxRecDepth 100000 in
set_option maxHeartbeats 4000000 in
theorem parts10_walk (s : StM) (a b : ReqX) (w : World) (hz : s.Sz) (hqa : a.key.size ≤ 140737488351232 ∧ a.val.size ≤ 140737488351232 ∧ a.old.size ≤ 140737488351232) (hqb : b.key.size ≤ 140737488351232 ∧ b.val.size ≤ 140737488351232 ∧ b.old.size ≤ 140737488351232) (hS : s.See w w.heap.size) :
    Calls Tryd.prog 4 #[.agg s.cells, .agg a.cells.toArray, .agg b.cells.toArray] w fun e w' => e = .returned (.bool true) ∧ Below w.heap.size w w' := by
  obtain ⟨w1, hw1⟩ : ∃ w1, w1 = ((w.alloc (.cells s.cells 28)).alloc (.cells a.cells.toArray 43)).alloc (.cells b.cells.toArray 43) := ⟨_, rfl⟩
  have HX : Hid (Box w1 w.heap.size 28 s.cells) := by rw [hw1]; exact ((Box.made w _ _).alloc _).alloc _
  have HA : Hid (Box w1 (w.heap.size + 1) 43 a.cells.toArray) := by rw [hw1]; exact (Box.made_at (by simp) _ _).alloc _
  have HB : Hid (Box w1 (w.heap.size + 2) 43 b.cells.toArray) := by rw [hw1]; exact Box.made_at (by simp) _ _
  have hF : Below w.heap.size w w1 := by rw [hw1]; exact (((Below.refl _ _).alloc (Nat.le_refl _) _).alloc (by simp) _).alloc (by simp; omega) _
  have HS := Lib.hid (hS.far hF)
  have HW := Lib.hid hF
  clear hS hF
  go_enter Tryd.func4, Tryd.ntmps4
  go_upto_region 1 with fail
  change Code.wp _ _ _ _ (((w.alloc (.cells s.cells 28)).alloc (.cells a.cells.toArray 43)).alloc (.cells b.cells.toArray 43))
  rw [← hw1]
  clear hw1
  go_upto_region 3 with (go_at_call 6; (with_reducible refine (alive10_any _).mono ?_); rintro e w2 ⟨rfl, hb2⟩; replace HX := Lib.hid (HX.out.below hb2 HX.out.lt); replace HA := Lib.hid (HA.out.below hb2 HA.out.lt); replace HB := Lib.hid (HB.out.below hb2 HB.out.lt); replace HS := Lib.hid (HS.out.far hb2); replace HW := Lib.hid (HW.out.trans (hb2.mono HW.out.size)); clear hb2)
  have ls := HX.out.l_st
  have la := HA.out.ld_req
  have lb := HB.out.ld_req
  have bs := bs_qq a b
  have HAL := Lib.hid (below_qq a b w2)
  have HG : Hid (Calls Tryd.prog 7 #[.agg s.cells, .slice (some ⟨w2.heap.size, 0, none⟩) 2 2] (w2.alloc (.cells (qq2 a b) 43)) (GrtPost s [a, b] (w2.alloc (.cells (qq2 a b) 43)))) := Lib.hid (grt_any s hz [a, b] _ 2 (by simp) (fun q hq => by
    simp only [List.mem_cons, List.not_mem_nil, or_false] at hq
    rcases hq with rfl | rfl
    · exact hqa
    · exact hqb) _ (HS.out.far HAL.out) (see_qq a b w2))
  have HC : Hid (∀ w', Below w2.heap.size w2 w' → w'.cell? ⟨w.heap.size + 1, 0, none⟩ = some (.int .i64 a.client) ∧ w'.cell? ⟨w.heap.size + 2, 0, none⟩ = some (.int .i64 b.client) ∧ w'.cell? ⟨w.heap.size + 1, 3, none⟩ = some (.string a.key) ∧ w'.cell? ⟨w.heap.size + 2, 3, none⟩ = some (.string b.key) ∧ w'.cell? ⟨w.heap.size + 1, 2, none⟩ = some (.int .i64 a.kind) ∧ w'.cell? ⟨w.heap.size + 2, 2, none⟩ = some (.int .i64 b.kind) ∧ w'.cell? ⟨w.heap.size, 0, none⟩ = some (.slice s.pA s.ps.length s.pc)) := Lib.hid (fun w' hb =>
    ⟨(HA.out.below hb HA.out.lt).rq_cell rfl, (HB.out.below hb HB.out.lt).rq_cell rfl, (HA.out.below hb HA.out.lt).rq_cell rfl, (HB.out.below hb HB.out.lt).rq_cell rfl, (HA.out.below hb HA.out.lt).rq_cell rfl, (HB.out.below hb HB.out.lt).rq_cell rfl, (HX.out.below hb HX.out.lt).cell 0⟩)
  clear hz hqa hqb
  by_cases i1 : a.client = b.client
  · clear HX HA HB HS
    go_wp2_with (go_at_call 7; (with_reducible refine (HG.out).mono ?_); rintro e w3 ⟨g, rfl, hg, hb3⟩; have hb4 := HAL.out.trans (hb3.mono HAL.out.size); have HW3 := Lib.hid (HW.out.trans (hb4.mono HW.out.size)); obtain ⟨k0, k1, k2, k3, k4, k5, k6⟩ := HC.out w3 hb4;  clear hb3 hb4 hg; cases g)
    all_goals (go_ret; exact ⟨rfl, HW3.out⟩)
  by_cases i2 : a.key = b.key
  · clear HX HA HB HS
    go_wp2_with (go_at_call 7; (with_reducible refine (HG.out).mono ?_); rintro e w3 ⟨g, rfl, hg, hb3⟩; have hb4 := HAL.out.trans (hb3.mono HAL.out.size); have HW3 := Lib.hid (HW.out.trans (hb4.mono HW.out.size)); obtain ⟨k0, k1, k2, k3, k4, k5, k6⟩ := HC.out w3 hb4;  clear hb3 hb4 hg; cases g)
    all_goals (go_ret; exact ⟨rfl, HW3.out⟩)
  have i2b : (a.key.toList == b.key.toList) = false := by
    rw [beq_eq_false_iff_ne]
    exact fun e => i2 (str_eq e)
  by_cases i3 : 4 < a.kind
  · clear HX HA HB HS
    go_wp2_with (go_at_call 7; (with_reducible refine (HG.out).mono ?_); rintro e w3 ⟨g, rfl, hg, hb3⟩; have hb4 := HAL.out.trans (hb3.mono HAL.out.size); have HW3 := Lib.hid (HW.out.trans (hb4.mono HW.out.size)); obtain ⟨k0, k1, k2, k3, k4, k5, k6⟩ := HC.out w3 hb4;  clear hb3 hb4 hg; cases g)
    all_goals (go_ret; exact ⟨rfl, HW3.out⟩)
  by_cases i4 : 4 < b.kind
  · clear HX HA HB HS
    go_wp2_with (go_at_call 7; (with_reducible refine (HG.out).mono ?_); rintro e w3 ⟨g, rfl, hg, hb3⟩; have hb4 := HAL.out.trans (hb3.mono HAL.out.size); have HW3 := Lib.hid (HW.out.trans (hb4.mono HW.out.size)); obtain ⟨k0, k1, k2, k3, k4, k5, k6⟩ := HC.out w3 hb4;  clear hb3 hb4 hg; cases g)
    all_goals (go_ret; exact ⟨rfl, HW3.out⟩)
  by_cases i5 : 250 < s.ps.length
  · have i6 : (250 : Int) < (s.ps.length : Int) := by omega
    clear HX HA HB HS
    go_wp2_with (go_at_call 7; (with_reducible refine (HG.out).mono ?_); rintro e w3 ⟨g, rfl, hg, hb3⟩; have hb4 := HAL.out.trans (hb3.mono HAL.out.size); have HW3 := Lib.hid (HW.out.trans (hb4.mono HW.out.size)); obtain ⟨k0, k1, k2, k3, k4, k5, k6⟩ := HC.out w3 hb4;  clear hb3 hb4 hg; cases g)
    all_goals (go_ret; exact ⟨rfl, HW3.out⟩)
  have i6 : ¬ (250 : Int) < (s.ps.length : Int) := by omega
  go_upto_region 5 with (go_at_call 7; (with_reducible refine (HG.out).mono ?_); rintro e w3 ⟨g, rfl, hg, hb3⟩; have hb4 := HAL.out.trans (hb3.mono HAL.out.size); have HW3 := Lib.hid (HW.out.trans (hb4.mono HW.out.size)); obtain ⟨k0, k1, k2, k3, k4, k5, k6⟩ := HC.out w3 hb4; cases g; (focus (have HSM := Lib.hid (hg rfl); have HX3 := Lib.hid (HX.out.below hb4 HX.out.lt); have HA3 := Lib.hid (HA.out.below hb4 HA.out.lt); have HB3 := Lib.hid (HB.out.below hb4 HB.out.lt); have HS3 := Lib.hid (HS.out.far hb4))); (all_goals clear hb3 hb4 hg))
  all_goals (try (go_ret; exact ⟨rfl, HW3.out⟩))
  clear HG HC HX HA HB HS ls la lb bs HAL HW k0 k1 k2 k3 k4 k5 k6
  have ls := HX3.out.l_st
  have la := HA3.out.ld_req
  have lb := HB3.out.ld_req
  have bs := bs_qq a b
  have HKD : Hid (a.kind ≤ 4 ∧ b.kind ≤ 4 ∧ s.ps.length ≤ 250 ∧ a.client ≠ b.client ∧ a.key ≠ b.key) := Lib.hid ⟨by omega, by omega, by omega, i1, i2⟩
  have HT : Hid (Calls Tryd.prog 13 #[.agg s.cells, .slice (some ⟨w3.heap.size, 0, none⟩) 2 2] (w3.alloc (.cells (qq2 a b) 43)) (TwoIs s a b (w3.alloc (.cells (qq2 a b) 43)))) := Lib.hid (all_two10 s HSM.out.1 HSM.out.2.1 a b HKD.out.1 HKD.out.2.1 _ 2 _ (HS3.out.far (below_qq a b w3)) (see_qq a b w3))
  clear i1 i2 i2b i3 i4 i5 i6
  go_upto_region 6 with (go_at_call 13; (with_reducible refine (HT.out).mono ?_); rintro e w4 ⟨x, x0, x1, xA, xc, rfl, hai, hxf, hxs, hxr, hx0, hx1, hl0, hl1, hb4⟩; have hb5 := (below_qq a b w3).trans (hb4.mono (below_qq a b w3).size); have hfr := hb5; obtain ⟨w5, hst5, hbx5, hbl5, _⟩ := laid_st w4 (stV none 0 0 none 0 0 0 none 0 0) rfl x.pA x.ps.length x.pc x.rA x.rs.length x.rc x.ep x.mA x.ms.length x.mc; have hb6 := hb5.trans (hbl5.mono hb5.size); have HX5 := Lib.hid (HX3.out.below hb6 HX3.out.lt); have HA5 := Lib.hid (HA3.out.below hb6 HA3.out.lt); have HB5 := Lib.hid (HB3.out.below hb6 HB3.out.lt); have HS5 := Lib.hid (HS3.out.far hb6); have HW5 := Lib.hid (HW3.out.trans (hb6.mono HW3.out.size)); have HBX := Lib.hid hbx5; have HSX := Lib.hid (hxs.far hbl5); have HRX := Lib.hid (EK.See.far hxr hbl5); have HVX := Lib.hid (And.intro (EK.See.far hx0 hbl5) (EK.See.far hx1 hbl5)); have HLX := Lib.hid (And.intro hai (And.intro hxf (And.intro hl0 hl1))); clear hai hxf hxs hxr hx0 hx1 hl0 hl1 hb4 hb5 hfr hbx5 hbl5 hb6)
  clear hst5 HT HX3 HA3 HB3 HS3 HW3 ls la lb bs
  generalize w4.heap.size = bx at *
  have ls := HX5.out.l_st
  have la := HA5.out.ld_req
  have lb := HB5.out.ld_req
  have bs := bs_qq b a
  have HT : Hid (Calls Tryd.prog 13 #[.agg s.cells, .slice (some ⟨w5.heap.size, 0, none⟩) 2 2] (w5.alloc (.cells (qq2 b a) 43)) (TwoIs s b a (w5.alloc (.cells (qq2 b a) 43)))) := Lib.hid (all_two10 s HSM.out.1 HSM.out.2.1 b a HKD.out.2.1 HKD.out.1 _ 2 _ (HS5.out.far (below_qq b a w5)) (see_qq b a w5))
  go_upto_region 7 with (go_at_call 13; (with_reducible refine (HT.out).mono ?_); rintro e w6 ⟨y, y0, y1, yA, yc, rfl, hai, hxf, hxs, hxr, hx0, hx1, hl0, hl1, hb4⟩; have hb5 := (below_qq b a w5).trans (hb4.mono (below_qq b a w5).size); obtain ⟨w7, hst7, hby7, hbl7, _⟩ := laid_st w6 (stV none 0 0 none 0 0 0 none 0 0) rfl y.pA y.ps.length y.pc y.rA y.rs.length y.rc y.ep y.mA y.ms.length y.mc; have hb6 := hb5.trans (hbl7.mono hb5.size); have HW7 := Lib.hid (HW5.out.trans (hb6.mono HW5.out.size)); have HBX7 := Lib.hid (HBX.out.below hb6 HBX.out.lt); have HSX7 := Lib.hid (HSX.out.far hb6); have HRX7 := Lib.hid (EK.See.far HRX.out hb6); have HVX7 := Lib.hid (And.intro (EK.See.far HVX.out.1 hb6) (EK.See.far HVX.out.2 hb6)); have HBY := Lib.hid hby7; have HSY := Lib.hid (hxs.far hbl7); have HRY := Lib.hid (EK.See.far hxr hbl7); have HVY := Lib.hid (And.intro (EK.See.far hx0 hbl7) (EK.See.far hx1 hbl7)); have HLY := Lib.hid (And.intro hai (And.intro hxf (And.intro hl0 hl1))); clear hai hxf hxs hxr hx0 hx1 hl0 hl1 hb4 hb5 hby7 hbl7 hb6)
  clear hst7 HT HX5 HA5 HB5 HS5 HW5 HBX HSX HRX HVX ls la lb bs
  generalize w6.heap.size = by_ at *
  obtain ⟨hpl, u, v, e1, e2⟩ := two_comm HSM.out.2.1 HKD.out.1 HKD.out.2.1 HKD.out.2.2.1 HKD.out.2.2.2.1 HKD.out.2.2.2.2 HLX.out.1 HLY.out.1
  injection e1 with e3 e4
  injection e4 with e4
  injection e2 with e5 e6
  injection e6 with e6
  have HP : Hid (y.pl = x.pl ∧ y1.x = x0.x ∧ y0.x = x1.x) := Lib.hid ⟨hpl.symm, by rw [e6, e3], by rw [e5, e4]⟩
  clear e3 e4 e5 e6 hpl
  obtain ⟨gx, ox, hxA, _, hrx⟩ := EK.See.range HRX7.out (i := 0) (by simp)
  obtain ⟨gy, oy, hyA, _, hry⟩ := EK.See.range HRY.out (i := 0) (by simp)
  subst hxA
  subst hyA
  have Q0 : Hid (∀ d os, (ldSt (.pointer (some ⟨bx, 0, none⟩))).run Tryd.prog (grow (redrawn w7 d) os) = .ok (.agg (stV x.pA x.ps.length x.pc x.rA x.rs.length x.rc x.ep x.mA x.ms.length x.mc)) (grow (redrawn w7 d) os)) := Lib.hid (fun d os => (HBX7.out.below (below_regrown w7 d os) HBX7.out.lt).l_st)
  have Q1 : Hid (∀ d os, (ldSt (.pointer (some ⟨by_, 0, none⟩))).run Tryd.prog (grow (redrawn w7 d) os) = .ok (.agg (stV y.pA y.ps.length y.pc y.rA y.rs.length y.rc y.ep y.mA y.ms.length y.mc)) (grow (redrawn w7 d) os)) := Lib.hid (fun d os => (HBY.out.below (below_regrown w7 d os) HBY.out.lt).l_st)
  have QR : Hid (∀ (g o : Nat) (r : RepM), w7.rangeAt g o (RK.enc r) → ∀ d os, (ldRp (.pointer (some ⟨g, o, none⟩))).run Tryd.prog (grow (redrawn w7 d) os) = .ok (.agg (repv r.x.client r.x.num r.x.code r.A r.x.vals.length r.z)) (grow (redrawn w7 d) os)) := Lib.hid (fun g o r hr d os => range_rp (fun j v hj => cell_regrown (hr j v hj) d os))
  have Q2 := QR.out gx (ox + 0 * 4) x0 (hrx 0 (by simp))
  have Q3 := QR.out gx (ox + 1 * 4) x1 (hrx 1 (by simp))
  have Q4 := QR.out gy (oy + 0 * 4) y0 (hry 0 (by simp))
  have Q5 := QR.out gy (oy + 1 * 4) y1 (hry 1 (by simp))
  rw [Nat.zero_mul, Nat.add_zero] at Q2 Q4
  rw [Nat.one_mul] at Q3 Q5
  have HS14 : Hid (∀ d os, Calls Tryd.prog 14 #[.agg x.cells, .agg y.cells] (grow (redrawn w7 d) os) fun e w'' => e = .returned (.bool true) ∧ ∃ p : Regrown, w'' = grow (redrawn w7 p.d) p.os) := Lib.hid (fun d os => Calls.regrown_of (ssame_any x y HP.out.1 (HLX.out.2.1.more (by decide)) (grow (redrawn w7 d) os) (HSX7.out.far (below_regrown w7 d os)) (HSY.out.far (below_regrown w7 d os))))
  have HSR : Hid (∀ (r t : RepM), r.x = t.x → r.x.vals.length ≤ 1000 → SK.See w7 w7.heap.size r.A r.x.vals → SK.See w7 w7.heap.size t.A t.x.vals → ∀ d os, Calls Tryd.prog 15 #[.agg (repv r.x.client r.x.num r.x.code r.A r.x.vals.length r.z), .agg (repv t.x.client t.x.num t.x.code t.A t.x.vals.length t.z)] (grow (redrawn w7 d) os) fun e w'' => e = .returned (.bool true) ∧ ∃ p : Regrown, w'' = grow (redrawn w7 p.d) p.os) := Lib.hid (fun r t hrt hl h1 h2 d os => by
    have h3 := rsame_any9 r.x.client r.x.num r.x.code r.A r.x.vals r.z t.x.client t.x.num t.x.code t.A t.x.vals t.z (by unfold maxLen; omega) (by rw [← hrt]; unfold maxLen; omega) (grow (redrawn w7 d) os) (sk_see (EK.See.far h1 (below_regrown w7 d os))) (sk_see (EK.See.far h2 (below_regrown w7 d os)))
    rw [← hrt, same9_self] at h3
    rw [← hrt]
    exact Calls.regrown_of h3)
  have HR0 := Lib.hid (HSR.out x0 y1 HP.out.2.1.symm HLX.out.2.2.1 HVX7.out.1 HVY.out.2)
  have HR1 := Lib.hid (HSR.out x1 y0 HP.out.2.2.symm HLX.out.2.2.2 HVX7.out.2 HVY.out.1)
  have q0 := Q0.out
  have q1 := Q1.out
  clear hrx hry HSR QR Q0 Q1
  refine wp_region_quiet_below (by kernel_rfl) (by kernel_rfl) ?_
  repeat (quiet_step (first
    | (go_at_call 14; with_reducible exact HS14.out _ _)
    | (go_at_call 15; first | with_reducible exact HR0.out _ _ | with_reducible exact HR1.out _ _)))
  refine wpQuiet_nil ?_
  intro _ hw'
  obtain ⟨⟨dq, osq⟩, hw''⟩ := hw'
  subst hw''
  have HWF := Lib.hid (HW7.out.trans ((below_regrown w7 dq osq).mono HW7.out.size))
  clear q0 q1 Q2 Q3 Q4 Q5 HS14 HR0 HR1 HW7
  generalize grow (redrawn w7 dq) osq = w8 at *
  go_wp2
  go_ret
  exact ⟨rfl, HWF.out⟩
end Go.Proofs.YtbgbidgggjkmmaaDoor
