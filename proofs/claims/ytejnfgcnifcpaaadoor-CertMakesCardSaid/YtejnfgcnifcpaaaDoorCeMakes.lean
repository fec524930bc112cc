/-
  CertMakes: the walk. Written by gen_cemakes.py.
-/
import Derived.Test.YtejnfgcnifcpaaaDoorEB
import Derived.Test.YtejnfgcnifcpaaaDoorCeSame
namespace Go.Proofs.YtejnfgcnifcpaaaDoor
open Go.RowKit Go.Maps Go.Sort

/-! ### On plain lists -/
set_option maxRecDepth 100000 in
theorem certB_take {ep : Int} {ms : List MemX} {b : BlkX} {r s : Int} {xs : List VtX} (h : certB ep ms b r xs = true) (hs : (xs[0]?).map VtX.round = some s) : certB ep ms b s (xs.take (quorumN ms.length)) = true := by
  obtain ⟨hg, hq, hr, ho⟩ := certB_true h
  have hq1 : 1 ≤ quorumN ms.length := by unfold quorumN; omega
  have e : s = r := by
    rw [List.getElem?_eq_getElem (by omega)] at hs
    injection hs with hs
    have h0 := ho _ (List.getElem_mem (by omega : 0 < xs.length))
    unfold ok14 says14 at h0
    simp only [Bool.and_eq_true, decide_eq_true_eq] at h0
    rw [← hs]
    exact h0.1.2.2.1
  subst e
  unfold certB at h ⊢
  simp only [Bool.and_eq_true, decide_eq_true_eq] at h ⊢
  refine ⟨h.1, h.2.1, h.2.2.1, by rw [List.length_take]; omega, risB14_pw.2 ((risB14_pw.1 hr).sublist (List.take_sublist _ _)), List.all_eq_true.2 fun x hx => ho x (List.mem_of_mem_take hx)⟩

attribute [local go_sem ↓] ldVt_def ldCf_def ldBlk_def ldCt_def stCt_def bdCt14_def
set_option maxRecDepth 100000 in
set_option maxHeartbeats 16000000 in
theorem makes_walk14 (ms : List MemX) (ep : Int) (AM : Option Addr) (cM : Nat) (b : BlkM) (hbn : b.x.reqs.length ≤ 140737488351232) (hbq : ∀ q ∈ b.x.reqs, q.key.size ≤ 140737488351232 ∧ q.val.size ≤ 140737488351232 ∧ q.old.size ≤ 140737488351232) (r : Int) (vs : List VtM) (A : Option Addr) (c : Nat) (hvc : vs.length ≤ c) (w : World) (hM : Mems w w.heap.size AM ms) (hB : QSee w w.heap.size b.A b.x.reqs) (hV : VtK.See w w.heap.size A vs) (hS : ∀ m ∈ vs, SgSee w m.sg) (hR : Roots w) :
    Calls Tryd.prog 3 #[.agg (cfgV ep AM ms.length cM), .agg b.cells.toArray, .agg (crtV r A vs.length c)] w fun e w' => e = .returned (.bool true) ∧ Below w.heap.size w w' := by
  obtain ⟨w1, hw1⟩ : ∃ w1, w1 = ((w.alloc (.cells (cfgV ep AM ms.length cM) 24)).alloc (.cells b.cells.toArray 29)).alloc (.cells (crtV r A vs.length c) 32) := ⟨_, rfl⟩
  have hX : Box w1 w.heap.size 24 (cfgV ep AM ms.length cM) := by rw [hw1]; exact ((Box.made w _ _).alloc _).alloc _
  have hY : Box w1 (w.heap.size + 1) 29 b.cells.toArray := by rw [hw1]; exact (Box.made_at (by simp) _ _).alloc _
  have hZ : Box w1 (w.heap.size + 1 + 1) 32 (crtV r A vs.length c) := by rw [hw1]; exact Box.made_at (by simp) _ _
  have HF : Hid (Below w.heap.size w w1) := by rw [hw1]; exact (((Below.refl _ _).alloc (Nat.le_refl _) _).alloc (by simp) _).alloc (by simp; omega) _
  have HC : Hid (∀ w', Below w1.heap.size w1 w' → (ldCf (.pointer (some ⟨w.heap.size, 0, none⟩))).run Tryd.prog w' = .ok (.agg (cfgV ep AM ms.length cM)) w' ∧ w'.cell? ⟨w.heap.size, 1, none⟩ = some (.slice AM ms.length cM) ∧ (ldBlk (.pointer (some ⟨w.heap.size + 1, 0, none⟩))).run Tryd.prog w' = .ok (.agg b.cells.toArray) w' ∧ (ldCt (.pointer (some ⟨w.heap.size + 1 + 1, 0, none⟩))).run Tryd.prog w' = .ok (.agg (crtV r A vs.length c)) w' ∧
      w'.cell? ⟨w.heap.size + 1 + 1, 0, none⟩ = some (.int .i64 r) ∧ w'.cell? ⟨w.heap.size + 1 + 1, 1, none⟩ = some (.slice A vs.length c)) := Lib.hid (fun w' hb => by
    have hx := hX.below hb hX.lt
    have hy := hY.below hb hY.lt
    have hz := hZ.below hb hZ.lt
    exact ⟨hx.l_cf, hx.cell 1, hy.ld_blk, hz.l_ct, hz.cell 0, hz.cell 1⟩)
  have HAL := Lib.hid (alive_any14 w1 (hR.of_below HF.out))
  have HGR : Hid (∀ w', Below w1.heap.size w1 w' → Calls Tryd.prog 7 #[.agg (cfgV ep AM ms.length cM), .agg b.cells.toArray, .agg (crtV r A vs.length c)] w' (GreatC ms b.x vs w')) := Lib.hid (fun w' hb => cgreat_any ms ep AM cM b hbn hbq r vs A c w' ((hB.far HF.out).far hb) (EK.See.far (EK.See.far hV HF.out) hb))
  have HCK : Hid (CSmall ms b.x vs → ∀ w', Below w1.heap.size w1 w' → ∀ (s : Int) (us : List VtM) (A' : Option Addr) (n' c' : Nat), n' = us.length → us.length ≤ 1000 → VtK.See w' w'.heap.size A' us → (∀ m ∈ us, SgSee w' m.sg) → Calls Tryd.prog 11 #[.agg (cfgV ep AM ms.length cM), .agg b.cells.toArray, .agg (crtV s A' n' c')] w' fun e w'' => e = .returned (.bool (certB ep ms b.x s (us.map VtM.x))) ∧ Below w'.heap.size w' w'') := Lib.hid (fun hc w' hb s us A' n' c' hnn hul hsee hsg => by
    subst hnn
    exact ccheck_any ms ep AM cM (Nat.le_trans hc.mem (by omega)) b (few_small14 hc.blk.few) s us A' c' (by omega) w' ((hM.far HF.out).far hb) ((hB.far HF.out).far hb) hsee hsg ((hR.of_below HF.out).of_below hb))
  have HV1 := Lib.hid (EK.See.far hV HF.out)
  have HS1 : Hid (∀ m ∈ vs, SgSee w1 m.sg) := Lib.hid (fun m hm => (hS m hm).call HF.out)
  have HR1 := Lib.hid (hR.of_below HF.out)
  have HVC := Lib.hid hvc
  have HQ : Hid (∀ w', ms.length ≤ 20 → Calls Tryd.prog 8 #[.int .i64 (ms.length : Int)] w' fun e w'' => e = .returned (.int .i64 ((quorumN ms.length : Nat) : Int)) ∧ w' = w'') := Lib.hid (fun w' h => rquorum_any ms.length (by omega) w')
  have HMF : Hid (ms.length ≤ 20 → vs.length < quorumN ms.length → ∀ w', Calls Tryd.prog 9 #[.agg (cfgV ep AM ms.length cM), .slice A vs.length c] w' fun e w'' => e = .returned (.tuple #[.agg (crtV 0 none 0 0), .bool false]) ∧ Below w'.heap.size w' w'') := Lib.hid (fun h1 h2 w' => make_few14 ms ep AM cM (by omega) vs A c h2 w')
  have HMA : Hid (CSmall ms b.x vs → quorumN ms.length ≤ vs.length → ∀ s, (vs[0]?).map (fun m => m.x.round) = some s → ∀ w', Below w1.heap.size w1 w' → Calls Tryd.prog 9 #[.agg (cfgV ep AM ms.length cM), .slice A vs.length c] w' (MakeIs s ((vs.map VtM.x).take (quorumN ms.length)) w')) := Lib.hid (fun hc h2 s hs w' hb => make_any14 ms ep AM cM (Nat.le_trans hc.mem (by omega)) vs A c h2 hvc (Nat.le_trans hc.len (by omega)) hc.few w' (EK.See.far (EK.See.far hV HF.out) hb) (fun m hm => ((hS m hm).call HF.out).call hb) s hs)
  have HTK : Hid (∀ s, (vs[0]?).map (fun m => m.x.round) = some s → certB ep ms b.x r (vs.map VtM.x) = true → certB ep ms b.x s ((vs.map VtM.x).take (quorumN ms.length)) = true) := Lib.hid (fun s hs h => certB_take h (by
    rw [List.getElem?_map, Option.map_map]
    exact hs))
  have HSH : Hid (vs.length < quorumN ms.length → certB ep ms b.x r (vs.map VtM.x) = false) := Lib.hid (fun h => certB_short (by rw [List.length_map]; exact h))
  clear hX hY hZ hM hB hV hS hR hbn hbq hvc
  generalize cfgV ep AM ms.length cM = CF at *
  generalize b.cells.toArray = BC at *
  go_enter Tryd.func3, Tryd.ntmps3
  go_upto_region 1 with fail
  change Code.wp _ _ _ _ (((w.alloc (.cells CF 24)).alloc (.cells BC 29)).alloc (.cells (crtV r A vs.length c) 32))
  rw [← hw1]
  clear hw1
  go_upto_region 3 with (go_at_call 6; (with_reducible refine (HAL.out).mono ?_); rintro e w2 ⟨rfl, hb⟩; have HB2 := Lib.hid hb; clear hb)
  clear HAL
  obtain ⟨k1, _, k3, k4, _, _⟩ := HC.out w2 HB2.out
  go_wp2_with fail
  refine (HGR.out w2 HB2.out).mono ?_
  rintro e w3 ⟨g, rfl, hg, hb⟩
  have HB3 := Lib.hid (HB2.out.trans (hb.mono HB2.out.size))
  clear hb
  cases g with
  | true =>
    clear hg
    go_wp2
    go_ret
    exact ⟨rfl, HF.out.trans (HB3.out.mono HF.out.size)⟩
  | false =>
  have HCS := Lib.hid (hg rfl)
  clear hg HGR k1 k3 k4 HB2
  obtain ⟨k1, k2, _, _, _, k6⟩ := HC.out w3 HB3.out
  have HQ4 := Lib.hid (HQ.out w3 HCS.out.mem)
  have HQ1 : Hid (1 ≤ quorumN ms.length) := Lib.hid (by unfold quorumN; omega)
  clear HQ
  generalize quorumN ms.length = q at *
  by_cases hq : vs.length < q
  · have n1 : decide (vs.length < q) = true := decide_eq_true hq
    have n2 : decide ((vs.length : Int) < (q : Int)) = true := decide_eq_true (by omega)
    have n3 : (vs.length : Int) < (q : Int) := by omega
    have HM3 := Lib.hid (HMF.out HCS.out.mem hq w3)
    have HCB := Lib.hid (HSH.out hq)
    have HX0 : Hid (∀ w', Calls Tryd.prog 10 #[.agg (crtV 0 none 0 0), .agg (crtV 0 none 0 0)] w' fun e w'' => e = .returned (.bool true) ∧ Below w'.heap.size w' w'') := Lib.hid (fun w' => csame_true14 0 [] [] none none 0 0 rfl (fun m hm => (by cases hm)) (by simp) w' (.inl rfl) (.inl rfl) (fun m hm => (by cases hm)) (fun m hm => (by cases hm)))
    clear HMF HMA HTK HSH hq
    go_upto_region 7 with (first
      | (go_at_call 8; (with_reducible refine (HQ4.out).mono ?_); rintro e w5 ⟨rfl, rfl⟩)
      | (go_at_call 9; (with_reducible refine (HM3.out).mono ?_); rintro e w4 ⟨rfl, hb⟩; obtain ⟨w5, hst, hbx, hbl⟩ := laid_ct w4 0 none 0 0; have HX5 := Lib.hid hbx; have HB5 := Lib.hid (HB3.out.trans ((hb.trans (hbl.mono hb.size)).mono HB3.out.size)); clear hb hbx hbl))
    clear hst k1 k2 k6
    generalize w4.heap.size = gy at *
    obtain ⟨k1, _, k3, k4, _, k6⟩ := HC.out w5 HB5.out
    have hbd := bd_ct0
    have l5 := HX5.out.l_ct
    have hck := HCK.out HCS.out
    go_wp2_with (first
      | (go_at_call 10; (with_reducible refine (HX0.out _).mono ?_); rintro e w6 ⟨rfl, hb⟩; have HB6 := Lib.hid (HB5.out.trans (hb.mono HB5.out.size)); obtain ⟨j1, _, j3, j4, _, _⟩ := HC.out w6 HB6.out; have HCC := Lib.hid (HCK.out HCS.out w6 HB6.out r vs A vs.length c rfl (by have := HCS.out.len; omega) (EK.See.far HV1.out HB6.out) (fun m hm => (HS1.out m hm).call HB6.out)); rw [HCB.out] at HCC; clear hb)
      | (go_at_call 11; (with_reducible refine (HCC.out).mono ?_); rintro e w7 ⟨rfl, hb⟩; have HB7 := Lib.hid (HB6.out.trans (hb.mono HB6.out.size)); clear hb))
    go_ret
    exact ⟨rfl, HF.out.trans (HB7.out.mono HF.out.size)⟩
  have n1 : decide (vs.length < q) = false := decide_eq_false hq
  have n2 : decide ((vs.length : Int) < (q : Int)) = false := decide_eq_false (by omega)
  have n3 : ¬ (vs.length : Int) < (q : Int) := by omega
  have hq2 : q ≤ vs.length := by omega
  have HQ2 := Lib.hid hq2
  have hv0 : 0 < vs.length := by have := HQ1.out; omega
  obtain ⟨s, hs⟩ : ∃ s, (vs[0]?).map (fun m => m.x.round) = some s := ⟨(vs[0]'hv0).x.round, by rw [List.getElem?_eq_getElem hv0]; rfl⟩
  have HSR := Lib.hid hs
  have HV0 := Lib.hid hv0
  have HM3 := Lib.hid (HMA.out HCS.out hq2 s hs w3 HB3.out)
  have HTS := Lib.hid (HTK.out s hs)
  have HNL : Hid (((vs.map VtM.x).take q).length = q) := Lib.hid (by rw [List.length_take, List.length_map]; have := HQ2.out; omega)
  clear HMF HMA HTK HSH hq hq2 hs hv0
  go_upto_region 7 with (first
    | (go_at_call 8; (with_reducible refine (HQ4.out).mono ?_); rintro e w5 ⟨rfl, rfl⟩)
    | (go_at_call 9; (with_reducible refine (HM3.out).mono ?_); rintro e w4 ⟨A', c', us, rfl, hx4, hv4, hs4, hb⟩; rw [HNL.out]; obtain ⟨w5, hst, hbx, hbl⟩ := laid_ct w4 s A' q c'; have HX5 := Lib.hid hbx; have HUX := Lib.hid hx4; have HU5 := Lib.hid (EK.See.far hv4 hbl); have HT5 : Hid (∀ m ∈ us, SgSee w5 m.sg) := Lib.hid (fun m hm => (hs4 m hm).call hbl); have HB5 := Lib.hid (HB3.out.trans ((hb.trans (hbl.mono hb.size)).mono HB3.out.size)); clear hb hbx hbl hx4 hv4 hs4))
  clear hst k1 k2 k6 HM3 HQ4
  generalize w4.heap.size = gy at *
  have k6 := (HC.out w5 HB5.out).2.2.2.2.2
  go_upto_region 9 with fail
  clear n1 n2 n3 k6
  obtain ⟨wd, hwd⟩ : ∃ wd, wd = w5.drew := ⟨_, rfl⟩
  have hbd : Below w5.heap.size w5 wd := by rw [hwd]; exact (Below.refl _ _).drew
  have HD5 := Lib.hid hbd
  have HBd := Lib.hid (HB5.out.trans (hbd.mono HB5.out.size))
  clear hbd
  have HX1 : Hid (∀ w', Below wd.heap.size wd w' → w'.cell? ⟨w.heap.size + 1 + 1, 1, none⟩ = some (.slice A vs.length c)) := Lib.hid (fun w' hb => (HC.out w' (HBd.out.trans (hb.mono HBd.out.size))).2.2.2.2.2)
  obtain ⟨ga, oa, hA, _, hrg⟩ := EK.See.range (EK.See.far HV1.out HBd.out) HV0.out
  subst hA
  have HV6 := Lib.hid (EK.See.far HV1.out HBd.out)
  have HR0 : Hid (∀ w', Below wd.heap.size wd w' → w'.cell? ⟨ga, oa + 3, none⟩ = some (.int .i64 s)) := Lib.hid (fun w' hb => by
    obtain ⟨g2, o2, hA2, _, hr2⟩ := EK.See.range (EK.See.far HV6.out hb) HV0.out
    injection hA2 with hA2
    injection hA2 with e1 e2
    subst e1
    subst e2
    have h1 := range_round (hr2 0 HV0.out)
    have h2 := HSR.out
    rw [List.getElem?_eq_getElem HV0.out] at h2
    injection h2 with h2
    rw [← h2]
    have h3 : w'.cell? ⟨ga, oa + 0 * 41 + 3, none⟩ = some (.int .i64 (vs[0]'HV0.out).x.round) := h1
    simpa using h3)
  have b0 : (q : Int) ≤ (c : Int) := by have := HQ2.out; have := HVC.out; omega
  have b1 : ¬ c = 0 := by have := HQ1.out; have := HQ2.out; have := HVC.out; omega
  have i0 : (0 : Int) < (vs.length : Int) := by have := HV0.out; omega
  have i1 : 0 < vs.length := HV0.out
  have hbt := bd_ct2 s (some ⟨ga, oa, none⟩) q c
  clear hrg
  refine wp_region_held_drew (S := fun w' => Below wd.heap.size wd w') (by kernel_rfl) (by rw [← hwd]; exact Below.refl _ _) (fun hS => ?_)
  rw [← hwd] at hS ⊢
  clear hwd
  (refine wpAnyH_take (i := 0) (v := .pointer (some ⟨w.heap.size + 1 + 1, 1, none⟩)) rfl (by kernel_rfl) (by kernel_rfl) (by kernel_rfl) (fun _ _ _ h => h) (Or.inl ⟨by kernel_rfl, fun w hSw => by go_simp⟩) hS ?_)
  (try simp only [Act.put])
  (refine wpAnyH_take (i := 1) (v := .slice (some ⟨ga, oa, none⟩) vs.length c) rfl (by kernel_rfl) (by kernel_rfl) (by kernel_rfl) (fun _ _ _ h => h) (Or.inl ⟨by kernel_rfl, fun w hSw => by have hc := HX1.out w hSw; go_simp⟩) hS ?_)
  (try simp only [Act.put])
  (refine wpAnyH_take (i := 2) (v := .pointer (some ⟨ga, oa, none⟩)) rfl (by kernel_rfl) (by kernel_rfl) (by kernel_rfl) (fun _ _ _ h => h) (Or.inl ⟨by kernel_rfl, fun w hSw => by go_simp⟩) hS ?_)
  (try simp only [Act.put])
  (refine wpAnyH_take (i := 3) (v := .pointer (some ⟨ga, oa + 3, none⟩)) rfl (by kernel_rfl) (by kernel_rfl) (by kernel_rfl) (fun _ _ _ h => h) (Or.inl ⟨by kernel_rfl, fun w hSw => by go_simp⟩) hS ?_)
  (try simp only [Act.put])
  (refine wpAnyH_take (i := 4) (v := .int .i64 s) rfl (by kernel_rfl) (by kernel_rfl) (by kernel_rfl) (fun _ _ _ h => h) (Or.inl ⟨by kernel_rfl, fun w hSw => by have hc := HR0.out w hSw; go_simp⟩) hS ?_)
  (try simp only [Act.put])
  (refine wpAnyH_take (i := 5) (v := .pointer (some ⟨w.heap.size + 1 + 1, 1, none⟩)) rfl (by kernel_rfl) (by kernel_rfl) (by kernel_rfl) (fun _ _ _ h => h) (Or.inl ⟨by kernel_rfl, fun w hSw => by go_simp⟩) hS ?_)
  (try simp only [Act.put])
  (refine wpAnyH_take (i := 6) (v := .slice (some ⟨ga, oa, none⟩) vs.length c) rfl (by kernel_rfl) (by kernel_rfl) (by kernel_rfl) (fun _ _ _ h => h) (Or.inl ⟨by kernel_rfl, fun w hSw => by have hc := HX1.out w hSw; go_simp⟩) hS ?_)
  (try simp only [Act.put])
  (refine wpAnyH_take (i := 7) (v := .int .i64 (q : Int)) rfl (by kernel_rfl) (by kernel_rfl) (by kernel_rfl) (fun _ _ _ h => h) (Or.inl ⟨by kernel_rfl, fun w hSw => by go_simp⟩) hS ?_)
  (try simp only [Act.put])
  (refine wpAnyH_take (i := 8) (v := .slice (some ⟨ga, oa, none⟩) q c) rfl (by kernel_rfl) (by kernel_rfl) (by kernel_rfl) (fun _ _ _ h => h) (Or.inl ⟨by kernel_rfl, fun w hSw => by go_simp⟩) hS ?_)
  (try simp only [Act.put])
  (refine wpAnyH_take (i := 9) (v := .agg (crtV s (some ⟨ga, oa, none⟩) q c)) rfl (by kernel_rfl) (by kernel_rfl) (by kernel_rfl) (fun _ _ _ h => h) (Or.inl ⟨by kernel_rfl, fun w hSw => by have hc := hbt w; go_simp⟩) hS ?_)
  (try simp only [Act.put])
  refine wpAnyH_ready (rs := [10]) (by decide +kernel) (by simp) (AllReadyH.cons rfl (fun K hK => ?_) AllReadyH.nil)
  go_simp
  have hal := hS.alloc hS.size (.cells (crtV 0 none 0 0) 32)
  obtain ⟨w6, hst, hbx, hbl⟩ := laid_ct wd s (some ⟨ga, oa, none⟩) q c
  refine hK.out _ _ (hal) (fun hS => ?_)
  clear hK K
  (try simp only [Act.put])
  have HX6 := Lib.hid hbx
  have HB6 := Lib.hid hbl
  clear hbx hal
  refine wpAnyH_ready (rs := [11]) (by decide +kernel) (by simp) (AllReadyH.cons rfl (fun K hK => ?_) AllReadyH.nil)
  go_simp
  refine hK.out _ _ (hbl) (fun hS => ?_)
  clear hK K
  (try simp only [Act.put])
  refine wpAnyH_done (by kernel_rfl) ?_ _
  clear hst hbt hS hbl HX1 HR0 b0 b1 i0 i1
  have HB6a := Lib.hid (HBd.out.trans (HB6.out.mono HBd.out.size))
  have HD6 := Lib.hid (HD5.out.trans (HB6.out.mono HD5.out.size))
  have HU6 := Lib.hid (EK.See.far HU5.out HD6.out)
  have HT6 : Hid (∀ m ∈ us, SgSee w6 m.sg) := Lib.hid (fun m hm => (HT5.out m hm).call HD6.out)
  have HY6 := Lib.hid (HX5.out.below HD6.out HX5.out.lt)
  have HUL : Hid (us.length = q) := Lib.hid (by
    have h := congrArg List.length HUX.out
    rw [List.length_map] at h
    rw [h, HNL.out])
  generalize wd.heap.size = gw at *
  have l5 := HY6.out.l_ct
  have l6 := HX6.out.l_ct
  have hsm := csame_true14 s us (vs.take q) A' (some ⟨ga, oa, none⟩) c' c (by rw [List.map_take, HUX.out]) (fun m hm => by
      have h : m.x ∈ (vs.map VtM.x).take q := by rw [← HUX.out]; exact List.mem_map.2 ⟨m, hm, rfl⟩
      obtain ⟨m2, hm2, e⟩ := List.mem_map.1 (List.mem_of_mem_take h)
      rw [← e]
      exact HCS.out.few m2 hm2) (by rw [HUL.out]; have := HQ2.out; have := HCS.out.len; omega) w6 HU6.out (see_take14 (EK.See.far HV1.out HB6a.out) q) (fun m hm => vsee14 (HT6.out m hm)) (fun m hm => vsee14 ((HS1.out m (List.mem_of_mem_take hm)).call HB6a.out))
  rw [HUL.out, show (vs.take q).length = q from (by rw [List.length_take]; have := HQ2.out; omega)] at hsm
  have HSM := Lib.hid hsm
  have HK1 : Hid (∀ w', Below w6.heap.size w6 w' → Calls Tryd.prog 11 #[.agg CF, .agg BC, .agg (crtV r (some ⟨ga, oa, none⟩) vs.length c)] w' fun e w'' => e = .returned (.bool (certB ep ms b.x r (vs.map VtM.x))) ∧ Below w'.heap.size w' w'') := Lib.hid (fun w' hb => by
    have hb2 := HB6a.out.trans (hb.mono HB6a.out.size)
    exact HCK.out HCS.out w' hb2 r vs (some ⟨ga, oa, none⟩) vs.length c rfl (by have := HCS.out.len; omega) (EK.See.far HV1.out hb2) (fun m hm => (HS1.out m hm).call hb2))
  have HK2 : Hid (certB ep ms b.x r (vs.map VtM.x) = true → ∀ w', Below w6.heap.size w6 w' → Calls Tryd.prog 11 #[.agg CF, .agg BC, .agg (crtV s A' q c')] w' fun e w'' => e = .returned (.bool true) ∧ Below w'.heap.size w' w'') := Lib.hid (fun hc w' hb => by
    have hb2 := HB6a.out.trans (hb.mono HB6a.out.size)
    have h := HCK.out HCS.out w' hb2 s us A' q c' HUL.out.symm (by rw [HUL.out]; have := HQ2.out; have := HCS.out.len; omega) (EK.See.far HU6.out hb) (fun m hm => (HT6.out m hm).call hb)
    rw [HUX.out, HTS.out hc] at h
    exact h)
  have HLD : Hid (∀ w', Below w6.heap.size w6 w' → (ldCf (.pointer (some ⟨w.heap.size, 0, none⟩))).run Tryd.prog w' = .ok (.agg CF) w' ∧ (ldBlk (.pointer (some ⟨w.heap.size + 1, 0, none⟩))).run Tryd.prog w' = .ok (.agg BC) w' ∧ (ldCt (.pointer (some ⟨w.heap.size + 1 + 1, 0, none⟩))).run Tryd.prog w' = .ok (.agg (crtV r (some ⟨ga, oa, none⟩) vs.length c)) w' ∧ (ldCt (.pointer (some ⟨gy, 0, none⟩))).run Tryd.prog w' = .ok (.agg (crtV s A' q c')) w') := Lib.hid (fun w' hb => by
    have h := HC.out w' (HB6a.out.trans (hb.mono HB6a.out.size))
    exact ⟨h.1, h.2.2.1, h.2.2.2.1, (HY6.out.below hb HY6.out.lt).l_ct⟩)
  have HFZ := Lib.hid (HF.out.trans (HB6a.out.mono HF.out.size))
  clear hsm HCK HC HCS HV1 HS1 HR1 HVC HUX HU5 HT5 HX5 HU6 HT6 HX6 HY6 HTS HB5 HBd HD5 HD6 HB6 HB6a HB3 HV6 HSR HV0 HNL HUL HF
  generalize certB ep ms b.x r (vs.map VtM.x) = cb at *
  cases cb with
  | false =>
    clear HK2
    go_wp2_with (first
      | (go_at_call 10; (with_reducible refine (HSM.out).mono ?_); rintro e w7 ⟨rfl, hb⟩; have HB7 := Lib.hid hb; obtain ⟨j1, j2, j3, _⟩ := HLD.out w7 hb; clear hb)
      | (go_at_call 11; (with_reducible refine (HK1.out _ HB7.out).mono ?_); rintro e w8 ⟨rfl, hb⟩; have HB8 := Lib.hid (HB7.out.trans (hb.mono HB7.out.size)); clear hb))
    go_ret
    exact ⟨rfl, HFZ.out.trans (HB8.out.mono HFZ.out.size)⟩
  | true =>
    have HK3 := Lib.hid (HK2.out rfl)
    clear HK2
    go_wp2_with (first
      | (go_at_call 10; (with_reducible refine (HSM.out).mono ?_); rintro e w7 ⟨rfl, hb⟩; have HB7 := Lib.hid hb; obtain ⟨j1, j2, j3, _⟩ := HLD.out w7 hb; clear hb)
      | (go_at_call 11; (with_reducible refine (HK3.out _ HB8.out).mono ?_); rintro e w9 ⟨rfl, hb⟩; have HB9 := Lib.hid (HB8.out.trans (hb.mono HB8.out.size)); clear hb)
      | (go_at_call 11; (with_reducible refine (HK1.out _ HB7.out).mono ?_); rintro e w8 ⟨rfl, hb⟩; have HB8 := Lib.hid (HB7.out.trans (hb.mono HB7.out.size)); obtain ⟨i1, i2, _, i4⟩ := HLD.out w8 HB8.out; clear hb))
    go_ret
    exact ⟨rfl, HFZ.out.trans (HB9.out.mono HFZ.out.size)⟩
end Go.Proofs.YtejnfgcnifcpaaaDoor
