/-
  ConfigKeeps: the walk.
-/
import Derived.Test.YtloaidahlagmiaaCfBack
namespace Go.Proofs.Ytloaidahlagmiaa
open Go.RowKit Go.Sort

attribute [local go_sem ↓] ldMem_def stMem_def eqMem_def bdMem_def bsMem_def apAll_def ldChg_def ldCfg_def stCfg_def

set_option maxRecDepth 100000 in
theorem flat_id {L : List MemX} {t : Nat} (ht : t < L.length) (v : Int) : flatM (L.set t ⟨v, (L[t]'ht).root, (L[t]'ht).high, (L[t]'ht).len⟩) = (flatM L).set (t * 34) (.int .i64 v) := by
  have hp : (flatM (L.take t)).length = t * 34 := by rw [flatM_len, List.length_take]; congr 1; omega
  rw [flat_set ht, flat_split ht, List.set_append_right _ _ (by omega), hp, Nat.sub_self]
  rfl
set_option maxRecDepth 100000 in
theorem OwnM.set_id {w : World} {base g n c : Nat} {L : List MemX} (h : OwnM w base (.slice (some ⟨g, 0, none⟩) n c) L) {t : Nat} (ht : t < L.length) (v : Int) :
    w.cell? ⟨g, t * 34, none⟩ = some (.int .i64 (L[t]'ht).id) ∧ w.frozen? ⟨g, t * 34, none⟩ = false ∧ OwnM (w.setCell ⟨g, t * 34, none⟩ (.int .i64 v)) base (.slice (some ⟨g, 0, none⟩) n c) (L.set t ⟨v, (L[t]'ht).root, (L[t]'ht).high, (L[t]'ht).len⟩) ∧ w.grownBy (w.setCell ⟨g, t * 34, none⟩ (.int .i64 v)) (some g) := by
  rcases h.2 with ⟨h1, _⟩ | ⟨g', cap, cur, h1, hbase, hb, hcap, hmax, hsz, htk⟩
  · cases h1
  · injection h1 with e1 e2 e3
    injection e1 with e1
    injection e1 with e1
    subst e1
    subst e3
    have hbx : Box w g 31 cur := hb
    have hlt : t * 34 < L.length * 34 := by omega
    have hlt2 : t * 34 < cur.size := by
      have := Nat.mul_le_mul_right 34 hcap
      omega
    have hc : cur[t * 34]? = some (.int .i64 (L[t]'ht).id) := by
      have h2 : (flatM L)[t * 34]? = cur[t * 34]? := by rw [← htk, List.getElem?_take, if_pos hlt, Array.getElem?_toList]
      rw [← h2, flat_split ht, List.getElem?_append_right (by rw [flatM_len, List.length_take]; omega)]
      have hp : (flatM (L.take t)).length = t * 34 := by rw [flatM_len, List.length_take]; congr 1; omega
      rw [hp, Nat.sub_self]
      rfl
    refine ⟨by rw [hbx.cell]; exact hc, hbx.free _, ⟨flatM_len _, .inr ⟨g, c, cur.setIfInBounds (t * 34) (.int .i64 v), by rw [e2, List.length_set], hbase, hbx.put _ _, by rw [List.length_set]; exact hcap, hmax, by rw [Array.size_setIfInBounds]; exact hsz, ?_⟩⟩, only_put (only_refl _ _) _ _⟩
    rw [List.length_set, Array.toList_setIfInBounds, List.take_set, htk, flat_id ht]

set_option maxRecDepth 100000 in
theorem mems_front {w : World} {B : Nat} {A : Option Addr} {ms ns : List MemX} (h : Mems w B A (ms ++ ns)) : Mems w B A ms := by
  have h2 := Sees.take h (ms.length * 34)
  have e : (flatM (ms ++ ns)).take (ms.length * 34) = flatM ms := by
    show ((ms ++ ns).flatMap _).take _ = _
    rw [List.flatMap_append, ← flatM_len ms, List.take_append_of_le_length (Nat.le_refl _), List.take_of_length_le (Nat.le_refl _)]
  rw [e] at h2
  exact h2
set_option maxRecDepth 100000 in
theorem mems_last {w : World} {B g : Nat} {ms : List MemX} {x : MemX} (h : Mems w B (some ⟨g, 0, none⟩) (ms ++ [x])) : w.rangeAt g (ms.length * 34) x.cells := by
  obtain ⟨g', o', e, _, hr⟩ := h.range (i := ms.length) (by simp)
  injection e with e
  injection e with e1 e2
  subst e1
  subst e2
  have := hr ms.length (by simp)
  rw [Nat.zero_add] at this
  simpa using this
set_option maxRecDepth 100000 in
set_option maxHeartbeats 8000000 in
theorem keeps_walk8 (ep : Int) (ms : List MemX) (A : Option Addr) (c : Nat) (hn : ms.length ≤ maxLen) (k i n : Int) (r : List UInt8) (h : Int) (hr : r.length = 32) (w : World) (hS : Mems w w.heap.size A ms) :
    Calls Try.prog 6 #[.agg (cfgV ep A ms.length c), chgV k i n r h] w fun e w' => e = .returned (.bool true) ∧ Below w.heap.size w w' := by
  obtain ⟨w1, hw1⟩ : ∃ w1, w1 = (w.alloc (.cells (cfgV ep A ms.length c) 24)).alloc (.cells (chgL k i n r h).toArray 43) := ⟨_, rfl⟩
  have HX : Hid (Box w1 w.heap.size 24 (cfgV ep A ms.length c)) := by
    rw [hw1]
    exact (Box.made w _ _).alloc _
  have HY : Hid (Box w1 (w.heap.size + 1) 43 (chgL k i n r h).toArray) := by
    rw [hw1]
    exact Box.made_at (by simp) _ _
  have HF : Hid (Below w.heap.size w w1) := by
    rw [hw1]
    exact ((Below.refl _ _).alloc (Nat.le_refl _) _).alloc (by simp) _
  have HS := Lib.hid (hS.far HF.out)
  have HMX := Lib.hid hn
  have HR := Lib.hid hr
  clear hS hn
  go_enter Try.func6, Try.ntmps6
  go_upto_region 1 with fail
  change Code.wp _ _ _ _ ((w.alloc (.cells (cfgV ep A ms.length c) 24)).alloc (.cells (chgL k i n r h).toArray 43))
  rw [← hw1]
  clear hw1
  go_upto_region 3 with (go_at_call 9; (with_reducible refine (alive_any8 _).mono ?_); rintro e w2 ⟨rfl, hb2⟩; have HB2 := Lib.hid hb2; clear hb2)
  have HX2 := Lib.hid (HX.out.below HB2.out HX.out.lt)
  have HY2 := Lib.hid (HY.out.below HB2.out HY.out.lt)
  have HF2 : Hid (Below w.heap.size w w2) := Lib.hid (HF.out.trans (HB2.out.mono HF.out.size))
  have HS2 := Lib.hid (HS.out.far HB2.out)
  have c1 : w2.cell? ⟨w.heap.size, 1, none⟩ = some (.slice A ms.length c) := HX2.out.cell 1
  clear HX HY HF HS HB2
  by_cases hbig : (256 : Int) < (ms.length : Int)
  · go_wp2
    go_ret
    exact ⟨rfl, HF2.out⟩
  have HL : Hid (ms.length ≤ 256) := Lib.hid (by omega)
  -- full
  obtain ⟨wa, hwa⟩ : ∃ wa, wa = w2.alloc (.cells #[] 31) := ⟨_, rfl⟩
  have hFa : Below w2.heap.size w2 wa := by
    rw [hwa]
    exact (Below.refl _ _).alloc (Nat.le_refl _) _
  have hs0 := build_mem0 w2
  have ho0 := own_mem0 w2 (Nat.le_refl _)
  rw [← hwa] at hs0 ho0
  have c1a := (HX2.out.below hFa HX2.out.lt).cell 1
  obtain ⟨v1, wb, hap1, ho1, hg1⟩ := append_mems (n := 0) (ms := []) rfl ho0 (A := A) (m := ms.length) (c := c) (es := ms) rfl (HS2.out.far hFa) (by have := HL.out; omega) hFa.size
  rw [List.nil_append] at ho1
  obtain ⟨A1, d1, rfl⟩ := ho1.slice
  have hFb := hFa.trans (below_own ho0 hg1 hFa.size)
  have hs1 := build_mem1 (idM 71) wb
  have hbd := bd_id 71
  obtain ⟨wc, hwc⟩ : ∃ wc, wc = wb.alloc (.cells (idM 71).cells.toArray 31) := ⟨_, rfl⟩
  have hFc0 : Below wb.heap.size wb wc := by
    rw [hwc]
    exact (Below.refl _ _).alloc (Nat.le_refl _) _
  have hm1 := mems_one wb (idM 71)
  rw [← hwc] at hs1 hm1
  have hFc := hFb.trans (hFc0.mono hFb.size)
  have ho1c : OwnM wc w2.heap.size (.slice A1 ms.length d1) ms := ho1.keep hFc0
  obtain ⟨v2, wd, hap2, ho2, hg2⟩ := append_mems rfl ho1c (A := some ⟨wb.heap.size, 0, none⟩) (m := 1) (c := 1) (es := [idM 71]) rfl hm1 (by have := HL.out; omega) hFc.size
  have hlen : (ms ++ [idM 71]).length = ms.length + 1 := by simp
  obtain ⟨A2, d2, rfl⟩ := ho2.slice
  rw [hlen] at hap2 ho2
  have hbn := ho2.bounds
  rw [hlen] at hbn
  obtain ⟨_, hcap, _, hsome⟩ := hbn
  obtain ⟨gf, rfl, hgf1, hgf2⟩ := hsome (by omega)
  have HFD : Hid (Below w2.heap.size w2 wd) := Lib.hid (hFc.trans (below_own ho1c hg2 hFc.size))
  have HO2 : Hid (OwnM wd w2.heap.size (.slice (some ⟨gf, 0, none⟩) (ms.length + 1) d2) (ms ++ [idM 71])) := Lib.hid ho2
  have HC2 := Lib.hid hcap
  have hub := mem_upto (g := gf) (n := ms.length + 1) (i := ms.length) (c := d2) (by omega)
  unfold idM at hs1
  have hsx : (bsMem 1 #[(0, .agg (memL 71 z32 0).toArray)]).run Try.prog wb = .ok (.slice (some ⟨wb.heap.size, 0, none⟩) 1 1) wc := hs1
  have HEQ : Hid (∀ w, (eqMem (.agg (memL 71 z32 0).toArray) (.agg (memL 71 z32 0).toArray)).run Try.prog w = .ok true w) := Lib.hid (eq_mem_self (idM 71))
  have HLD : Hid (∀ (w : World) (g o : Nat), w.rangeAt g o (idM 71).cells → (ldMem (.pointer (some ⟨g, o, none⟩))).run Try.prog w = .ok (.agg (memL 71 z32 0).toArray) w) := Lib.hid (fun w g o hh => range_ldm hh)
  generalize hm71 : (memL 71 z32 0).toArray = m71 at *
  clear hs1 hFa ho0 hg1 ho1 hFb hFc0 hm1 hFc ho1c hg2 hlen ho2 hcap hsome hgf1 hgf2 hwa hwc
  go_upto_region 6 with fail
  clear c1 hs0 c1a hap1 hap2 hsx hm71
  have HXd := HX2.out.below HFD.out HX2.out.lt
  have hXd := HXd.drew
  refine wp_region_held_drew (S := fun w' => Box w' w.heap.size 24 (cfgV ep A ms.length c)) (by kernel_rfl) hXd (fun hS => ?_)
  have HFE : Hid (Below w2.heap.size w2 wd.drew) := Lib.hid HFD.out.drew
  have HO2e : Hid (OwnM wd.drew w2.heap.size (.slice (some ⟨gf, 0, none⟩) (ms.length + 1) d2) (ms ++ [idM 71])) := HO2
  clear HXd hXd HFD HO2
  generalize wd.drew = we at *
  obtain ⟨wf, hst, hbf, hgf⟩ := laid_cfg we ep (some ⟨gf, 0, none⟩) ms.length d2
  have HMf := Lib.hid hbf
  have HXa : Hid (Box (we.alloc (.cells (cfgV 0 none 0 0) 24)) w.heap.size 24 (cfgV ep A ms.length c)) := Lib.hid (hS.alloc _)
  have HXf : Hid (Box wf w.heap.size 24 (cfgV ep A ms.length c)) := Lib.hid (hS.below hgf hS.lt)
  have HFF : Hid (Below w2.heap.size w2 wf) := Lib.hid (HFE.out.trans (hgf.mono HFE.out.size))
  have HFU : Hid (Mems wf wf.heap.size (some ⟨gf, 0, none⟩) (ms ++ [idM 71])) := Lib.hid ((HO2e.out.keep hgf).mems)
  clear hbf hgf
  (refine take_at8 (i := 0) (d := 23) (v := .pointer (some ⟨w.heap.size, 0, none⟩)) rfl (by kernel_rfl) (by kernel_rfl) (by kernel_rfl) (fun _ _ _ h => h) rfl (Or.inl ⟨by kernel_rfl, fun w hSw => by go_simp⟩) hS ?_)
  (refine take_at8 (i := 1) (d := 24) (v := .int .i64 ep) rfl (by kernel_rfl) (by kernel_rfl) (by kernel_rfl) (fun _ _ _ h => h) rfl (Or.inl ⟨by kernel_rfl, fun w hSw => by have hc := hSw.cell 0; go_simp⟩) hS ?_)
  (refine take_at8 (i := 2) (d := 25) (v := .slice (some ⟨gf, 0, none⟩) (ms.length + 1) d2) rfl (by kernel_rfl) (by kernel_rfl) (by kernel_rfl) (fun _ _ _ h => h) rfl (Or.inl ⟨by kernel_rfl, fun w hSw => by go_simp⟩) hS ?_)
  (refine take_at8 (i := 3) (d := 26) (v := .pointer (some ⟨w.heap.size, 1, none⟩)) rfl (by kernel_rfl) (by kernel_rfl) (by kernel_rfl) (fun _ _ _ h => h) rfl (Or.inl ⟨by kernel_rfl, fun w hSw => by go_simp⟩) hS ?_)
  (refine take_at8 (i := 4) (d := 27) (v := .slice A ms.length c) rfl (by kernel_rfl) (by kernel_rfl) (by kernel_rfl) (fun _ _ _ h => h) rfl (Or.inl ⟨by kernel_rfl, fun w hSw => by have hc := hSw.cell 1; go_simp⟩) hS ?_)
  (refine take_at8 (i := 5) (d := 28) (v := .int .i64 (ms.length : Int)) rfl (by kernel_rfl) (by kernel_rfl) (by kernel_rfl) (fun _ _ _ h => h) rfl (Or.inl ⟨by kernel_rfl, fun w hSw => by go_simp⟩) hS ?_)
  (refine take_at8 (i := 6) (d := 29) (v := .slice (some ⟨gf, 0, none⟩) ms.length d2) rfl (by kernel_rfl) (by kernel_rfl) (by kernel_rfl) (fun _ _ _ h => h) rfl (Or.inl ⟨by kernel_rfl, fun w hSw => by have hc := hub w; go_simp⟩) hS ?_)
  (refine take_at8 (i := 7) (d := 30) (v := .agg (cfgV ep (some ⟨gf, 0, none⟩) ms.length d2)) rfl (by kernel_rfl) (by kernel_rfl) (by kernel_rfl) (fun _ _ _ h => h) rfl (Or.inl ⟨by kernel_rfl, fun w hSw => by go_simp⟩) hS ?_)
  refine wpAnyH_ready (rs := [8]) (by decide +kernel) (by simp) (AllReadyH.cons rfl (fun K hK => ?_) AllReadyH.nil)
  go_simp
  refine hK.out _ _ (HXa.out) (fun hS => ?_)
  clear hK K
  (try simp only [Act.put])
  refine wpAnyH_ready (rs := [9]) (by decide +kernel) (by simp) (AllReadyH.cons rfl (fun K hK => ?_) AllReadyH.nil)
  go_simp
  refine hK.out _ _ (HXf.out) (fun hS => ?_)
  clear hK K
  (try simp only [Act.put])
  refine wpAnyH_done (by kernel_rfl) ?_ _
  clear hS hst hub
  go_simp
  have HSF := Lib.hid (HS2.out.far HFF.out)
  have HPF : Hid (Mems wf wf.heap.size (some ⟨gf, 0, none⟩) ms) := Lib.hid (mems_front HFU.out)
  have HLF : Hid (∀ w', Below wf.heap.size wf w' → (ldMem (.pointer (some ⟨gf, ms.length * 34, none⟩))).run Try.prog w' = .ok (.agg m71) w') := Lib.hid (fun w' hb => HLD.out w' gf (ms.length * 34) (mems_last (HFU.out.far hb)))
  have HYf := Lib.hid (HY2.out.below HFF.out HY2.out.lt)
  have l1 := HMf.out.ld_cfg
  have l2 := ld_chg HR.out HYf.out
  have heq := HEQ.out
  have i3 : (ms.length : Int) < (ms.length : Int) + 1 := by omega
  clear HO2e HFU HLD HEQ HY2 HX2 HS2
  generalize we.heap.size = gm at *
  by_cases he : errC ep ms k i n h = 0
  case neg =>
    have HAP := Lib.hid (apply_not ep ms (some ⟨gf, 0, none⟩) d2 HMX.out k i n r h HR.out he wf HPF.out)
    generalize errC ep ms k i n h = er at *
    clear he
    go_upto_region 8 with (go_at_call 19; (with_reducible refine (HAP.out).mono ?_); rintro e wg ⟨rfl, hbg⟩; obtain ⟨wh, hst, hbh, hgh⟩ := laid_cfg wg 0 none 0 0; have HD := Lib.hid hbh; have HBh : Hid (Below wf.heap.size wf wh) := Lib.hid (hbg.trans (hgh.mono hbg.size)); clear hbg hbh hgh)
    clear l1 l2 hst HAP
    generalize wg.heap.size = gd at *
    have d1 : wh.cell? ⟨gd, 1, none⟩ = some (.slice none 0 0) := HD.out.cell 1
    go_wp2
    clear d1
    go_loopw [40] (fun q wr => q = .int .i64 0 ∧ Hid (Below wf.heap.size wf wr)) (fun _ _ => 0)
    case atStart => exact ⟨rfl, HBh⟩
    case round =>
      obtain ⟨rfl, HZ⟩ := hrel
      have HXr := Lib.hid (HXf.out.below HZ.out HXf.out.lt)
      have HMr := Lib.hid (HMf.out.below HZ.out HMf.out.lt)
      have r1 := HMr.out.ld_cfg
      have r2 := HXr.out.ld_cfg
      have HSM := Lib.hid (same_self ep ms (some ⟨gf, 0, none⟩) A d2 c HMX.out wr (HPF.out.far HZ.out) (HSF.out.far HZ.out))
      go_wp2_with (go_at_call 20; (with_reducible refine (HSM.out).mono ?_); rintro e wz ⟨rfl, hbz⟩; have HBz : Hid (Below wf.heap.size wf wz) := Lib.hid (HZ.out.trans (hbz.mono HZ.out.size)); have z1 := (HXf.out.below HBz.out HXf.out.lt).cell 1; have z2 := HLF.out wz HBz.out; clear hbz)
      go_ret
      exact ⟨rfl, HF2.out.trans ((HFF.out.trans (HBz.out.mono HFF.out.size)).mono HF2.out.size)⟩
  have HAP := Lib.hid (apply_ok ep ms (some ⟨gf, 0, none⟩) d2 k i n r h HR.out he wf HPF.out)
  have HE := Lib.hid he
  clear he
  go_upto_region 8 with (go_at_call 19; (with_reducible refine (HAP.out).mono ?_); rintro e wg ⟨A', c', ys, rfl, hbb, hog, hbg⟩; have HLY : Hid (ys.length ≤ 10) := Lib.hid (good_len (hbb.good HE.out)).2.2.2; obtain ⟨wh, hst, hbh, hgh⟩ := laid_cfg wg (ep + 1) A' ys.length c'; have HD := Lib.hid hbh; have HOH : Hid (OwnM wh wf.heap.size (.slice A' ys.length c') ys) := Lib.hid (hog.keep hgh); have HBh : Hid (Below wf.heap.size wf wh) := Lib.hid (hbg.trans (hgh.mono hbg.size)); clear hbb hog hbg hbh hgh)
  clear l1 l2 hst HAP
  generalize wg.heap.size = gd at *
  have d1 : wh.cell? ⟨gd, 1, none⟩ = some (.slice A' ys.length c') := HD.out.cell 1
  go_wp2
  clear d1
  go_loopw [40] (fun q wr => ∃ (t : Nat) (L : List MemX), t ≤ ys.length ∧ q = .int .i64 (t : Int) ∧ Hid (L.length = ys.length) ∧ Hid (OwnM wr wf.heap.size (.slice A' ys.length c') L) ∧ Hid (Box wr gd 24 (cfgV (ep + 1) A' ys.length c')) ∧ Hid (Below wf.heap.size wf wr)) (fun q _ => ys.length - (intOf q).toNat)
  case atStart => exact ⟨0, ys, Nat.zero_le _, rfl, Lib.hid rfl, HOH, HD, HBh⟩
  case round =>
    obtain ⟨t, L, ht, rfl, HLL, HOW, HDW, HZ⟩ := hrel
    have hl := HLY.out
    by_cases hlt : t < ys.length
    · have HLE := Lib.hid hlt
      have hLt : t < L.length := by rw [HLL.out]; exact hlt
      obtain ⟨_, _, _, hsome⟩ := HOW.out.bounds
      obtain ⟨g, rfl, hg1, hg2⟩ := hsome (by omega)
      obtain ⟨s1, s2, s3, s4⟩ := HOW.out.set_id hLt 99
      have hne := HDW.out.own_ne HOW.out (by decide)
      have HO5 := Lib.hid s3
      have HD5 := Lib.hid (HDW.out.grown s4 (fun e => hne (by rw [e]; rfl)))
      have HZ5 : Hid (Below wf.heap.size wf (wr.setCell ⟨g, t * 34, none⟩ (.int .i64 99))) := Lib.hid (HZ.out.trans (below_only s4 hg1 HZ.out.size))
      have HL5 : Hid ((L.set t ⟨99, (L[t]'hLt).root, (L[t]'hLt).high, (L[t]'hLt).len⟩).length = ys.length) := Lib.hid (by rw [List.length_set]; exact HLL.out)
      have dc : wr.cell? ⟨gd, 1, none⟩ = some (.slice (some ⟨g, 0, none⟩) ys.length c') := HDW.out.cell 1
      have i1 : (t : Int) < (ys.length : Int) := by omega
      have wk : IntKind.i64.wrap ((t : Int) + 1) = ((t + 1 : Nat) : Int) := by
        rw [IntKind.wrap_i64]
        omega
      generalize (L[t]'hLt).id = oid at *
      clear s3 s4 hne hg1 hg2 hsome
      go_wp2
      go_roundw
      case rel => exact ⟨t + 1, _, HLE.out, by go_num, HL5, HO5, HD5, HZ5⟩
      case measure => have := HLE.out; simp [intOf]; omega
    · have i1 : ¬ (t : Int) < (ys.length : Int) := by omega
      have HXr := Lib.hid (HXf.out.below HZ.out HXf.out.lt)
      have HMr := Lib.hid (HMf.out.below HZ.out HMf.out.lt)
      have r1 := HMr.out.ld_cfg
      have r2 := HXr.out.ld_cfg
      have HSM := Lib.hid (same_self ep ms (some ⟨gf, 0, none⟩) A d2 c HMX.out wr (HPF.out.far HZ.out) (HSF.out.far HZ.out))
      go_wp2_with (go_at_call 20; (with_reducible refine (HSM.out).mono ?_); rintro e wz ⟨rfl, hbz⟩; have HBz : Hid (Below wf.heap.size wf wz) := Lib.hid (HZ.out.trans (hbz.mono HZ.out.size)); have z1 := (HXf.out.below HBz.out HXf.out.lt).cell 1; have z2 := HLF.out wz HBz.out; clear hbz)
      go_ret
      exact ⟨rfl, HF2.out.trans ((HFF.out.trans (HBz.out.mono HFF.out.size)).mono HF2.out.size)⟩
end Go.Proofs.Ytloaidahlagmiaa
