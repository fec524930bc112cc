/-
  CertAgrees: the walk.
-/
import Derived.Test.YtejnfgcnifcpaaaDoorEB
namespace Go.Proofs.YtejnfgcnifcpaaaDoor
open Go.RowKit Go.Maps Go.Sort

/-! ### On plain lists -/
def cnt14 (f : Int) (ys : List VtX) : Nat := (ys.filter fun y => decide (y.frm = f)).length
def pairs14 (xs ys : List VtX) : Nat := (xs.map fun x => cnt14 x.frm ys).sum
set_option maxRecDepth 100000 in
theorem cnt_take {ys : List VtX} {f : Int} {j : Nat} (h : j < ys.length) : cnt14 f (ys.take (j + 1)) = cnt14 f (ys.take j) + if (ys[j]'h).frm = f then 1 else 0 := by
  unfold cnt14
  rw [List.take_succ_eq_append_getElem h, List.filter_append, List.length_append]
  congr 1
  by_cases e : (ys[j]'h).frm = f
  · simp [e]
  · simp [e]
set_option maxRecDepth 100000 in
theorem cnt_le (f : Int) (ys : List VtX) : cnt14 f ys ≤ ys.length := List.length_filter_le _ _
set_option maxRecDepth 100000 in
theorem pairs_take {xs ys : List VtX} {k : Nat} (h : k < xs.length) : pairs14 (xs.take (k + 1)) ys = pairs14 (xs.take k) ys + cnt14 (xs[k]'h).frm ys := by
  unfold pairs14
  rw [List.take_succ_eq_append_getElem h, List.map_append, List.sum_append]
  simp
set_option maxRecDepth 100000 in
theorem pairs_le (ys : List VtX) : ∀ xs : List VtX, pairs14 xs ys ≤ xs.length * ys.length
  | [] => Nat.zero_le _
  | x :: xs => by
    have h := pairs_le ys xs
    have h2 := cnt_le x.frm ys
    unfold pairs14 at h ⊢
    rw [List.map_cons, List.sum_cons, List.length_cons, Nat.add_mul, Nat.one_mul]
    omega
set_option maxRecDepth 100000 in
theorem pairs_nil (xs : List VtX) : pairs14 xs [] = 0 := by
  induction xs with
  | nil => rfl
  | cons x xs ih =>
    unfold pairs14 at ih ⊢
    rw [List.map_cons, List.sum_cons, ih]
    rfl
set_option maxRecDepth 100000 in
theorem pairs_cons (y : VtX) (ys : List VtX) : ∀ xs : List VtX, pairs14 xs ys + (if y.frm ∈ xs.map VtX.frm then 1 else 0) ≤ pairs14 xs (y :: ys)
  | [] => Nat.le_refl _
  | x :: xs => by
    have h := pairs_cons y ys xs
    have hc : cnt14 x.frm (y :: ys) = cnt14 x.frm ys + if y.frm = x.frm then 1 else 0 := by
      unfold cnt14
      by_cases e : y.frm = x.frm
      · simp [e]
      · simp [e]
    unfold pairs14 at h ⊢
    simp only [List.map_cons, List.sum_cons, hc]
    by_cases e : y.frm = x.frm
    · rw [if_pos (by rw [e]; exact List.mem_cons_self ..), if_pos e]
      split at h <;> omega
    · by_cases e2 : y.frm ∈ xs.map VtX.frm
      · rw [if_pos (List.mem_cons_of_mem _ e2)]
        rw [if_pos e2] at h
        omega
      · rw [if_neg (fun h1 => by
          rcases List.mem_cons.1 h1 with h1 | h1
          · exact e h1
          · exact e2 h1)]
        split <;> omega
set_option maxRecDepth 100000 in
theorem pairs_ge (xs : List VtX) : ∀ ys : List VtX, ((ys.map VtX.frm).filter fun f => decide (f ∈ xs.map VtX.frm)).length ≤ pairs14 xs ys
  | [] => Nat.zero_le _
  | y :: ys => by
    have h := pairs_ge xs ys
    have h2 := pairs_cons y ys xs
    rw [List.map_cons]
    by_cases e : y.frm ∈ xs.map VtX.frm
    · rw [if_pos e] at h2
      rw [List.filter_cons_of_pos (by simpa using e), List.length_cons]
      omega
    · rw [List.filter_cons_of_neg (by simpa using e)]
      omega
set_option maxRecDepth 100000 in
theorem filt_split {α : Type} (p : α → Bool) : ∀ l : List α, (l.filter p).length + (l.filter fun a => !p a).length = l.length
  | [] => rfl
  | a :: l => by
    have h := filt_split p l
    cases e : p a with
    | true => simp [e]; omega
    | false => simp [e]; omega
set_option maxRecDepth 100000 in
theorem ris_nodup {xs : List VtX} (h : risB14 xs = true) : (xs.map VtX.frm).Nodup := by
  unfold List.Nodup
  rw [List.pairwise_map]
  exact (risB14_pw.1 h).imp fun h => by omega
set_option maxRecDepth 100000 in
theorem has_mem {ms : List MemX} {i : Int} (h : hasB ms i = true) : i ∈ ms.map MemX.id := by
  unfold hasB at h
  rw [decide_eq_true_eq] at h
  exact List.mem_map.2 ⟨_, List.getElem_mem h, posN_eq h⟩
set_option maxRecDepth 100000 in
theorem ok_has {ms : List MemX} {ep h r : Int} {d : List UInt8} {x : VtX} (hk : ok14 ms ep h r d x = true) : hasB ms x.frm = true := by
  unfold ok14 rightX14 at hk
  simp only [Bool.and_eq_true] at hk
  exact hk.2.2.2.1
set_option maxRecDepth 100000 in
/-- Two quorums meet in a weak one. -/
theorem pairs_weak {ep : Int} {ms : List MemX} {a b : BlkX} {r s : Int} {xs ys : List VtX} (hx : certB ep ms a r xs = true) (hy : certB ep ms b s ys = true) : faultsN ms.length + 1 ≤ pairs14 xs ys := by
  obtain ⟨hg, hxl, hxr, hxo⟩ := certB_true hx
  obtain ⟨_, hyl, hyr, hyo⟩ := certB_true hy
  have hn : 1 ≤ ms.length := by
    unfold goodB inB at hg
    simp only [Bool.and_eq_true, decide_eq_true_eq] at hg
    have := hg.1.2.1
    omega
  have h1 := pairs_ge xs ys
  have hsub : ∀ f ∈ xs.map VtX.frm ++ (ys.map VtX.frm).filter (fun f => decide (f ∉ xs.map VtX.frm)), f ∈ ms.map MemX.id := fun f hf => by
    rcases List.mem_append.1 hf with hf | hf
    · obtain ⟨x, hx1, rfl⟩ := List.mem_map.1 hf
      exact has_mem (ok_has (hxo x hx1))
    · obtain ⟨y, hy1, rfl⟩ := List.mem_map.1 (List.mem_filter.1 hf).1
      exact has_mem (ok_has (hyo y hy1))
  have hnd : (xs.map VtX.frm ++ (ys.map VtX.frm).filter (fun f => decide (f ∉ xs.map VtX.frm))).Nodup := by
    rw [List.nodup_append]
    refine ⟨ris_nodup hxr, (ris_nodup hyr).filter _, fun a ha b hb e => ?_⟩
    subst e
    have h2 := (List.mem_filter.1 hb).2
    simp only [decide_eq_true_eq] at h2
    exact h2 ha
  have hle := hnd.length_le_of_subset hsub
  rw [List.length_append, List.length_map, List.length_map] at hle
  have hsp : ((ys.map VtX.frm).filter fun f => decide (f ∈ xs.map VtX.frm)).length + ((ys.map VtX.frm).filter fun f => decide (f ∉ xs.map VtX.frm)).length = ys.length := by
    have h2 := filt_split (fun f => decide (f ∈ xs.map VtX.frm)) (ys.map VtX.frm)
    rw [List.length_map] at h2
    rw [← h2]
    congr 2
    exact List.filter_congr fun f _ => decide_not
  have hm : ms.length + faultsN ms.length < 2 * quorumN ms.length := by unfold quorumN faultsN; omega
  omega

attribute [local go_sem ↓] ldVt_def stVt_def alVt14_def ldCf_def ldBlk_def ldCt_def
set_option maxRecDepth 100000 in
set_option maxHeartbeats 16000000 in
theorem agrees_walk14 (ms : List MemX) (ep : Int) (AM : Option Addr) (cM : Nat) (a b : BlkM) (han : a.x.reqs.length ≤ 140737488351232) (haq : ∀ q ∈ a.x.reqs, q.key.size ≤ 140737488351232 ∧ q.val.size ≤ 140737488351232 ∧ q.old.size ≤ 140737488351232) (hbn : b.x.reqs.length ≤ 140737488351232) (hbq : ∀ q ∈ b.x.reqs, q.key.size ≤ 140737488351232 ∧ q.val.size ≤ 140737488351232 ∧ q.old.size ≤ 140737488351232)
    (r s : Int) (vs us : List VtM) (A B : Option Addr) (c d : Nat) (w : World) (hM : Mems w w.heap.size AM ms) (hA : QSee w w.heap.size a.A a.x.reqs) (hB : QSee w w.heap.size b.A b.x.reqs) (hV : VtK.See w w.heap.size A vs) (hU : VtK.See w w.heap.size B us) (hS : ∀ m ∈ vs, SgSee w m.sg) (hT : ∀ m ∈ us, SgSee w m.sg) (hR : Roots w) :
    Calls Tryd.prog 4 #[.agg (cfgV ep AM ms.length cM), .agg a.cells.toArray, .agg (crtV r A vs.length c), .agg b.cells.toArray, .agg (crtV s B us.length d)] w fun e w' => e = .returned (.bool true) ∧ Below w.heap.size w w' := by
  obtain ⟨w1, hw1⟩ : ∃ w1, w1 = ((((w.alloc (.cells (cfgV ep AM ms.length cM) 24)).alloc (.cells a.cells.toArray 29)).alloc (.cells (crtV r A vs.length c) 32)).alloc (.cells b.cells.toArray 29)).alloc (.cells (crtV s B us.length d) 32) := ⟨_, rfl⟩
  have hX : Box w1 w.heap.size 24 (cfgV ep AM ms.length cM) := by rw [hw1]; exact ((((Box.made w _ _).alloc _).alloc _).alloc _).alloc _
  have hY : Box w1 (w.heap.size + 1) 29 a.cells.toArray := by rw [hw1]; exact (((Box.made_at (by simp) _ _).alloc _).alloc _).alloc _
  have hZ : Box w1 (w.heap.size + 1 + 1) 32 (crtV r A vs.length c) := by rw [hw1]; exact ((Box.made_at (by simp) _ _).alloc _).alloc _
  have hY2 : Box w1 (w.heap.size + 1 + 1 + 1) 29 b.cells.toArray := by rw [hw1]; exact (Box.made_at (by simp) _ _).alloc _
  have hZ2 : Box w1 (w.heap.size + 1 + 1 + 1 + 1) 32 (crtV s B us.length d) := by rw [hw1]; exact Box.made_at (by simp) _ _
  have HF : Hid (Below w.heap.size w w1) := by rw [hw1]; exact (((((Below.refl _ _).alloc (Nat.le_refl _) _).alloc (by simp) _).alloc (by simp; omega) _).alloc (by simp; omega) _).alloc (by simp; omega) _
  have HC : Hid (∀ w', Below w1.heap.size w1 w' → ((ldCf (.pointer (some ⟨w.heap.size, 0, none⟩))).run Tryd.prog w' = .ok (.agg (cfgV ep AM ms.length cM)) w' ∧ (ldBlk (.pointer (some ⟨w.heap.size + 1, 0, none⟩))).run Tryd.prog w' = .ok (.agg a.cells.toArray) w' ∧ (ldCt (.pointer (some ⟨w.heap.size + 1 + 1, 0, none⟩))).run Tryd.prog w' = .ok (.agg (crtV r A vs.length c)) w') ∧
      ((ldBlk (.pointer (some ⟨w.heap.size + 1 + 1 + 1, 0, none⟩))).run Tryd.prog w' = .ok (.agg b.cells.toArray) w' ∧ (ldCt (.pointer (some ⟨w.heap.size + 1 + 1 + 1 + 1, 0, none⟩))).run Tryd.prog w' = .ok (.agg (crtV s B us.length d)) w') ∧
      (w'.cell? ⟨w.heap.size + 1, 1, none⟩ = some (.int .i64 a.x.height) ∧ w'.cell? ⟨w.heap.size + 1 + 1 + 1, 1, none⟩ = some (.int .i64 b.x.height) ∧ w'.cell? ⟨w.heap.size + 1 + 1, 0, none⟩ = some (.int .i64 r) ∧ w'.cell? ⟨w.heap.size + 1 + 1 + 1 + 1, 0, none⟩ = some (.int .i64 s)) ∧
      (w'.cell? ⟨w.heap.size + 1 + 1, 1, none⟩ = some (.slice A vs.length c) ∧ w'.cell? ⟨w.heap.size + 1 + 1 + 1 + 1, 1, none⟩ = some (.slice B us.length d))) := Lib.hid (fun w' hb => by
    have hx := hX.below hb hX.lt
    have hy := hY.below hb hY.lt
    have hz := hZ.below hb hZ.lt
    have hy2 := hY2.below hb hY2.lt
    have hz2 := hZ2.below hb hZ2.lt
    exact ⟨⟨hx.l_cf, hy.ld_blk, hz.l_ct⟩, ⟨hy2.ld_blk, hz2.l_ct⟩, ⟨hy.bk_1, hy2.bk_1, hz.cell 0, hz2.cell 0⟩, ⟨hz.cell 1, hz2.cell 1⟩⟩)
  have HAL := Lib.hid (alive_any14 w1 (hR.of_below HF.out))
  have HG1 : Hid (∀ w', Below w1.heap.size w1 w' → Calls Tryd.prog 7 #[.agg (cfgV ep AM ms.length cM), .agg a.cells.toArray, .agg (crtV r A vs.length c)] w' (GreatC ms a.x vs w')) := Lib.hid (fun w' hb => cgreat_any ms ep AM cM a han haq r vs A c w' ((hA.far HF.out).far hb) (EK.See.far (EK.See.far hV HF.out) hb))
  have HG2 : Hid (∀ w', Below w1.heap.size w1 w' → Calls Tryd.prog 7 #[.agg (cfgV ep AM ms.length cM), .agg b.cells.toArray, .agg (crtV s B us.length d)] w' (GreatC ms b.x us w')) := Lib.hid (fun w' hb => cgreat_any ms ep AM cM b hbn hbq s us B d w' ((hB.far HF.out).far hb) (EK.See.far (EK.See.far hU HF.out) hb))
  have HK1 : Hid (CSmall ms a.x vs → ∀ w', Below w1.heap.size w1 w' → Calls Tryd.prog 11 #[.agg (cfgV ep AM ms.length cM), .agg a.cells.toArray, .agg (crtV r A vs.length c)] w' fun e w'' => e = .returned (.bool (certB ep ms a.x r (vs.map VtM.x))) ∧ Below w'.heap.size w' w'') := Lib.hid (fun hc w' hb =>
    ccheck_any ms ep AM cM (Nat.le_trans hc.mem (by omega)) a (few_small14 hc.blk.few) r vs A c (Nat.le_trans hc.len (by omega)) w' ((hM.far HF.out).far hb) ((hA.far HF.out).far hb) (EK.See.far (EK.See.far hV HF.out) hb) (fun m hm => ((hS m hm).call HF.out).call hb) ((hR.of_below HF.out).of_below hb))
  have HK2 : Hid (CSmall ms b.x us → ∀ w', Below w1.heap.size w1 w' → Calls Tryd.prog 11 #[.agg (cfgV ep AM ms.length cM), .agg b.cells.toArray, .agg (crtV s B us.length d)] w' fun e w'' => e = .returned (.bool (certB ep ms b.x s (us.map VtM.x))) ∧ Below w'.heap.size w' w'') := Lib.hid (fun hc w' hb =>
    ccheck_any ms ep AM cM (Nat.le_trans hc.mem (by omega)) b (few_small14 hc.blk.few) s us B d (Nat.le_trans hc.len (by omega)) w' ((hM.far HF.out).far hb) ((hB.far HF.out).far hb) (EK.See.far (EK.See.far hU HF.out) hb) (fun m hm => ((hT m hm).call HF.out).call hb) ((hR.of_below HF.out).of_below hb))
  have HWK : Hid (∀ w', ms.length ≤ 20 → Calls Tryd.prog 12 #[.agg (cfgV ep AM ms.length cM)] w' fun e w'' => e = .returned (.int .i64 ((faultsN ms.length + 1 : Nat) : Int)) ∧ Below w'.heap.size w' w'') := Lib.hid (fun w' h => weak_any ep AM ms.length cM (by omega) w')
  have HV1 := Lib.hid (EK.See.far hV HF.out)
  have HU1 := Lib.hid (EK.See.far hU HF.out)
  clear hX hY hZ hY2 hZ2 hM hA hB hV hU hS hT hR han haq hbn hbq
  generalize cfgV ep AM ms.length cM = CF at *
  generalize a.cells.toArray = BC at *
  generalize b.cells.toArray = BD at *
  generalize hha : a.x.height = na at *
  generalize hhb : b.x.height = nb at *
  clear hha hhb
  go_enter Tryd.func4, Tryd.ntmps4
  go_upto_region 1 with fail
  change Code.wp _ _ _ _ (((((w.alloc (.cells CF 24)).alloc (.cells BC 29)).alloc (.cells (crtV r A vs.length c) 32)).alloc (.cells BD 29)).alloc (.cells (crtV s B us.length d) 32))
  rw [← hw1]
  clear hw1
  go_upto_region 3 with (go_at_call 6; (with_reducible refine (HAL.out).mono ?_); rintro e w2 ⟨rfl, hb⟩; have HB2 := Lib.hid hb; clear hb)
  clear HAL
  obtain ⟨⟨k1, k2, k3⟩, _⟩ := HC.out w2 HB2.out
  go_wp2_with fail
  refine (HG1.out w2 HB2.out).mono ?_
  rintro e w3 ⟨g, rfl, hg, hb⟩
  have HB3 := Lib.hid (HB2.out.trans (hb.mono HB2.out.size))
  clear hb k1 k2 k3
  cases g with
  | true =>
    clear hg
    go_wp2
    go_ret
    exact ⟨rfl, HF.out.trans (HB3.out.mono HF.out.size)⟩
  | false =>
  have HCA := Lib.hid (hg rfl)
  clear hg HG1 HB2
  obtain ⟨⟨k1, _, _⟩, ⟨k2, k3⟩, _⟩ := HC.out w3 HB3.out
  go_wp2_with fail
  refine (HG2.out w3 HB3.out).mono ?_
  rintro e w4 ⟨g, rfl, hg, hb⟩
  have HB4 := Lib.hid (HB3.out.trans (hb.mono HB3.out.size))
  clear hb k1 k2 k3
  cases g with
  | true =>
    clear hg
    go_wp2
    go_ret
    exact ⟨rfl, HF.out.trans (HB4.out.mono HF.out.size)⟩
  | false =>
  have HCB := Lib.hid (hg rfl)
  clear hg HG2 HB3
  obtain ⟨⟨k1, k2, k3⟩, _, ⟨k4, k5, k6, k7⟩, _⟩ := HC.out w4 HB4.out
  by_cases eh : na = nb
  rotate_left
  · have e1 : (na != nb) = true := by simpa using eh
    clear eh
    go_wp2
    go_ret
    exact ⟨rfl, HF.out.trans (HB4.out.mono HF.out.size)⟩
  subst eh
  by_cases er : r = s
  rotate_left
  · have e2 : (r != s) = true := by simpa using er
    clear er
    go_wp2
    go_ret
    exact ⟨rfl, HF.out.trans (HB4.out.mono HF.out.size)⟩
  subst er
  go_wp2_with fail
  refine (HK1.out HCA.out w4 HB4.out).mono ?_
  rintro e w5 ⟨rfl, hb⟩
  have HB5 := Lib.hid (HB4.out.trans (hb.mono HB4.out.size))
  clear hb HK1 HB4 k1 k2 k3 k4 k5 k6 k7
  cases hcx : certB ep ms a.x r (vs.map VtM.x) with
  | false =>
    clear hcx
    go_wp2
    go_ret
    exact ⟨rfl, HF.out.trans (HB5.out.mono HF.out.size)⟩
  | true =>
  have HCX := Lib.hid hcx
  clear hcx
  obtain ⟨⟨k1, _, _⟩, ⟨k2, k3⟩, _⟩ := HC.out w5 HB5.out
  go_wp2_with fail
  refine (HK2.out HCB.out w5 HB5.out).mono ?_
  rintro e w6 ⟨rfl, hb⟩
  have HB6 := Lib.hid (HB5.out.trans (hb.mono HB5.out.size))
  clear hb HK2 HB5 k1 k2 k3
  cases hcy : certB ep ms b.x r (us.map VtM.x) with
  | false =>
    clear hcy
    go_wp2
    go_ret
    exact ⟨rfl, HF.out.trans (HB6.out.mono HF.out.size)⟩
  | true =>
  have HPW := Lib.hid (pairs_weak HCX.out hcy)
  clear hcy HCX
  have HVL := Lib.hid HCA.out.len
  have HUL := Lib.hid HCB.out.len
  have HWK6 := Lib.hid (fun w' => HWK.out w' HCA.out.mem)
  clear HWK HCA HCB
  generalize faultsN ms.length + 1 = fw at *
  have k6 := (HC.out w6 HB6.out).2.2.2.1
  go_wp2
  clear k6
  go_loopw [11, 59] (fun n i wr => ∃ k : Nat, k ≤ vs.length ∧ i = .int .i64 (k : Int) ∧ n = .int .i64 ((pairs14 ((vs.map VtM.x).take k) (us.map VtM.x) : Nat) : Int) ∧ Hid (Below w1.heap.size w1 wr)) (fun _ i _ => vs.length - (intOf i).toNat)
  case atStart => exact ⟨0, Nat.zero_le _, rfl, rfl, HB6⟩
  case round =>
    obtain ⟨k, hk, rfl, rfl, HW⟩ := hrel
    by_cases hlt : k < vs.length
    rotate_left
    · have i1 : ¬ (k : Int) < (vs.length : Int) := by omega
      have HPE : Hid (fw ≤ pairs14 ((vs.map VtM.x).take k) (us.map VtM.x)) := Lib.hid (by
        rw [List.take_of_length_le (by rw [List.length_map]; omega)]
        exact HPW.out)
      generalize pairs14 ((vs.map VtM.x).take k) (us.map VtM.x) = pn at *
      have g1 : decide ((fw : Int) ≤ (pn : Int)) = true := decide_eq_true (by have := HPE.out; omega)
      have g2 : decide (fw ≤ pn) = true := decide_eq_true HPE.out
      obtain ⟨⟨k1, _, _⟩, _⟩ := HC.out wr HW.out
      go_wp2_with (go_at_call 12; (with_reducible refine (HWK6.out _).mono ?_); rintro e w7 ⟨rfl, hb⟩; have HB7 := Lib.hid (HW.out.trans (hb.mono HW.out.size)); clear hb)
      go_ret
      exact ⟨rfl, HF.out.trans (HB7.out.mono HF.out.size)⟩
    have i1 : (k : Int) < (vs.length : Int) := by omega
    have i0 : (0 : Int) ≤ (k : Int) := by omega
    obtain ⟨g, o, hA, hlv⟩ := row_vote (EK.See.far HV1.out HW.out) hlt
    subst hA
    have lv := hlv wr (Below.refl _ _)
    have HPT : Hid (pairs14 ((vs.map VtM.x).take (k + 1)) (us.map VtM.x) = pairs14 ((vs.map VtM.x).take k) (us.map VtM.x) + cnt14 (vs[k]'hlt).x.frm (us.map VtM.x)) := Lib.hid (by
      have h := pairs_take (xs := vs.map VtM.x) (ys := us.map VtM.x) (k := k) (by rw [List.length_map]; exact hlt)
      rw [List.getElem_map] at h
      exact h)
    have HPN : Hid (pairs14 ((vs.map VtM.x).take k) (us.map VtM.x) ≤ 144) := Lib.hid (by
      have h := pairs_le (us.map VtM.x) ((vs.map VtM.x).take k)
      rw [List.length_take, List.length_map, List.length_map] at h
      have h1 := HVL.out
      have h2 := HUL.out
      have h3 : min k vs.length * us.length ≤ 12 * 12 := Nat.mul_le_mul (by omega) h2
      omega)
    have HLT := Lib.hid hlt
    clear hlv
    generalize vs[k]'hlt = m at *
    generalize hpn : pairs14 ((vs.map VtM.x).take k) (us.map VtM.x) = pn at *
    obtain ⟨w8, hst8, hb8, hbl8⟩ := laid_vt wr m
    have HX8 := Lib.hid hb8
    have HB8 := Lib.hid (HW.out.trans (hbl8.mono HW.out.size))
    have hav := al_vt14
    have wk : IntKind.i64.wrap ((k : Int) + 1) = ((k + 1 : Nat) : Int) := by rw [IntKind.wrap_i64]; have := HVL.out; omega
    have k8 := (HC.out w8 HB8.out).2.2.2.2
    clear hb8 hbl8 hpn HW hlt hk
    go_upto_region 9 with fail
    clear lv hst8 i1
    generalize wr.heap.size = tv at *
    go_wp2
    clear k8
    go_loopw [11, 66] (fun n i wr => ∃ j : Nat, j ≤ us.length ∧ i = .int .i64 (j : Int) ∧ n = .int .i64 ((pn + cnt14 m.x.frm ((us.map VtM.x).take j) : Nat) : Int) ∧ Hid (Below w8.heap.size w8 wr)) (fun _ i _ => us.length - (intOf i).toNat)
    case atStart => exact ⟨0, Nat.zero_le _, rfl, rfl, Lib.hid (Below.refl _ _)⟩
    case round =>
      obtain ⟨j, hj, rfl, rfl, HW⟩ := hrel
      have HB9 := Lib.hid (HB8.out.trans (HW.out.mono HB8.out.size))
      by_cases hlj : j < us.length
      rotate_left
      · have i1 : ¬ (j : Int) < (us.length : Int) := by omega
        have HPE : Hid (pn + cnt14 m.x.frm ((us.map VtM.x).take j) = pairs14 ((vs.map VtM.x).take (k + 1)) (us.map VtM.x)) := Lib.hid (by
          rw [List.take_of_length_le (by rw [List.length_map]; omega), HPT.out])
        rw [HPE.out]
        generalize hpm : pairs14 ((vs.map VtM.x).take (k + 1)) (us.map VtM.x) = pm at *
        have HPM := Lib.hid hpm
        clear hj hlj hpm
        go_wp2
        go_roundw
        case rel => exact ⟨k + 1, HLT.out, by go_num, by rw [HPM.out], HB9⟩
        case measure => have := HLT.out; simp [intOf]; omega
      have i1 : (j : Int) < (us.length : Int) := by omega
      have j0 : (0 : Int) ≤ (j : Int) := by omega
      obtain ⟨g2, o2, hB2, hlu⟩ := row_vote (EK.See.far HU1.out HB9.out) hlj
      subst hB2
      have lu := hlu wr (Below.refl _ _)
      have HCT : Hid (cnt14 m.x.frm ((us.map VtM.x).take (j + 1)) = cnt14 m.x.frm ((us.map VtM.x).take j) + if (us[j]'hlj).x.frm = m.x.frm then 1 else 0) := Lib.hid (by
        have h := cnt_take (ys := us.map VtM.x) (f := m.x.frm) (j := j) (by rw [List.length_map]; exact hlj)
        rw [List.getElem_map] at h
        exact h)
      have HCL : Hid (cnt14 m.x.frm ((us.map VtM.x).take j) ≤ 12) := Lib.hid (by
        have h := cnt_le m.x.frm ((us.map VtM.x).take j)
        rw [List.length_take, List.length_map] at h
        have h2 := HUL.out
        omega)
      have HLJ := Lib.hid hlj
      clear hlu
      generalize us[j]'hlj = u at *
      obtain ⟨wa, hsta, hba, hbla⟩ := laid_vt wr u
      have d1 : wa.cell? ⟨wr.heap.size, 36, none⟩ = some (.int .i64 u.x.frm) := hba.vt_36 u.x.len
      have HWA := Lib.hid (HW.out.trans (hbla.mono HW.out.size))
      have d2 : wa.cell? ⟨tv, 36, none⟩ = some (.int .i64 m.x.frm) := (HX8.out.below HWA.out HX8.out.lt).vt_36 m.x.len
      have wj : IntKind.i64.wrap ((j : Int) + 1) = ((j + 1 : Nat) : Int) := by rw [IntKind.wrap_i64]; have := HUL.out; omega
      clear hba hbla hj hlj
      generalize hcn : cnt14 m.x.frm ((us.map VtM.x).take j) = cn at *
      have wp1 : IntKind.i64.wrap (((pn + cn : Nat) : Int) + 1) = ((pn + cn + 1 : Nat) : Int) := by rw [IntKind.wrap_i64]; have := HPN.out; have := HCL.out; omega
      generalize hfu : u.x.frm = fu at *
      generalize hfm : m.x.frm = fm at *
      by_cases ef : fu = fm
      · have HCE : Hid (pn + cn + 1 = pn + cnt14 fm ((us.map VtM.x).take (j + 1))) := Lib.hid (by rw [HCT.out, if_pos ef]; omega)
        have ef1 : (fu == fm) = true := by simpa using ef
        clear hcn hfu hfm ef HCT
        generalize pn + cn = pc at *
        go_wp2
        go_roundw
        case rel => exact ⟨j + 1, HLJ.out, by go_num, by rw [← HCE.out]; go_num, HWA⟩
        case measure => have := HLJ.out; simp [intOf]; omega
      · have HCE : Hid (pn + cn = pn + cnt14 fm ((us.map VtM.x).take (j + 1))) := Lib.hid (by rw [HCT.out, if_neg ef]; omega)
        have ef1 : (fu == fm) = false := by simpa using ef
        clear hcn hfu hfm ef HCT wp1
        generalize pn + cn = pc at *
        go_wp2
        go_roundw
        case rel => exact ⟨j + 1, HLJ.out, by go_num, by rw [← HCE.out], HWA⟩
        case measure => have := HLJ.out; simp [intOf]; omega
end Go.Proofs.YtejnfgcnifcpaaaDoor
