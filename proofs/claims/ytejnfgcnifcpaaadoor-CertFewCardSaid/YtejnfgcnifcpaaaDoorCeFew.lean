/-
  CertFew: the walk.
-/
import Derived.Test.YtejnfgcnifcpaaaDoorEB
import Derived.Test.YtejnfgcnifcpaaaDoorEA
namespace Go.Proofs.YtejnfgcnifcpaaaDoor
open Go.RowKit Go.Maps Go.Sort

/-! ### On plain lists -/
set_option maxRecDepth 100000 in
theorem few_small14 {x : BlkX} (h : Few x) : Small12 x := ⟨by have := h.len; omega, fun q hq => by have := h.txt q hq; omega⟩
set_option maxRecDepth 100000 in
theorem certB_true {ep : Int} {ms : List MemX} {b : BlkX} {r : Int} {xs : List VtX} (h : certB ep ms b r xs = true) : goodB ep ms = true ∧ quorumN ms.length ≤ xs.length ∧ risB14 xs = true ∧ ∀ x ∈ xs, ok14 ms ep b.height r (blkD b) x = true := by
  unfold certB at h
  simp only [Bool.and_eq_true, decide_eq_true_eq] at h
  obtain ⟨h1, _, _, h4, h5, h6⟩ := h
  exact ⟨h1, h4, h5, List.all_eq_true.1 h6⟩
set_option maxRecDepth 100000 in
theorem certB_short {ep : Int} {ms : List MemX} {b : BlkX} {r : Int} {xs : List VtX} (h : xs.length < quorumN ms.length) : certB ep ms b r xs = false := by
  cases e : certB ep ms b r xs with
  | false => rfl
  | true =>
    have := (certB_true e).2.1
    omega
set_option maxRecDepth 100000 in
theorem certB_fall {ep : Int} {ms : List MemX} {b : BlkX} {r : Int} {xs : List VtX} (h : risB14 xs = false) : certB ep ms b r xs = false := by
  cases e : certB ep ms b r xs with
  | false => rfl
  | true =>
    have h2 := (certB_true e).2.2.1
    rw [h] at h2
    cases h2
set_option maxRecDepth 100000 in
theorem ris_twice {xs : List VtX} {x : VtX} (hx : x ∈ xs) : risB14 (xs ++ [x]) = false := by
  cases e : risB14 (xs ++ [x]) with
  | false => rfl
  | true =>
    have h2 := List.pairwise_append.1 (risB14_pw.1 e)
    have := h2.2.2 x hx x (List.mem_singleton.2 rfl)
    omega
set_option maxRecDepth 100000 in
theorem ris_turned {xs : List VtX} (h : risB14 xs = true) (hl : 2 ≤ xs.length) : risB14 xs.reverse = false := by
  cases e : risB14 xs.reverse with
  | false => rfl
  | true =>
    have h1 := risB14_pw.1 h
    have h2 := risB14_pw.1 e
    rw [List.pairwise_reverse] at h2
    match xs, hl with
    | a :: b :: r, _ =>
      have h3 := (List.pairwise_cons.1 h1).1 b (List.mem_cons_self ..)
      have h4 := (List.pairwise_cons.1 h2).1 b (List.mem_cons_self ..)
      omega
set_option maxRecDepth 100000 in
theorem sees_front {w : World} {B : Nat} {A : Option Addr} {a b : List Value} (h : Sees w B A (a ++ b)) : Sees w B A a := by
  rcases h with h0 | ⟨g, o, e, hl, hc⟩
  · exact .inl (List.append_eq_nil_iff.1 h0).1
  · exact .inr ⟨g, o, e, hl, fun j u hu => hc j u (by rw [List.getElem?_append_left (List.getElem?_eq_some_iff.1 hu).1]; exact hu)⟩
set_option maxRecDepth 100000 in
theorem see_take14 {w : World} {B : Nat} {A : Option Addr} {vs : List VtM} (h : VtK.See w B A vs) (n : Nat) : VtK.See w B A (vs.take n) := by
  have h2 : Sees w B A (VtK.flat vs) := h
  rw [VtK.flat_cut vs n] at h2
  exact sees_front h2
set_option maxRecDepth 100000 in
theorem turned_step {α : Type} {xs : List α} {n : Nat} (h : n < xs.length) : (xs.drop n).reverse = (xs.drop (n + 1)).reverse ++ [xs[n]'h] := by
  rw [List.drop_eq_getElem_cons h, List.reverse_cons]

attribute [local go_sem ↓] ldVt_def ldCf_def ldBlk_def ldCt_def stCt_def bdCt14_def bsT_def apAll_def
set_option maxRecDepth 100000 in
set_option maxHeartbeats 16000000 in
theorem few_walk14 (ms : List MemX) (ep : Int) (AM : Option Addr) (cM : Nat) (b : BlkM) (hbn : b.x.reqs.length ≤ 140737488351232) (hbq : ∀ q ∈ b.x.reqs, q.key.size ≤ 140737488351232 ∧ q.val.size ≤ 140737488351232 ∧ q.old.size ≤ 140737488351232) (r : Int) (vs : List VtM) (A : Option Addr) (c : Nat) (hvc : vs.length ≤ c) (i : Int) (w : World) (hM : Mems w w.heap.size AM ms) (hB : QSee w w.heap.size b.A b.x.reqs) (hV : VtK.See w w.heap.size A vs) (hS : ∀ m ∈ vs, SgSee w m.sg) (hR : Roots w) :
    Calls Tryd.prog 5 #[.agg (cfgV ep AM ms.length cM), .agg b.cells.toArray, .agg (crtV r A vs.length c), .int .i64 i] w fun e w' => e = .returned (.bool true) ∧ Below w.heap.size w w' := by
  obtain ⟨w1, hw1⟩ : ∃ w1, w1 = ((w.alloc (.cells (cfgV ep AM ms.length cM) 24)).alloc (.cells b.cells.toArray 29)).alloc (.cells (crtV r A vs.length c) 32) := ⟨_, rfl⟩
  have hX : Box w1 w.heap.size 24 (cfgV ep AM ms.length cM) := by rw [hw1]; exact ((Box.made w _ _).alloc _).alloc _
  have hY : Box w1 (w.heap.size + 1) 29 b.cells.toArray := by rw [hw1]; exact (Box.made_at (by simp) _ _).alloc _
  have hZ : Box w1 (w.heap.size + 1 + 1) 32 (crtV r A vs.length c) := by rw [hw1]; exact Box.made_at (by simp) _ _
  have HF : Hid (Below w.heap.size w w1) := by rw [hw1]; exact (((Below.refl _ _).alloc (Nat.le_refl _) _).alloc (by simp) _).alloc (by simp; omega) _
  have HC : Hid (∀ w', Below w1.heap.size w1 w' → (ldCf (.pointer (some ⟨w.heap.size, 0, none⟩))).run Tryd.prog w' = .ok (.agg (cfgV ep AM ms.length cM)) w' ∧ w'.cell? ⟨w.heap.size, 1, none⟩ = some (.slice AM ms.length cM) ∧ (ldBlk (.pointer (some ⟨w.heap.size + 1, 0, none⟩))).run Tryd.prog w' = .ok (.agg b.cells.toArray) w' ∧ (ldCt (.pointer (some ⟨w.heap.size + 1 + 1, 0, none⟩))).run Tryd.prog w' = .ok (.agg (crtV r A vs.length c)) w' ∧
      w'.cell? ⟨w.heap.size + 1 + 1, 0, none⟩ = some (.int .i64 r) ∧ w'.cell? ⟨w.heap.size + 1 + 1, 1, none⟩ = some (.slice A vs.length c)) := Lib.hid (fun w' hb => by
    have hx := hX.below hb hX.lt
    have hy := hY.below hb hY.lt
    have hz := hZ.below hb hZ.lt
    exact ⟨hx.l_cf, hx.cell 1, hy.ld_blk, hz.l_ct, hz.cell 0, hz.cell 1⟩)
  have HAL := Lib.hid (alive_any14 w1 (hR.of_below HF.out))
  have HGR : Hid (∀ w', Below w1.heap.size w1 w' → Calls Tryd.prog 7 #[.agg (cfgV ep AM ms.length cM), .agg b.cells.toArray, .agg (crtV r A vs.length c)] w' (GreatC ms b.x vs w')) := Lib.hid (fun w' hb => cgreat_any ms ep AM cM b hbn hbq r vs A c w' ((hB.far HF.out).far hb) (EK.See.far (EK.See.far hV HF.out) hb))
  have HCK : Hid (CSmall ms b.x vs → ∀ w', Below w1.heap.size w1 w' → ∀ (us : List VtM) (A' : Option Addr) (n' c' : Nat), n' = us.length → us.length ≤ 1000 → VtK.See w' w'.heap.size A' us → (∀ m ∈ us, SgSee w' m.sg) → Calls Tryd.prog 11 #[.agg (cfgV ep AM ms.length cM), .agg b.cells.toArray, .agg (crtV r A' n' c')] w' fun e w'' => e = .returned (.bool (certB ep ms b.x r (us.map VtM.x))) ∧ Below w'.heap.size w' w'') := Lib.hid (fun hc w' hb us A' n' c' hnn hul hsee hsg => by
    subst hnn
    exact ccheck_any ms ep AM cM (Nat.le_trans hc.mem (by omega)) b (few_small14 hc.blk.few) r us A' c' (by omega) w' ((hM.far HF.out).far hb) ((hB.far HF.out).far hb) hsee hsg ((hR.of_below HF.out).of_below hb))
  have HV1 := Lib.hid (EK.See.far hV HF.out)
  have HS1 : Hid (∀ m ∈ vs, SgSee w1 m.sg) := Lib.hid (fun m hm => (hS m hm).call HF.out)
  have HR1 := Lib.hid (hR.of_below HF.out)
  have HVC := Lib.hid hvc
  have HQ : Hid (∀ w', ms.length ≤ 20 → Calls Tryd.prog 8 #[.int .i64 (ms.length : Int)] w' fun e w'' => e = .returned (.int .i64 ((quorumN ms.length : Nat) : Int)) ∧ w' = w'') := Lib.hid (fun w' h => rquorum_any ms.length (by omega) w')
  clear hX hY hZ hM hB hV hS hR hbn hbq hvc
  generalize cfgV ep AM ms.length cM = CF at *
  generalize b.cells.toArray = BC at *
  go_enter Tryd.func5, Tryd.ntmps5
  go_upto_region 1 with fail
  change Code.wp _ _ _ _ (((w.alloc (.cells CF 24)).alloc (.cells BC 29)).alloc (.cells (crtV r A vs.length c) 32))
  rw [← hw1]
  clear hw1
  go_upto_region 3 with (go_at_call 6; (with_reducible refine (HAL.out).mono ?_); rintro e w2 ⟨rfl, hb⟩; have HB2 := Lib.hid hb; clear hb)
  clear HAL
  obtain ⟨k1, _, k3, k4, _, _⟩ := HC.out w2 HB2.out
  go_wp2_with fail
  refine (HGR.out w2 HB2.out).mono ?_
  rintro e w3 ⟨g, rfl, hg, hb⟩
  have HB3 := Lib.hid (HB2.out.trans (hb.mono HB2.out.size))
  clear hb
  cases g with
  | true =>
    clear hg
    go_wp2
    go_ret
    exact ⟨rfl, HF.out.trans (HB3.out.mono HF.out.size)⟩
  | false =>
  have HCS := Lib.hid (hg rfl)
  clear hg HGR k1 k3 k4 HB2
  obtain ⟨k1, k2, k3, k4, _, _⟩ := HC.out w3 HB3.out
  go_wp2_with fail
  have hck := HCK.out HCS.out w3 HB3.out vs A vs.length c rfl (by have := HCS.out.len; omega) (EK.See.far HV1.out HB3.out) (fun m hm => (HS1.out m hm).call HB3.out)
  refine hck.mono ?_
  rintro e w4 ⟨rfl, hb⟩
  have HB4 := Lib.hid (HB3.out.trans (hb.mono HB3.out.size))
  clear hb hck
  cases hcb : certB ep ms b.x r (vs.map VtM.x) with
  | false =>
    clear hcb
    go_wp2
    go_ret
    exact ⟨rfl, HF.out.trans (HB4.out.mono HF.out.size)⟩
  | true =>
  obtain ⟨hgo, hql, hri, _⟩ := certB_true hcb
  have HRI := Lib.hid hri
  rw [List.length_map] at hql
  have HQL := Lib.hid hql
  have HQ1 : Hid (1 ≤ quorumN ms.length) := Lib.hid (by unfold quorumN; omega)
  have HSH : Hid (∀ xs : List VtX, xs.length < quorumN ms.length → certB ep ms b.x r xs = false) := Lib.hid (fun xs h => certB_short h)
  have HFA : Hid (∀ xs : List VtX, risB14 xs = false → certB ep ms b.x r xs = false) := Lib.hid (fun xs h => certB_fall h)
  clear hcb hgo hql hri k1 k2 k3 k4 HB3
  obtain ⟨_, k2, _, _, k5, k6⟩ := HC.out w4 HB4.out
  have HQ4 := Lib.hid (HQ.out w4 HCS.out.mem)
  clear HQ
  generalize quorumN ms.length = q at *
  go_upto_region 6 with (go_at_call 8; (with_reducible refine (HQ4.out).mono ?_); rintro e w5 ⟨rfl, rfl⟩)
  clear HQ4 k2
  obtain ⟨wd, hwd⟩ : ∃ wd, wd = w4.drew := ⟨_, rfl⟩
  have hbd : Below w4.heap.size w4 wd := by rw [hwd]; exact (Below.refl _ _).drew
  have HBd := Lib.hid (HB4.out.trans (hbd.mono HB4.out.size))
  clear hbd k5 k6
  have HX0 : Hid (∀ w', Below wd.heap.size wd w' → w'.cell? ⟨w.heap.size + 1 + 1, 0, none⟩ = some (.int .i64 r)) := Lib.hid (fun w' hb => (HC.out w' (HBd.out.trans (hb.mono HBd.out.size))).2.2.2.2.1)
  have HX1 : Hid (∀ w', Below wd.heap.size wd w' → w'.cell? ⟨w.heap.size + 1 + 1, 1, none⟩ = some (.slice A vs.length c)) := Lib.hid (fun w' hb => (HC.out w' (HBd.out.trans (hb.mono HBd.out.size))).2.2.2.2.2)
  have wq : IntKind.i64.wrap ((q : Int) - 1) = ((q - 1 : Nat) : Int) := by rw [IntKind.wrap_i64]; have := HQL.out; have := HQ1.out; have := HCS.out.len; omega
  have b0 : ((q - 1 : Nat) : Int) ≤ (c : Int) := by have := HQL.out; have := HVC.out; omega
  have b1 : ¬ c = 0 := by have := HQL.out; have := HQ1.out; have := HVC.out; omega
  have hbt := bd_ct2 r A (q - 1) c
  have HQ2 : Hid (q - 1 < q) := Lib.hid (by have := HQ1.out; omega)
  have HQ3 : Hid (q - 1 ≤ vs.length) := Lib.hid (by have := HQL.out; omega)
  generalize hp1 : q - 1 = p at *
  obtain ⟨ga, oa, hA⟩ : ∃ ga oa, A = some ⟨ga, oa, none⟩ := by
    obtain ⟨g, o, h, _⟩ := EK.See.range HV1.out (show 0 < vs.length by have := HQL.out; have := HQ1.out; omega)
    exact ⟨g, o, h⟩
  subst hA
  clear hp1
  refine wp_region_held_drew (S := fun w' => Below wd.heap.size wd w') (by kernel_rfl) (by rw [← hwd]; exact Below.refl _ _) (fun hS => ?_)
  rw [← hwd] at hS ⊢
  clear hwd
  (refine wpAnyH_take (i := 0) (v := .pointer (some ⟨w.heap.size + 1 + 1, 0, none⟩)) rfl (by kernel_rfl) (by kernel_rfl) (by kernel_rfl) (fun _ _ _ h => h) (Or.inl ⟨by kernel_rfl, fun w hSw => by go_simp⟩) hS ?_)
  (try simp only [Act.put])
  (refine wpAnyH_take (i := 1) (v := .int .i64 r) rfl (by kernel_rfl) (by kernel_rfl) (by kernel_rfl) (fun _ _ _ h => h) (Or.inl ⟨by kernel_rfl, fun w hSw => by have hc := HX0.out w hSw; go_simp⟩) hS ?_)
  (try simp only [Act.put])
  (refine wpAnyH_take (i := 2) (v := .pointer (some ⟨w.heap.size + 1 + 1, 1, none⟩)) rfl (by kernel_rfl) (by kernel_rfl) (by kernel_rfl) (fun _ _ _ h => h) (Or.inl ⟨by kernel_rfl, fun w hSw => by go_simp⟩) hS ?_)
  (try simp only [Act.put])
  (refine wpAnyH_take (i := 3) (v := .slice (some ⟨ga, oa, none⟩) vs.length c) rfl (by kernel_rfl) (by kernel_rfl) (by kernel_rfl) (fun _ _ _ h => h) (Or.inl ⟨by kernel_rfl, fun w hSw => by have hc := HX1.out w hSw; go_simp⟩) hS ?_)
  (try simp only [Act.put])
  (refine wpAnyH_take (i := 4) (v := .int .i64 (q : Int)) rfl (by kernel_rfl) (by kernel_rfl) (by kernel_rfl) (fun _ _ _ h => h) (Or.inl ⟨by kernel_rfl, fun w hSw => by go_simp⟩) hS ?_)
  (try simp only [Act.put])
  (refine wpAnyH_take (i := 5) (v := .int .i64 (p : Int)) rfl (by kernel_rfl) (by kernel_rfl) (by kernel_rfl) (fun _ _ _ h => h) (Or.inl ⟨by kernel_rfl, fun w hSw => by go_simp⟩) hS ?_)
  (try simp only [Act.put])
  (refine wpAnyH_take (i := 6) (v := .slice (some ⟨ga, oa, none⟩) p c) rfl (by kernel_rfl) (by kernel_rfl) (by kernel_rfl) (fun _ _ _ h => h) (Or.inl ⟨by kernel_rfl, fun w hSw => by go_simp⟩) hS ?_)
  (try simp only [Act.put])
  (refine wpAnyH_take (i := 7) (v := .agg (crtV r (some ⟨ga, oa, none⟩) p c)) rfl (by kernel_rfl) (by kernel_rfl) (by kernel_rfl) (fun _ _ _ h => h) (Or.inl ⟨by kernel_rfl, fun w hSw => by have hc := hbt w; go_simp⟩) hS ?_)
  (try simp only [Act.put])
  refine wpAnyH_ready (rs := [8]) (by decide +kernel) (by simp) (AllReadyH.cons rfl (fun K hK => ?_) AllReadyH.nil)
  go_simp
  have hal := hS.alloc hS.size (.cells (crtV 0 none 0 0) 32)
  obtain ⟨w5, hst, hbx, hbl⟩ := laid_ct wd r (some ⟨ga, oa, none⟩) p c
  refine hK.out _ _ (hal) (fun hS => ?_)
  clear hK K
  (try simp only [Act.put])
  have HX5 := Lib.hid hbx
  have HB5 := Lib.hid hbl
  clear hbx hal
  refine wpAnyH_ready (rs := [9]) (by decide +kernel) (by simp) (AllReadyH.cons rfl (fun K hK => ?_) AllReadyH.nil)
  go_simp
  refine hK.out _ _ (hbl) (fun hS => ?_)
  clear hK K
  (try simp only [Act.put])
  refine wpAnyH_done (by kernel_rfl) ?_ _
  clear hst hbt hS hbl
  have HB5a := Lib.hid (HBd.out.trans (HB5.out.mono HBd.out.size))
  clear HX0 HX1 HB5
  generalize wd.heap.size = gf at *
  have k6 : w5.cell? ⟨w.heap.size + 1 + 1, 1, none⟩ = some (.slice (some ⟨ga, oa, none⟩) vs.length c) := (HC.out w5 HB5a.out).2.2.2.2.2
  obtain ⟨k, hzk, hkl⟩ : ∃ k : Nat, (IntKind.u64.wrap i).tmod (vs.length : Int) = (k : Int) ∧ k < vs.length := by
    have h0 : 0 ≤ IntKind.u64.wrap i := by rw [IntKind.wrap_u64]; omega
    have h1 : (0 : Int) < (vs.length : Int) := by have := HQL.out; have := HQ1.out; omega
    rw [Int.tmod_eq_emod_of_nonneg h0]
    have h2 := Int.emod_nonneg (IntKind.u64.wrap i) (by omega : (vs.length : Int) ≠ 0)
    have h3 := Int.emod_lt_of_pos (IntKind.u64.wrap i) h1
    exact ⟨((IntKind.u64.wrap i) % (vs.length : Int)).toNat, by omega, by omega⟩
  have u1 : IntKind.u64.wrap (vs.length : Int) = (vs.length : Int) := by rw [IntKind.wrap_u64]; have := HCS.out.len; omega
  have u2 : ¬ (vs.length : Int) = 0 := by have := HQL.out; have := HQ1.out; omega
  have u3 : IntKind.i64.wrap (k : Int) = (k : Int) := by rw [IntKind.wrap_i64]; have := HCS.out.len; omega
  have u4 : wrap64 (k : Int) = (k : Int) := by simp only [wrap64]; have := HCS.out.len; omega
  have HKL := Lib.hid hkl
  clear hkl
  go_simp
  go_upto_region 8 with fail
  clear u1 u2 u3 u4 hzk k6
  go_cut [12, 48, 49, 50, 51, 52, 53, 54, 55, 56, 57, 58, 59, 60, 61] (fun p _ _ _ _ _ _ _ _ _ _ _ _ _ _ wx => ∃ gt A9 c9, p = .pointer (some ⟨gt, 0, none⟩) ∧ Hid (∃ m ∈ vs, T14Out w5 (vs ++ [m]) r gt A9 (vs.length + 1) c9 wx))
  case first =>
    obtain ⟨w6, hw6⟩ : ∃ w6, w6 = w5.drew := ⟨_, rfl⟩
    have hbd : Below w5.heap.size w5 w6 := by rw [hw6]; exact (Below.refl _ _).drew
    have HB6 := Lib.hid hbd
    have HB6a := Lib.hid (HB5a.out.trans (hbd.mono HB5a.out.size))
    clear hbd
    have HX0 : Hid (∀ w', Below w6.heap.size w6 w' → w'.cell? ⟨w.heap.size + 1 + 1, 0, none⟩ = some (.int .i64 r)) := Lib.hid (fun w' hb => (HC.out w' (HB6a.out.trans (hb.mono HB6a.out.size))).2.2.2.2.1)
    have HX1 : Hid (∀ w', Below w6.heap.size w6 w' → w'.cell? ⟨w.heap.size + 1 + 1, 1, none⟩ = some (.slice (some ⟨ga, oa, none⟩) vs.length c)) := Lib.hid (fun w' hb => (HC.out w' (HB6a.out.trans (hb.mono HB6a.out.size))).2.2.2.2.2)
    have HV6 := Lib.hid (EK.See.far HV1.out HB6a.out)
    obtain ⟨g', o', hA, hlv⟩ := row_vote HV6.out HKL.out
    injection hA with hA
    injection hA with e1 e2
    subst e1
    subst e2
    have HLV := Lib.hid hlv
    have HMM : Hid ((vs[k]'HKL.out) ∈ vs) := Lib.hid (List.getElem_mem HKL.out)
    have HVL : Hid (vs.length < 1000000) := Lib.hid (by have := HCS.out.len; omega)
    have i1 : (k : Int) < (vs.length : Int) := by have := HKL.out; omega
    have i0 : (0 : Int) ≤ (k : Int) := by omega
    clear hlv
    generalize vs[k]'HKL.out = m at *
    have HT0 := Lib.hid (T14.start w6 vs m)
    refine wp_region_held_drew (S := fun w' => Below w6.heap.size w6 w') (by kernel_rfl) (by rw [← hw6]; exact Below.refl _ _) (fun hS => ?_)
    rw [← hw6] at hS ⊢
    clear hw6
    (refine wpAnyH_take (i := 0) (v := .pointer (some ⟨w.heap.size + 1 + 1, 0, none⟩)) rfl (by kernel_rfl) (by kernel_rfl) (by kernel_rfl) (fun _ _ _ h => h) (Or.inl ⟨by kernel_rfl, fun w hSw => by go_simp⟩) hS ?_)
    (try simp only [Act.put])
    (refine wpAnyH_take (i := 1) (v := .int .i64 r) rfl (by kernel_rfl) (by kernel_rfl) (by kernel_rfl) (fun _ _ _ h => h) (Or.inl ⟨by kernel_rfl, fun w hSw => by have hc := HX0.out w hSw; go_simp⟩) hS ?_)
    (try simp only [Act.put])
    (refine wpAnyH_take (i := 3) (v := .pointer (some ⟨w.heap.size + 1 + 1, 1, none⟩)) rfl (by kernel_rfl) (by kernel_rfl) (by kernel_rfl) (fun _ _ _ h => h) (Or.inl ⟨by kernel_rfl, fun w hSw => by go_simp⟩) hS ?_)
    (try simp only [Act.put])
    (refine wpAnyH_take (i := 4) (v := .slice (some ⟨ga, oa, none⟩) vs.length c) rfl (by kernel_rfl) (by kernel_rfl) (by kernel_rfl) (fun _ _ _ h => h) (Or.inl ⟨by kernel_rfl, fun w hSw => by have hc := HX1.out w hSw; go_simp⟩) hS ?_)
    (try simp only [Act.put])
    (refine wpAnyH_take (i := 6) (v := .pointer (some ⟨w.heap.size + 1 + 1, 1, none⟩)) rfl (by kernel_rfl) (by kernel_rfl) (by kernel_rfl) (fun _ _ _ h => h) (Or.inl ⟨by kernel_rfl, fun w hSw => by go_simp⟩) hS ?_)
    (try simp only [Act.put])
    (refine wpAnyH_take (i := 7) (v := .slice (some ⟨ga, oa, none⟩) vs.length c) rfl (by kernel_rfl) (by kernel_rfl) (by kernel_rfl) (fun _ _ _ h => h) (Or.inl ⟨by kernel_rfl, fun w hSw => by have hc := HX1.out w hSw; go_simp⟩) hS ?_)
    (try simp only [Act.put])
    (refine wpAnyH_take (i := 8) (v := .int .i64 (k : Int)) rfl (by kernel_rfl) (by kernel_rfl) (by kernel_rfl) (fun _ _ _ h => h) (Or.inl ⟨by kernel_rfl, fun w hSw => by go_simp⟩) hS ?_)
    (try simp only [Act.put])
    (refine wpAnyH_take (i := 9) (v := .pointer (some ⟨ga, oa + k * 41, none⟩)) rfl (by kernel_rfl) (by kernel_rfl) (by kernel_rfl) (fun _ _ _ h => h) (Or.inl ⟨by kernel_rfl, fun w hSw => by go_simp⟩) hS ?_)
    (try simp only [Act.put])
    (refine wpAnyH_take (i := 10) (v := .agg m.cells.toArray) rfl (by kernel_rfl) (by kernel_rfl) (by kernel_rfl) (fun _ _ _ h => h) (Or.inl ⟨by kernel_rfl, fun w hSw => by have hc := HLV.out w hSw; go_simp⟩) hS ?_)
    (try simp only [Act.put])
    refine wpAnyH_ready (rs := [2, 11, 14]) (by decide +kernel) (by simp) (AllReadyH.cons rfl (fun K hK => ?_) (AllReadyH.cons rfl (fun K hK => ?_) (AllReadyH.cons rfl (fun K hK => ?_) AllReadyH.nil)))
    · obtain ⟨x1, g0, hr1, ht1⟩ := HT0.out.lit0
      go_simp
      refine hK.out _ _ (ht1.far) (fun hS => ?_)
      clear hK K
      (try simp only [Act.put])
      have HT1 := Lib.hid ht1
      clear ht1 hr1 HT0
      refine wpAnyH_ready (rs := [5, 11, 14]) (by decide +kernel) (by simp) (AllReadyH.cons rfl (fun K hK => ?_) (AllReadyH.cons rfl (fun K hK => ?_) (AllReadyH.cons rfl (fun K hK => ?_) AllReadyH.nil)))
      · obtain ⟨x2, A6, c6, hr2, ht2⟩ := HT1.out.app5 (A := some ⟨ga, oa, none⟩) (c := c) HV6.out HVL.out
        go_simp
        refine hK.out _ _ (ht2.far) (fun hS => ?_)
        clear hK K
        (try simp only [Act.put])
        have HT2 := Lib.hid ht2
        clear ht2 hr2 HT1
        refine wpAnyH_ready (rs := [11, 14]) (by decide +kernel) (by simp) (AllReadyH.cons rfl (fun K hK => ?_) (AllReadyH.cons rfl (fun K hK => ?_) AllReadyH.nil))
        · obtain ⟨x3, g8, hr3, ht3⟩ := HT2.out.lit1
          go_simp
          refine hK.out _ _ (ht3.far) (fun hS => ?_)
          clear hK K
          (try simp only [Act.put])
          have HT3 := Lib.hid ht3
          clear ht3 hr3 HT2
          refine wpAnyH_ready (rs := [12, 14]) (by decide +kernel) (by simp) (AllReadyH.cons rfl (fun K hK => ?_) (AllReadyH.cons rfl (fun K hK => ?_) AllReadyH.nil))
          · obtain ⟨x4, A9, c9, hr4, ht4⟩ := HT3.out.app12 HVL.out
            go_simp
            refine hK.out _ _ (ht4.far) (fun hS => ?_)
            clear hK K
            (try simp only [Act.put])
            have HT4 := Lib.hid ht4
            clear ht4 hr4 HT3
            have hbt := bd_ct2 r A9 (vs.length + 1) c9
            (refine wpAnyH_take (i := 13) (v := .agg (crtV r A9 (vs.length + 1) c9)) rfl (by kernel_rfl) (by kernel_rfl) (by kernel_rfl) (fun _ _ _ h => h) (Or.inl ⟨by kernel_rfl, fun w hSw => by have hc := hbt w; go_simp⟩) hS ?_)
            (try simp only [Act.put])
            refine wpAnyH_ready (rs := [14]) (by decide +kernel) (by simp) (AllReadyH.cons rfl (fun K hK => ?_) AllReadyH.nil)
            have ht5 := HT4.out.al
            go_simp
            refine hK.out _ _ (ht5.far) (fun hS => ?_)
            clear hK K
            (try simp only [Act.put])
            have HT5 := Lib.hid ht5
            clear ht5 HT4
            obtain ⟨wz, hst, hto⟩ := HT5.out.shut r
            refine wpAnyH_ready (rs := [15]) (by decide +kernel) (by simp) (AllReadyH.cons rfl (fun K hK => ?_) AllReadyH.nil)
            go_simp
            refine hK.out _ _ (hto.far) (fun hS => ?_)
            clear hK K
            (try simp only [Act.put])
            refine wpAnyH_done (by kernel_rfl) ?_ _
            have HTO := Lib.hid (T14Out.mk hto.box hto.see (HB6.out.trans (hto.far.mono HB6.out.size)))
            clear hS hst hto hbt
            go_wp2_with fail
            go_meet
            exact ⟨_, _, _, rfl, Lib.hid ⟨m, HMM.out, HTO.out⟩⟩
          · have ht4 := HT3.out.al
            go_simp
            refine hK.out _ _ (ht4.far) (fun hS => ?_)
            clear hK K
            (try simp only [Act.put])
            have HT4 := Lib.hid ht4
            clear ht4 HT3
            refine wpAnyH_ready (rs := [12]) (by decide +kernel) (by simp) (AllReadyH.cons rfl (fun K hK => ?_) AllReadyH.nil)
            obtain ⟨x5, A9, c9, hr5, ht5⟩ := HT4.out.app12 HVL.out
            go_simp
            refine hK.out _ _ (ht5.far) (fun hS => ?_)
            clear hK K
            (try simp only [Act.put])
            have HT5 := Lib.hid ht5
            clear ht5 hr5 HT4
            have hbt := bd_ct2 r A9 (vs.length + 1) c9
            (refine wpAnyH_take (i := 13) (v := .agg (crtV r A9 (vs.length + 1) c9)) rfl (by kernel_rfl) (by kernel_rfl) (by kernel_rfl) (fun _ _ _ h => h) (Or.inl ⟨by kernel_rfl, fun w hSw => by have hc := hbt w; go_simp⟩) hS ?_)
            (try simp only [Act.put])
            obtain ⟨wz, hst, hto⟩ := HT5.out.shut r
            refine wpAnyH_ready (rs := [15]) (by decide +kernel) (by simp) (AllReadyH.cons rfl (fun K hK => ?_) AllReadyH.nil)
            go_simp
            refine hK.out _ _ (hto.far) (fun hS => ?_)
            clear hK K
            (try simp only [Act.put])
            refine wpAnyH_done (by kernel_rfl) ?_ _
            have HTO := Lib.hid (T14Out.mk hto.box hto.see (HB6.out.trans (hto.far.mono HB6.out.size)))
            clear hS hst hto hbt
            go_wp2_with fail
            go_meet
            exact ⟨_, _, _, rfl, Lib.hid ⟨m, HMM.out, HTO.out⟩⟩
        · have ht3 := HT2.out.al
          go_simp
          refine hK.out _ _ (ht3.far) (fun hS => ?_)
          clear hK K
          (try simp only [Act.put])
          have HT3 := Lib.hid ht3
          clear ht3 HT2
          refine wpAnyH_ready (rs := [11]) (by decide +kernel) (by simp) (AllReadyH.cons rfl (fun K hK => ?_) AllReadyH.nil)
          obtain ⟨x4, g8, hr4, ht4⟩ := HT3.out.lit1
          go_simp
          refine hK.out _ _ (ht4.far) (fun hS => ?_)
          clear hK K
          (try simp only [Act.put])
          have HT4 := Lib.hid ht4
          clear ht4 hr4 HT3
          refine wpAnyH_ready (rs := [12]) (by decide +kernel) (by simp) (AllReadyH.cons rfl (fun K hK => ?_) AllReadyH.nil)
          obtain ⟨x5, A9, c9, hr5, ht5⟩ := HT4.out.app12 HVL.out
          go_simp
          refine hK.out _ _ (ht5.far) (fun hS => ?_)
          clear hK K
          (try simp only [Act.put])
          have HT5 := Lib.hid ht5
          clear ht5 hr5 HT4
          have hbt := bd_ct2 r A9 (vs.length + 1) c9
          (refine wpAnyH_take (i := 13) (v := .agg (crtV r A9 (vs.length + 1) c9)) rfl (by kernel_rfl) (by kernel_rfl) (by kernel_rfl) (fun _ _ _ h => h) (Or.inl ⟨by kernel_rfl, fun w hSw => by have hc := hbt w; go_simp⟩) hS ?_)
          (try simp only [Act.put])
          obtain ⟨wz, hst, hto⟩ := HT5.out.shut r
          refine wpAnyH_ready (rs := [15]) (by decide +kernel) (by simp) (AllReadyH.cons rfl (fun K hK => ?_) AllReadyH.nil)
          go_simp
          refine hK.out _ _ (hto.far) (fun hS => ?_)
          clear hK K
          (try simp only [Act.put])
          refine wpAnyH_done (by kernel_rfl) ?_ _
          have HTO := Lib.hid (T14Out.mk hto.box hto.see (HB6.out.trans (hto.far.mono HB6.out.size)))
          clear hS hst hto hbt
          go_wp2_with fail
          go_meet
          exact ⟨_, _, _, rfl, Lib.hid ⟨m, HMM.out, HTO.out⟩⟩
      · obtain ⟨x2, g8, hr2, ht2⟩ := HT1.out.lit1
        go_simp
        refine hK.out _ _ (ht2.far) (fun hS => ?_)
        clear hK K
        (try simp only [Act.put])
        have HT2 := Lib.hid ht2
        clear ht2 hr2 HT1
        refine wpAnyH_ready (rs := [5, 14]) (by decide +kernel) (by simp) (AllReadyH.cons rfl (fun K hK => ?_) (AllReadyH.cons rfl (fun K hK => ?_) AllReadyH.nil))
        · obtain ⟨x3, A6, c6, hr3, ht3⟩ := HT2.out.app5 (A := some ⟨ga, oa, none⟩) (c := c) HV6.out HVL.out
          go_simp
          refine hK.out _ _ (ht3.far) (fun hS => ?_)
          clear hK K
          (try simp only [Act.put])
          have HT3 := Lib.hid ht3
          clear ht3 hr3 HT2
          refine wpAnyH_ready (rs := [12, 14]) (by decide +kernel) (by simp) (AllReadyH.cons rfl (fun K hK => ?_) (AllReadyH.cons rfl (fun K hK => ?_) AllReadyH.nil))
          · obtain ⟨x4, A9, c9, hr4, ht4⟩ := HT3.out.app12 HVL.out
            go_simp
            refine hK.out _ _ (ht4.far) (fun hS => ?_)
            clear hK K
            (try simp only [Act.put])
            have HT4 := Lib.hid ht4
            clear ht4 hr4 HT3
            have hbt := bd_ct2 r A9 (vs.length + 1) c9
            (refine wpAnyH_take (i := 13) (v := .agg (crtV r A9 (vs.length + 1) c9)) rfl (by kernel_rfl) (by kernel_rfl) (by kernel_rfl) (fun _ _ _ h => h) (Or.inl ⟨by kernel_rfl, fun w hSw => by have hc := hbt w; go_simp⟩) hS ?_)
            (try simp only [Act.put])
            refine wpAnyH_ready (rs := [14]) (by decide +kernel) (by simp) (AllReadyH.cons rfl (fun K hK => ?_) AllReadyH.nil)
            have ht5 := HT4.out.al
            go_simp
            refine hK.out _ _ (ht5.far) (fun hS => ?_)
            clear hK K
            (try simp only [Act.put])
            have HT5 := Lib.hid ht5
            clear ht5 HT4
            obtain ⟨wz, hst, hto⟩ := HT5.out.shut r
            refine wpAnyH_ready (rs := [15]) (by decide +kernel) (by simp) (AllReadyH.cons rfl (fun K hK => ?_) AllReadyH.nil)
            go_simp
            refine hK.out _ _ (hto.far) (fun hS => ?_)
            clear hK K
            (try simp only [Act.put])
            refine wpAnyH_done (by kernel_rfl) ?_ _
            have HTO := Lib.hid (T14Out.mk hto.box hto.see (HB6.out.trans (hto.far.mono HB6.out.size)))
            clear hS hst hto hbt
            go_wp2_with fail
            go_meet
            exact ⟨_, _, _, rfl, Lib.hid ⟨m, HMM.out, HTO.out⟩⟩
          · have ht4 := HT3.out.al
            go_simp
            refine hK.out _ _ (ht4.far) (fun hS => ?_)
            clear hK K
            (try simp only [Act.put])
            have HT4 := Lib.hid ht4
            clear ht4 HT3
            refine wpAnyH_ready (rs := [12]) (by decide +kernel) (by simp) (AllReadyH.cons rfl (fun K hK => ?_) AllReadyH.nil)
            obtain ⟨x5, A9, c9, hr5, ht5⟩ := HT4.out.app12 HVL.out
            go_simp
            refine hK.out _ _ (ht5.far) (fun hS => ?_)
            clear hK K
            (try simp only [Act.put])
            have HT5 := Lib.hid ht5
            clear ht5 hr5 HT4
            have hbt := bd_ct2 r A9 (vs.length + 1) c9
            (refine wpAnyH_take (i := 13) (v := .agg (crtV r A9 (vs.length + 1) c9)) rfl (by kernel_rfl) (by kernel_rfl) (by kernel_rfl) (fun _ _ _ h => h) (Or.inl ⟨by kernel_rfl, fun w hSw => by have hc := hbt w; go_simp⟩) hS ?_)
            (try simp only [Act.put])
            obtain ⟨wz, hst, hto⟩ := HT5.out.shut r
            refine wpAnyH_ready (rs := [15]) (by decide +kernel) (by simp) (AllReadyH.cons rfl (fun K hK => ?_) AllReadyH.nil)
            go_simp
            refine hK.out _ _ (hto.far) (fun hS => ?_)
            clear hK K
            (try simp only [Act.put])
            refine wpAnyH_done (by kernel_rfl) ?_ _
            have HTO := Lib.hid (T14Out.mk hto.box hto.see (HB6.out.trans (hto.far.mono HB6.out.size)))
            clear hS hst hto hbt
            go_wp2_with fail
            go_meet
            exact ⟨_, _, _, rfl, Lib.hid ⟨m, HMM.out, HTO.out⟩⟩
        · have ht3 := HT2.out.al
          go_simp
          refine hK.out _ _ (ht3.far) (fun hS => ?_)
          clear hK K
          (try simp only [Act.put])
          have HT3 := Lib.hid ht3
          clear ht3 HT2
          refine wpAnyH_ready (rs := [5]) (by decide +kernel) (by simp) (AllReadyH.cons rfl (fun K hK => ?_) AllReadyH.nil)
          obtain ⟨x4, A6, c6, hr4, ht4⟩ := HT3.out.app5 (A := some ⟨ga, oa, none⟩) (c := c) HV6.out HVL.out
          go_simp
          refine hK.out _ _ (ht4.far) (fun hS => ?_)
          clear hK K
          (try simp only [Act.put])
          have HT4 := Lib.hid ht4
          clear ht4 hr4 HT3
          refine wpAnyH_ready (rs := [12]) (by decide +kernel) (by simp) (AllReadyH.cons rfl (fun K hK => ?_) AllReadyH.nil)
          obtain ⟨x5, A9, c9, hr5, ht5⟩ := HT4.out.app12 HVL.out
          go_simp
          refine hK.out _ _ (ht5.far) (fun hS => ?_)
          clear hK K
          (try simp only [Act.put])
          have HT5 := Lib.hid ht5
          clear ht5 hr5 HT4
          have hbt := bd_ct2 r A9 (vs.length + 1) c9
          (refine wpAnyH_take (i := 13) (v := .agg (crtV r A9 (vs.length + 1) c9)) rfl (by kernel_rfl) (by kernel_rfl) (by kernel_rfl) (fun _ _ _ h => h) (Or.inl ⟨by kernel_rfl, fun w hSw => by have hc := hbt w; go_simp⟩) hS ?_)
          (try simp only [Act.put])
          obtain ⟨wz, hst, hto⟩ := HT5.out.shut r
          refine wpAnyH_ready (rs := [15]) (by decide +kernel) (by simp) (AllReadyH.cons rfl (fun K hK => ?_) AllReadyH.nil)
          go_simp
          refine hK.out _ _ (hto.far) (fun hS => ?_)
          clear hK K
          (try simp only [Act.put])
          refine wpAnyH_done (by kernel_rfl) ?_ _
          have HTO := Lib.hid (T14Out.mk hto.box hto.see (HB6.out.trans (hto.far.mono HB6.out.size)))
          clear hS hst hto hbt
          go_wp2_with fail
          go_meet
          exact ⟨_, _, _, rfl, Lib.hid ⟨m, HMM.out, HTO.out⟩⟩
      · have ht2 := HT1.out.al
        go_simp
        refine hK.out _ _ (ht2.far) (fun hS => ?_)
        clear hK K
        (try simp only [Act.put])
        have HT2 := Lib.hid ht2
        clear ht2 HT1
        refine wpAnyH_ready (rs := [5, 11]) (by decide +kernel) (by simp) (AllReadyH.cons rfl (fun K hK => ?_) (AllReadyH.cons rfl (fun K hK => ?_) AllReadyH.nil))
        · obtain ⟨x3, A6, c6, hr3, ht3⟩ := HT2.out.app5 (A := some ⟨ga, oa, none⟩) (c := c) HV6.out HVL.out
          go_simp
          refine hK.out _ _ (ht3.far) (fun hS => ?_)
          clear hK K
          (try simp only [Act.put])
          have HT3 := Lib.hid ht3
          clear ht3 hr3 HT2
          refine wpAnyH_ready (rs := [11]) (by decide +kernel) (by simp) (AllReadyH.cons rfl (fun K hK => ?_) AllReadyH.nil)
          obtain ⟨x4, g8, hr4, ht4⟩ := HT3.out.lit1
          go_simp
          refine hK.out _ _ (ht4.far) (fun hS => ?_)
          clear hK K
          (try simp only [Act.put])
          have HT4 := Lib.hid ht4
          clear ht4 hr4 HT3
          refine wpAnyH_ready (rs := [12]) (by decide +kernel) (by simp) (AllReadyH.cons rfl (fun K hK => ?_) AllReadyH.nil)
          obtain ⟨x5, A9, c9, hr5, ht5⟩ := HT4.out.app12 HVL.out
          go_simp
          refine hK.out _ _ (ht5.far) (fun hS => ?_)
          clear hK K
          (try simp only [Act.put])
          have HT5 := Lib.hid ht5
          clear ht5 hr5 HT4
          have hbt := bd_ct2 r A9 (vs.length + 1) c9
          (refine wpAnyH_take (i := 13) (v := .agg (crtV r A9 (vs.length + 1) c9)) rfl (by kernel_rfl) (by kernel_rfl) (by kernel_rfl) (fun _ _ _ h => h) (Or.inl ⟨by kernel_rfl, fun w hSw => by have hc := hbt w; go_simp⟩) hS ?_)
          (try simp only [Act.put])
          obtain ⟨wz, hst, hto⟩ := HT5.out.shut r
          refine wpAnyH_ready (rs := [15]) (by decide +kernel) (by simp) (AllReadyH.cons rfl (fun K hK => ?_) AllReadyH.nil)
          go_simp
          refine hK.out _ _ (hto.far) (fun hS => ?_)
          clear hK K
          (try simp only [Act.put])
          refine wpAnyH_done (by kernel_rfl) ?_ _
          have HTO := Lib.hid (T14Out.mk hto.box hto.see (HB6.out.trans (hto.far.mono HB6.out.size)))
          clear hS hst hto hbt
          go_wp2_with fail
          go_meet
          exact ⟨_, _, _, rfl, Lib.hid ⟨m, HMM.out, HTO.out⟩⟩
        · obtain ⟨x3, g8, hr3, ht3⟩ := HT2.out.lit1
          go_simp
          refine hK.out _ _ (ht3.far) (fun hS => ?_)
          clear hK K
          (try simp only [Act.put])
          have HT3 := Lib.hid ht3
          clear ht3 hr3 HT2
          refine wpAnyH_ready (rs := [5]) (by decide +kernel) (by simp) (AllReadyH.cons rfl (fun K hK => ?_) AllReadyH.nil)
          obtain ⟨x4, A6, c6, hr4, ht4⟩ := HT3.out.app5 (A := some ⟨ga, oa, none⟩) (c := c) HV6.out HVL.out
          go_simp
          refine hK.out _ _ (ht4.far) (fun hS => ?_)
          clear hK K
          (try simp only [Act.put])
          have HT4 := Lib.hid ht4
          clear ht4 hr4 HT3
          refine wpAnyH_ready (rs := [12]) (by decide +kernel) (by simp) (AllReadyH.cons rfl (fun K hK => ?_) AllReadyH.nil)
          obtain ⟨x5, A9, c9, hr5, ht5⟩ := HT4.out.app12 HVL.out
          go_simp
          refine hK.out _ _ (ht5.far) (fun hS => ?_)
          clear hK K
          (try simp only [Act.put])
          have HT5 := Lib.hid ht5
          clear ht5 hr5 HT4
          have hbt := bd_ct2 r A9 (vs.length + 1) c9
          (refine wpAnyH_take (i := 13) (v := .agg (crtV r A9 (vs.length + 1) c9)) rfl (by kernel_rfl) (by kernel_rfl) (by kernel_rfl) (fun _ _ _ h => h) (Or.inl ⟨by kernel_rfl, fun w hSw => by have hc := hbt w; go_simp⟩) hS ?_)
          (try simp only [Act.put])
          obtain ⟨wz, hst, hto⟩ := HT5.out.shut r
          refine wpAnyH_ready (rs := [15]) (by decide +kernel) (by simp) (AllReadyH.cons rfl (fun K hK => ?_) AllReadyH.nil)
          go_simp
          refine hK.out _ _ (hto.far) (fun hS => ?_)
          clear hK K
          (try simp only [Act.put])
          refine wpAnyH_done (by kernel_rfl) ?_ _
          have HTO := Lib.hid (T14Out.mk hto.box hto.see (HB6.out.trans (hto.far.mono HB6.out.size)))
          clear hS hst hto hbt
          go_wp2_with fail
          go_meet
          exact ⟨_, _, _, rfl, Lib.hid ⟨m, HMM.out, HTO.out⟩⟩
    · obtain ⟨x1, g8, hr1, ht1⟩ := HT0.out.lit1
      go_simp
      refine hK.out _ _ (ht1.far) (fun hS => ?_)
      clear hK K
      (try simp only [Act.put])
      have HT1 := Lib.hid ht1
      clear ht1 hr1 HT0
      refine wpAnyH_ready (rs := [2, 14]) (by decide +kernel) (by simp) (AllReadyH.cons rfl (fun K hK => ?_) (AllReadyH.cons rfl (fun K hK => ?_) AllReadyH.nil))
      · obtain ⟨x2, g0, hr2, ht2⟩ := HT1.out.lit0
        go_simp
        refine hK.out _ _ (ht2.far) (fun hS => ?_)
        clear hK K
        (try simp only [Act.put])
        have HT2 := Lib.hid ht2
        clear ht2 hr2 HT1
        refine wpAnyH_ready (rs := [5, 14]) (by decide +kernel) (by simp) (AllReadyH.cons rfl (fun K hK => ?_) (AllReadyH.cons rfl (fun K hK => ?_) AllReadyH.nil))
        · obtain ⟨x3, A6, c6, hr3, ht3⟩ := HT2.out.app5 (A := some ⟨ga, oa, none⟩) (c := c) HV6.out HVL.out
          go_simp
          refine hK.out _ _ (ht3.far) (fun hS => ?_)
          clear hK K
          (try simp only [Act.put])
          have HT3 := Lib.hid ht3
          clear ht3 hr3 HT2
          refine wpAnyH_ready (rs := [12, 14]) (by decide +kernel) (by simp) (AllReadyH.cons rfl (fun K hK => ?_) (AllReadyH.cons rfl (fun K hK => ?_) AllReadyH.nil))
          · obtain ⟨x4, A9, c9, hr4, ht4⟩ := HT3.out.app12 HVL.out
            go_simp
            refine hK.out _ _ (ht4.far) (fun hS => ?_)
            clear hK K
            (try simp only [Act.put])
            have HT4 := Lib.hid ht4
            clear ht4 hr4 HT3
            have hbt := bd_ct2 r A9 (vs.length + 1) c9
            (refine wpAnyH_take (i := 13) (v := .agg (crtV r A9 (vs.length + 1) c9)) rfl (by kernel_rfl) (by kernel_rfl) (by kernel_rfl) (fun _ _ _ h => h) (Or.inl ⟨by kernel_rfl, fun w hSw => by have hc := hbt w; go_simp⟩) hS ?_)
            (try simp only [Act.put])
            refine wpAnyH_ready (rs := [14]) (by decide +kernel) (by simp) (AllReadyH.cons rfl (fun K hK => ?_) AllReadyH.nil)
            have ht5 := HT4.out.al
            go_simp
            refine hK.out _ _ (ht5.far) (fun hS => ?_)
            clear hK K
            (try simp only [Act.put])
            have HT5 := Lib.hid ht5
            clear ht5 HT4
            obtain ⟨wz, hst, hto⟩ := HT5.out.shut r
            refine wpAnyH_ready (rs := [15]) (by decide +kernel) (by simp) (AllReadyH.cons rfl (fun K hK => ?_) AllReadyH.nil)
            go_simp
            refine hK.out _ _ (hto.far) (fun hS => ?_)
            clear hK K
            (try simp only [Act.put])
            refine wpAnyH_done (by kernel_rfl) ?_ _
            have HTO := Lib.hid (T14Out.mk hto.box hto.see (HB6.out.trans (hto.far.mono HB6.out.size)))
            clear hS hst hto hbt
            go_wp2_with fail
            go_meet
            exact ⟨_, _, _, rfl, Lib.hid ⟨m, HMM.out, HTO.out⟩⟩
          · have ht4 := HT3.out.al
            go_simp
            refine hK.out _ _ (ht4.far) (fun hS => ?_)
            clear hK K
            (try simp only [Act.put])
            have HT4 := Lib.hid ht4
            clear ht4 HT3
            refine wpAnyH_ready (rs := [12]) (by decide +kernel) (by simp) (AllReadyH.cons rfl (fun K hK => ?_) AllReadyH.nil)
            obtain ⟨x5, A9, c9, hr5, ht5⟩ := HT4.out.app12 HVL.out
            go_simp
            refine hK.out _ _ (ht5.far) (fun hS => ?_)
            clear hK K
            (try simp only [Act.put])
            have HT5 := Lib.hid ht5
            clear ht5 hr5 HT4
            have hbt := bd_ct2 r A9 (vs.length + 1) c9
            (refine wpAnyH_take (i := 13) (v := .agg (crtV r A9 (vs.length + 1) c9)) rfl (by kernel_rfl) (by kernel_rfl) (by kernel_rfl) (fun _ _ _ h => h) (Or.inl ⟨by kernel_rfl, fun w hSw => by have hc := hbt w; go_simp⟩) hS ?_)
            (try simp only [Act.put])
            obtain ⟨wz, hst, hto⟩ := HT5.out.shut r
            refine wpAnyH_ready (rs := [15]) (by decide +kernel) (by simp) (AllReadyH.cons rfl (fun K hK => ?_) AllReadyH.nil)
            go_simp
            refine hK.out _ _ (hto.far) (fun hS => ?_)
            clear hK K
            (try simp only [Act.put])
            refine wpAnyH_done (by kernel_rfl) ?_ _
            have HTO := Lib.hid (T14Out.mk hto.box hto.see (HB6.out.trans (hto.far.mono HB6.out.size)))
            clear hS hst hto hbt
            go_wp2_with fail
            go_meet
            exact ⟨_, _, _, rfl, Lib.hid ⟨m, HMM.out, HTO.out⟩⟩
        · have ht3 := HT2.out.al
          go_simp
          refine hK.out _ _ (ht3.far) (fun hS => ?_)
          clear hK K
          (try simp only [Act.put])
          have HT3 := Lib.hid ht3
          clear ht3 HT2
          refine wpAnyH_ready (rs := [5]) (by decide +kernel) (by simp) (AllReadyH.cons rfl (fun K hK => ?_) AllReadyH.nil)
          obtain ⟨x4, A6, c6, hr4, ht4⟩ := HT3.out.app5 (A := some ⟨ga, oa, none⟩) (c := c) HV6.out HVL.out
          go_simp
          refine hK.out _ _ (ht4.far) (fun hS => ?_)
          clear hK K
          (try simp only [Act.put])
          have HT4 := Lib.hid ht4
          clear ht4 hr4 HT3
          refine wpAnyH_ready (rs := [12]) (by decide +kernel) (by simp) (AllReadyH.cons rfl (fun K hK => ?_) AllReadyH.nil)
          obtain ⟨x5, A9, c9, hr5, ht5⟩ := HT4.out.app12 HVL.out
          go_simp
          refine hK.out _ _ (ht5.far) (fun hS => ?_)
          clear hK K
          (try simp only [Act.put])
          have HT5 := Lib.hid ht5
          clear ht5 hr5 HT4
          have hbt := bd_ct2 r A9 (vs.length + 1) c9
          (refine wpAnyH_take (i := 13) (v := .agg (crtV r A9 (vs.length + 1) c9)) rfl (by kernel_rfl) (by kernel_rfl) (by kernel_rfl) (fun _ _ _ h => h) (Or.inl ⟨by kernel_rfl, fun w hSw => by have hc := hbt w; go_simp⟩) hS ?_)
          (try simp only [Act.put])
          obtain ⟨wz, hst, hto⟩ := HT5.out.shut r
          refine wpAnyH_ready (rs := [15]) (by decide +kernel) (by simp) (AllReadyH.cons rfl (fun K hK => ?_) AllReadyH.nil)
          go_simp
          refine hK.out _ _ (hto.far) (fun hS => ?_)
          clear hK K
          (try simp only [Act.put])
          refine wpAnyH_done (by kernel_rfl) ?_ _
          have HTO := Lib.hid (T14Out.mk hto.box hto.see (HB6.out.trans (hto.far.mono HB6.out.size)))
          clear hS hst hto hbt
          go_wp2_with fail
          go_meet
          exact ⟨_, _, _, rfl, Lib.hid ⟨m, HMM.out, HTO.out⟩⟩
      · have ht2 := HT1.out.al
        go_simp
        refine hK.out _ _ (ht2.far) (fun hS => ?_)
        clear hK K
        (try simp only [Act.put])
        have HT2 := Lib.hid ht2
        clear ht2 HT1
        refine wpAnyH_ready (rs := [2]) (by decide +kernel) (by simp) (AllReadyH.cons rfl (fun K hK => ?_) AllReadyH.nil)
        obtain ⟨x3, g0, hr3, ht3⟩ := HT2.out.lit0
        go_simp
        refine hK.out _ _ (ht3.far) (fun hS => ?_)
        clear hK K
        (try simp only [Act.put])
        have HT3 := Lib.hid ht3
        clear ht3 hr3 HT2
        refine wpAnyH_ready (rs := [5]) (by decide +kernel) (by simp) (AllReadyH.cons rfl (fun K hK => ?_) AllReadyH.nil)
        obtain ⟨x4, A6, c6, hr4, ht4⟩ := HT3.out.app5 (A := some ⟨ga, oa, none⟩) (c := c) HV6.out HVL.out
        go_simp
        refine hK.out _ _ (ht4.far) (fun hS => ?_)
        clear hK K
        (try simp only [Act.put])
        have HT4 := Lib.hid ht4
        clear ht4 hr4 HT3
        refine wpAnyH_ready (rs := [12]) (by decide +kernel) (by simp) (AllReadyH.cons rfl (fun K hK => ?_) AllReadyH.nil)
        obtain ⟨x5, A9, c9, hr5, ht5⟩ := HT4.out.app12 HVL.out
        go_simp
        refine hK.out _ _ (ht5.far) (fun hS => ?_)
        clear hK K
        (try simp only [Act.put])
        have HT5 := Lib.hid ht5
        clear ht5 hr5 HT4
        have hbt := bd_ct2 r A9 (vs.length + 1) c9
        (refine wpAnyH_take (i := 13) (v := .agg (crtV r A9 (vs.length + 1) c9)) rfl (by kernel_rfl) (by kernel_rfl) (by kernel_rfl) (fun _ _ _ h => h) (Or.inl ⟨by kernel_rfl, fun w hSw => by have hc := hbt w; go_simp⟩) hS ?_)
        (try simp only [Act.put])
        obtain ⟨wz, hst, hto⟩ := HT5.out.shut r
        refine wpAnyH_ready (rs := [15]) (by decide +kernel) (by simp) (AllReadyH.cons rfl (fun K hK => ?_) AllReadyH.nil)
        go_simp
        refine hK.out _ _ (hto.far) (fun hS => ?_)
        clear hK K
        (try simp only [Act.put])
        refine wpAnyH_done (by kernel_rfl) ?_ _
        have HTO := Lib.hid (T14Out.mk hto.box hto.see (HB6.out.trans (hto.far.mono HB6.out.size)))
        clear hS hst hto hbt
        go_wp2_with fail
        go_meet
        exact ⟨_, _, _, rfl, Lib.hid ⟨m, HMM.out, HTO.out⟩⟩
    · have ht1 := HT0.out.al
      go_simp
      refine hK.out _ _ (ht1.far) (fun hS => ?_)
      clear hK K
      (try simp only [Act.put])
      have HT1 := Lib.hid ht1
      clear ht1 HT0
      refine wpAnyH_ready (rs := [2, 11]) (by decide +kernel) (by simp) (AllReadyH.cons rfl (fun K hK => ?_) (AllReadyH.cons rfl (fun K hK => ?_) AllReadyH.nil))
      · obtain ⟨x2, g0, hr2, ht2⟩ := HT1.out.lit0
        go_simp
        refine hK.out _ _ (ht2.far) (fun hS => ?_)
        clear hK K
        (try simp only [Act.put])
        have HT2 := Lib.hid ht2
        clear ht2 hr2 HT1
        refine wpAnyH_ready (rs := [5, 11]) (by decide +kernel) (by simp) (AllReadyH.cons rfl (fun K hK => ?_) (AllReadyH.cons rfl (fun K hK => ?_) AllReadyH.nil))
        · obtain ⟨x3, A6, c6, hr3, ht3⟩ := HT2.out.app5 (A := some ⟨ga, oa, none⟩) (c := c) HV6.out HVL.out
          go_simp
          refine hK.out _ _ (ht3.far) (fun hS => ?_)
          clear hK K
          (try simp only [Act.put])
          have HT3 := Lib.hid ht3
          clear ht3 hr3 HT2
          refine wpAnyH_ready (rs := [11]) (by decide +kernel) (by simp) (AllReadyH.cons rfl (fun K hK => ?_) AllReadyH.nil)
          obtain ⟨x4, g8, hr4, ht4⟩ := HT3.out.lit1
          go_simp
          refine hK.out _ _ (ht4.far) (fun hS => ?_)
          clear hK K
          (try simp only [Act.put])
          have HT4 := Lib.hid ht4
          clear ht4 hr4 HT3
          refine wpAnyH_ready (rs := [12]) (by decide +kernel) (by simp) (AllReadyH.cons rfl (fun K hK => ?_) AllReadyH.nil)
          obtain ⟨x5, A9, c9, hr5, ht5⟩ := HT4.out.app12 HVL.out
          go_simp
          refine hK.out _ _ (ht5.far) (fun hS => ?_)
          clear hK K
          (try simp only [Act.put])
          have HT5 := Lib.hid ht5
          clear ht5 hr5 HT4
          have hbt := bd_ct2 r A9 (vs.length + 1) c9
          (refine wpAnyH_take (i := 13) (v := .agg (crtV r A9 (vs.length + 1) c9)) rfl (by kernel_rfl) (by kernel_rfl) (by kernel_rfl) (fun _ _ _ h => h) (Or.inl ⟨by kernel_rfl, fun w hSw => by have hc := hbt w; go_simp⟩) hS ?_)
          (try simp only [Act.put])
          obtain ⟨wz, hst, hto⟩ := HT5.out.shut r
          refine wpAnyH_ready (rs := [15]) (by decide +kernel) (by simp) (AllReadyH.cons rfl (fun K hK => ?_) AllReadyH.nil)
          go_simp
          refine hK.out _ _ (hto.far) (fun hS => ?_)
          clear hK K
          (try simp only [Act.put])
          refine wpAnyH_done (by kernel_rfl) ?_ _
          have HTO := Lib.hid (T14Out.mk hto.box hto.see (HB6.out.trans (hto.far.mono HB6.out.size)))
          clear hS hst hto hbt
          go_wp2_with fail
          go_meet
          exact ⟨_, _, _, rfl, Lib.hid ⟨m, HMM.out, HTO.out⟩⟩
        · obtain ⟨x3, g8, hr3, ht3⟩ := HT2.out.lit1
          go_simp
          refine hK.out _ _ (ht3.far) (fun hS => ?_)
          clear hK K
          (try simp only [Act.put])
          have HT3 := Lib.hid ht3
          clear ht3 hr3 HT2
          refine wpAnyH_ready (rs := [5]) (by decide +kernel) (by simp) (AllReadyH.cons rfl (fun K hK => ?_) AllReadyH.nil)
          obtain ⟨x4, A6, c6, hr4, ht4⟩ := HT3.out.app5 (A := some ⟨ga, oa, none⟩) (c := c) HV6.out HVL.out
          go_simp
          refine hK.out _ _ (ht4.far) (fun hS => ?_)
          clear hK K
          (try simp only [Act.put])
          have HT4 := Lib.hid ht4
          clear ht4 hr4 HT3
          refine wpAnyH_ready (rs := [12]) (by decide +kernel) (by simp) (AllReadyH.cons rfl (fun K hK => ?_) AllReadyH.nil)
          obtain ⟨x5, A9, c9, hr5, ht5⟩ := HT4.out.app12 HVL.out
          go_simp
          refine hK.out _ _ (ht5.far) (fun hS => ?_)
          clear hK K
          (try simp only [Act.put])
          have HT5 := Lib.hid ht5
          clear ht5 hr5 HT4
          have hbt := bd_ct2 r A9 (vs.length + 1) c9
          (refine wpAnyH_take (i := 13) (v := .agg (crtV r A9 (vs.length + 1) c9)) rfl (by kernel_rfl) (by kernel_rfl) (by kernel_rfl) (fun _ _ _ h => h) (Or.inl ⟨by kernel_rfl, fun w hSw => by have hc := hbt w; go_simp⟩) hS ?_)
          (try simp only [Act.put])
          obtain ⟨wz, hst, hto⟩ := HT5.out.shut r
          refine wpAnyH_ready (rs := [15]) (by decide +kernel) (by simp) (AllReadyH.cons rfl (fun K hK => ?_) AllReadyH.nil)
          go_simp
          refine hK.out _ _ (hto.far) (fun hS => ?_)
          clear hK K
          (try simp only [Act.put])
          refine wpAnyH_done (by kernel_rfl) ?_ _
          have HTO := Lib.hid (T14Out.mk hto.box hto.see (HB6.out.trans (hto.far.mono HB6.out.size)))
          clear hS hst hto hbt
          go_wp2_with fail
          go_meet
          exact ⟨_, _, _, rfl, Lib.hid ⟨m, HMM.out, HTO.out⟩⟩
      · obtain ⟨x2, g8, hr2, ht2⟩ := HT1.out.lit1
        go_simp
        refine hK.out _ _ (ht2.far) (fun hS => ?_)
        clear hK K
        (try simp only [Act.put])
        have HT2 := Lib.hid ht2
        clear ht2 hr2 HT1
        refine wpAnyH_ready (rs := [2]) (by decide +kernel) (by simp) (AllReadyH.cons rfl (fun K hK => ?_) AllReadyH.nil)
        obtain ⟨x3, g0, hr3, ht3⟩ := HT2.out.lit0
        go_simp
        refine hK.out _ _ (ht3.far) (fun hS => ?_)
        clear hK K
        (try simp only [Act.put])
        have HT3 := Lib.hid ht3
        clear ht3 hr3 HT2
        refine wpAnyH_ready (rs := [5]) (by decide +kernel) (by simp) (AllReadyH.cons rfl (fun K hK => ?_) AllReadyH.nil)
        obtain ⟨x4, A6, c6, hr4, ht4⟩ := HT3.out.app5 (A := some ⟨ga, oa, none⟩) (c := c) HV6.out HVL.out
        go_simp
        refine hK.out _ _ (ht4.far) (fun hS => ?_)
        clear hK K
        (try simp only [Act.put])
        have HT4 := Lib.hid ht4
        clear ht4 hr4 HT3
        refine wpAnyH_ready (rs := [12]) (by decide +kernel) (by simp) (AllReadyH.cons rfl (fun K hK => ?_) AllReadyH.nil)
        obtain ⟨x5, A9, c9, hr5, ht5⟩ := HT4.out.app12 HVL.out
        go_simp
        refine hK.out _ _ (ht5.far) (fun hS => ?_)
        clear hK K
        (try simp only [Act.put])
        have HT5 := Lib.hid ht5
        clear ht5 hr5 HT4
        have hbt := bd_ct2 r A9 (vs.length + 1) c9
        (refine wpAnyH_take (i := 13) (v := .agg (crtV r A9 (vs.length + 1) c9)) rfl (by kernel_rfl) (by kernel_rfl) (by kernel_rfl) (fun _ _ _ h => h) (Or.inl ⟨by kernel_rfl, fun w hSw => by have hc := hbt w; go_simp⟩) hS ?_)
        (try simp only [Act.put])
        obtain ⟨wz, hst, hto⟩ := HT5.out.shut r
        refine wpAnyH_ready (rs := [15]) (by decide +kernel) (by simp) (AllReadyH.cons rfl (fun K hK => ?_) AllReadyH.nil)
        go_simp
        refine hK.out _ _ (hto.far) (fun hS => ?_)
        clear hK K
        (try simp only [Act.put])
        refine wpAnyH_done (by kernel_rfl) ?_ _
        have HTO := Lib.hid (T14Out.mk hto.box hto.see (HB6.out.trans (hto.far.mono HB6.out.size)))
        clear hS hst hto hbt
        go_wp2_with fail
        go_meet
        exact ⟨_, _, _, rfl, Lib.hid ⟨m, HMM.out, HTO.out⟩⟩
  case rest =>
    obtain ⟨gt, A9, c9, rfl, HTO⟩ := hcut
    obtain ⟨m, hmm, hto⟩ := HTO.out
    have HMT := Lib.hid hmm
    have HTB := Lib.hid hto.box
    have HTS := Lib.hid hto.see
    have HBc := Lib.hid (HB5a.out.trans (hto.far.mono HB5a.out.size))
    have HXc := Lib.hid (HX5.out.below hto.far HX5.out.lt)
    clear hto hmm HTO HX5 HB5a HBd HB4
    obtain ⟨_, _, _, _, k5, k6⟩ := HC.out wc HBc.out
    have hbt := bd_ct1 r
    obtain ⟨w9, hst, hbx, hbl⟩ := laid_ct wc r none 0 0
    have HX9 := Lib.hid hbx
    have HB9 := Lib.hid hbl
    clear hbx hbl
    have HR9 : Hid (RwW wc wc.heap.size r none 0 0 [] w9) := Lib.hid ⟨HX9.out, EK.own_nil _ _ _, fun m hm => (by cases hm), fun m hm => (by cases hm), fun m hm => (by cases hm), HB9.out, Nat.le_refl _⟩
    go_upto_region 10 with fail
    clear hst hbt k5 k6
    have HBE := Lib.hid (HBc.out.trans (HB9.out.mono HBc.out.size))
    have k6 : w9.cell? ⟨w.heap.size + 1 + 1, 1, none⟩ = some (.slice (some ⟨ga, oa, none⟩) vs.length c) := (HC.out w9 HBE.out).2.2.2.2.2
    have wl : IntKind.i64.wrap ((vs.length : Int) - 1) = (vs.length : Int) - 1 := by rw [IntKind.wrap_i64]; have := HCS.out.len; omega
    go_wp2
    clear k6 wl HX9 HB9 HBE
    generalize hgu : wc.heap.size = gu at HR9 ⊢
    have HGU : Hid (wc.heap.size = gu) := Lib.hid hgu
    clear hgu
    go_loopw [14] (fun n wr => ∃ (k n3 c3 : Nat) (A3 : Option Addr), k ≤ vs.length ∧ n = .int .i64 ((k : Int) - 1) ∧ Hid (RwW wc gu r A3 n3 c3 ((vs.drop k).reverse) wr)) (fun n _ => (intOf n + 1).toNat)
    case atStart => exact ⟨vs.length, 0, 0, none, Nat.le_refl _, rfl, Lib.hid (by rw [List.drop_of_length_le (Nat.le_refl _)]; exact HR9.out)⟩
    case round =>
      obtain ⟨k, n3, c3, A3, hk, rfl, HW⟩ := hrel
      have HBr := Lib.hid (HBc.out.trans (HW.out.far.mono HBc.out.size))
      cases k with
      | succ j =>
        have hjl : j < vs.length := by omega
        have HJL := Lib.hid hjl
        rw [show (((j + 1 : Nat) : Int) - 1) = (j : Int) from by omega]
        have i0 : (0 : Int) ≤ (j : Int) := by omega
        have i1 : (j : Int) < (vs.length : Int) := by omega
        have wj : IntKind.i64.wrap ((j : Int) - 1) = (j : Int) - 1 := by rw [IntKind.wrap_i64]; have := HCS.out.len; omega
        have hst : (vs.drop j).reverse = (vs.drop (j + 1)).reverse ++ [vs[j]'hjl] := turned_step hjl
        have HST := Lib.hid hst
        clear hst hk
        go_upto_region 13 with fail
        obtain ⟨wd, hwd⟩ : ∃ wd, wd = wr.drew := ⟨_, rfl⟩
        have hbd : Below wr.heap.size wr wd := by rw [hwd]; exact (Below.refl _ _).drew
        have HWd := Lib.hid (HW.out.call hbd)
        clear HW hbd
        have HX1 : Hid (∀ w', Below wc.heap.size wc w' → w'.cell? ⟨w.heap.size + 1 + 1, 1, none⟩ = some (.slice (some ⟨ga, oa, none⟩) vs.length c)) := Lib.hid (fun w' hb => (HC.out w' (HBc.out.trans (hb.mono HBc.out.size))).2.2.2.2.2)
        have HVc := Lib.hid (EK.See.far HV1.out HBc.out)
        obtain ⟨g', o', hA, hlv⟩ := row_vote HVc.out HJL.out
        injection hA with hA
        injection hA with e1 e2
        subst e1
        subst e2
        have HLV := Lib.hid hlv
        have HMM : Hid ((vs[j]'HJL.out) ∈ vs) := Lib.hid (List.getElem_mem HJL.out)
        clear hlv
        generalize vs[j]'HJL.out = m at *
        have HSM := Lib.hid ((HS1.out m HMM.out).call HBc.out)
        have HOM : Hid (OffM (Value.slice A3 n3 c3).ownBlock m) := Lib.hid (VSee.off_above (vsee14 HSM.out) (fun g hg => own_ge14 HWd.out.own g hg))
        have HUL : Hid (((vs.drop (j + 1)).reverse).length < 1000000) := Lib.hid (by rw [List.length_reverse, List.length_drop]; have := HCS.out.len; omega)
        obtain ⟨hbs, hca, A7, n7, c7, w7, hap, hc7, hf7, hw7, hg7⟩ := HWd.out.push (HSM.out.call HWd.out.far) HOM.out HUL.out
        have hcd := HWd.out.cell
        have HW7 := Lib.hid hw7
        have HAL : Hid (Below wc.heap.size wc (wd.alloc (.cells m.cells.toArray 45))) := Lib.hid (HWd.out.far.alloc HWd.out.far.size _)
        have HA7 : Hid (Below wc.heap.size wc w7) := Lib.hid (HWd.out.far.trans (by
          have hal : Below wd.heap.size wd (wd.alloc (.cells m.cells.toArray 45)) := (Below.refl _ _).alloc (Nat.le_refl _) _
          exact (hal.mono HWd.out.far.size).trans (below_own (EK.Own.keep HWd.out.own hal) hg7 (Nat.le_trans HWd.out.far.size hal.size))))
        clear hw7 hg7
        refine wp_region_held_drew (S := fun w' => Below wc.heap.size wc w') (by kernel_rfl) (by rw [← hwd]; exact HWd.out.far) (fun hS => ?_)
        rw [← hwd] at hS ⊢
        clear hwd
        (refine wpAnyH_take (i := 0) (v := .pointer (some ⟨gu, 1, none⟩)) rfl (by kernel_rfl) (by kernel_rfl) (by kernel_rfl) (fun _ _ _ h => h) (Or.inl ⟨by kernel_rfl, fun w hSw => by go_simp⟩) hS ?_)
        (try simp only [Act.put])
        (refine wpAnyH_take (i := 2) (v := .pointer (some ⟨w.heap.size + 1 + 1, 1, none⟩)) rfl (by kernel_rfl) (by kernel_rfl) (by kernel_rfl) (fun _ _ _ h => h) (Or.inl ⟨by kernel_rfl, fun w hSw => by go_simp⟩) hS ?_)
        (try simp only [Act.put])
        (refine wpAnyH_take (i := 3) (v := .slice (some ⟨ga, oa, none⟩) vs.length c) rfl (by kernel_rfl) (by kernel_rfl) (by kernel_rfl) (fun _ _ _ h => h) (Or.inl ⟨by kernel_rfl, fun w hSw => by have hc := HX1.out w hSw; go_simp⟩) hS ?_)
        (try simp only [Act.put])
        (refine wpAnyH_take (i := 4) (v := .int .i64 (j : Int)) rfl (by kernel_rfl) (by kernel_rfl) (by kernel_rfl) (fun _ _ _ h => h) (Or.inl ⟨by kernel_rfl, fun w hSw => by go_simp⟩) hS ?_)
        (try simp only [Act.put])
        (refine wpAnyH_take (i := 5) (v := .pointer (some ⟨ga, oa + j * 41, none⟩)) rfl (by kernel_rfl) (by kernel_rfl) (by kernel_rfl) (fun _ _ _ h => h) (Or.inl ⟨by kernel_rfl, fun w hSw => by go_simp⟩) hS ?_)
        (try simp only [Act.put])
        (refine wpAnyH_take (i := 6) (v := .agg m.cells.toArray) rfl (by kernel_rfl) (by kernel_rfl) (by kernel_rfl) (fun _ _ _ h => h) (Or.inl ⟨by kernel_rfl, fun w hSw => by have hc := HLV.out w hSw; go_simp⟩) hS ?_)
        (try simp only [Act.put])
        refine wpAnyH_ready (rs := [1, 7]) (by decide +kernel) (by simp) (AllReadyH.cons rfl (fun K hK => ?_) (AllReadyH.cons rfl (fun K hK => ?_) AllReadyH.nil))
        · go_simp
          refine hK.out _ _ (hS) (fun hS => ?_)
          clear hK K
          (try simp only [Act.put])
          refine wpAnyH_ready (rs := [7]) (by decide +kernel) (by simp) (AllReadyH.cons rfl (fun K hK => ?_) AllReadyH.nil)
          go_simp
          refine hK.out _ _ (HAL.out) (fun hS => ?_)
          clear hK K
          (try simp only [Act.put])
          refine wpAnyH_ready (rs := [8]) (by decide +kernel) (by simp) (AllReadyH.cons rfl (fun K hK => ?_) AllReadyH.nil)
          go_simp
          refine hK.out _ _ (HA7.out) (fun hS => ?_)
          clear hK K
          (try simp only [Act.put])
          (refine wpAnyH_take (i := 9) (v := .pointer (some ⟨gu, 1, none⟩)) rfl (by kernel_rfl) (by kernel_rfl) (by kernel_rfl) (fun _ _ _ h => h) (Or.inl ⟨by kernel_rfl, fun w hSw => by go_simp⟩) hS ?_)
          (try simp only [Act.put])
          refine wpAnyH_ready (rs := [10]) (by decide +kernel) (by simp) (AllReadyH.cons rfl (fun K hK => ?_) AllReadyH.nil)
          go_simp
          refine hK.out _ _ (HW7.out.far) (fun hS => ?_)
          clear hK K
          (try simp only [Act.put])
          refine wpAnyH_done (by kernel_rfl) ?_ _
          clear hap hc7 hf7 hca hbs hcd hS
          rw [← HST.out] at HW7
          clear HWd HLV HSM HOM HUL HX1 HVc HAL HA7
          generalize w7.setCell ⟨gu, 1, none⟩ (.slice A7 n7 c7) = wz at *
          go_wp2
          go_roundw
          case rel => exact ⟨j, n7, c7, A7, Nat.le_of_lt HJL.out, rfl, HW7⟩
          case measure => simp [intOf]
        · go_simp
          refine hK.out _ _ (HAL.out) (fun hS => ?_)
          clear hK K
          (try simp only [Act.put])
          refine wpAnyH_ready (rs := [1]) (by decide +kernel) (by simp) (AllReadyH.cons rfl (fun K hK => ?_) AllReadyH.nil)
          go_simp
          refine hK.out _ _ (hS) (fun hS => ?_)
          clear hK K
          (try simp only [Act.put])
          refine wpAnyH_ready (rs := [8]) (by decide +kernel) (by simp) (AllReadyH.cons rfl (fun K hK => ?_) AllReadyH.nil)
          go_simp
          refine hK.out _ _ (HA7.out) (fun hS => ?_)
          clear hK K
          (try simp only [Act.put])
          (refine wpAnyH_take (i := 9) (v := .pointer (some ⟨gu, 1, none⟩)) rfl (by kernel_rfl) (by kernel_rfl) (by kernel_rfl) (fun _ _ _ h => h) (Or.inl ⟨by kernel_rfl, fun w hSw => by go_simp⟩) hS ?_)
          (try simp only [Act.put])
          refine wpAnyH_ready (rs := [10]) (by decide +kernel) (by simp) (AllReadyH.cons rfl (fun K hK => ?_) AllReadyH.nil)
          go_simp
          refine hK.out _ _ (HW7.out.far) (fun hS => ?_)
          clear hK K
          (try simp only [Act.put])
          refine wpAnyH_done (by kernel_rfl) ?_ _
          clear hap hc7 hf7 hca hbs hcd hS
          rw [← HST.out] at HW7
          clear HWd HLV HSM HOM HUL HX1 HVc HAL HA7
          generalize w7.setCell ⟨gu, 1, none⟩ (.slice A7 n7 c7) = wz at *
          go_wp2
          go_roundw
          case rel => exact ⟨j, n7, c7, A7, Nat.le_of_lt HJL.out, rfl, HW7⟩
          case measure => simp [intOf]
      | zero =>
        rw [show (((0 : Nat) : Int) - 1) = -1 from rfl]
        rw [List.drop_zero] at HW
        have HFE := Lib.hid (HF.out.trans (HBr.out.mono HF.out.size))
        have HN3 : Hid (n3 = vs.reverse.length) := Lib.hid (EK.Own.bounds HW.out.own).1
        have HLD : Hid (∀ w', Below wr.heap.size wr w' → (ldCf (.pointer (some ⟨w.heap.size, 0, none⟩))).run Tryd.prog w' = .ok (.agg CF) w' ∧ (ldBlk (.pointer (some ⟨w.heap.size + 1, 0, none⟩))).run Tryd.prog w' = .ok (.agg BC) w' ∧ w'.cell? ⟨w.heap.size + 1 + 1, 1, none⟩ = some (.slice (some ⟨ga, oa, none⟩) vs.length c) ∧
            (ldCt (.pointer (some ⟨gf, 0, none⟩))).run Tryd.prog w' = .ok (.agg (crtV r (some ⟨ga, oa, none⟩) p c)) w' ∧ (ldCt (.pointer (some ⟨gt, 0, none⟩))).run Tryd.prog w' = .ok (.agg (crtV r A9 (vs.length + 1) c9)) w' ∧ (ldCt (.pointer (some ⟨gu, 0, none⟩))).run Tryd.prog w' = .ok (.agg (crtV r A3 n3 c3)) w') := Lib.hid (fun w' hb => by
          have h1 := HC.out w' (HBr.out.trans (hb.mono HBr.out.size))
          have h2 := HW.out.far.trans (hb.mono HW.out.far.size)
          exact ⟨h1.1, h1.2.2.1, h1.2.2.2.2.2, (HXc.out.below h2 HXc.out.lt).l_ct, (HTB.out.below h2 HTB.out.lt).l_ct, (HW.out.box.below hb HW.out.box.lt).l_ct⟩)
        have HK1 : Hid (∀ w', Below wr.heap.size wr w' → Calls Tryd.prog 11 #[.agg CF, .agg BC, .agg (crtV r (some ⟨ga, oa, none⟩) p c)] w' fun e w'' => e = .returned (.bool false) ∧ Below w'.heap.size w' w'') := Lib.hid (fun w' hb => by
          have hb2 := HBr.out.trans (hb.mono HBr.out.size)
          have h := HCK.out HCS.out w' hb2 (vs.take p) (some ⟨ga, oa, none⟩) p c (by rw [List.length_take]; have := HQ3.out; omega) (by rw [List.length_take]; have := HCS.out.len; omega) (see_take14 (EK.See.far HV1.out hb2) p) (fun m hm => (HS1.out m (List.mem_of_mem_take hm)).call hb2)
          rw [HSH.out _ (by rw [List.length_map, List.length_take]; have := HQ2.out; omega)] at h
          exact h)
        have HK2 : Hid (∀ w', Below wr.heap.size wr w' → Calls Tryd.prog 11 #[.agg CF, .agg BC, .agg (crtV r A9 (vs.length + 1) c9)] w' fun e w'' => e = .returned (.bool false) ∧ Below w'.heap.size w' w'') := Lib.hid (fun w' hb => by
          have hb2 := HBr.out.trans (hb.mono HBr.out.size)
          have hb3 := HW.out.far.trans (hb.mono HW.out.far.size)
          have h := HCK.out HCS.out w' hb2 (vs ++ [m]) A9 (vs.length + 1) c9 (by simp) (by simp; have := HCS.out.len; omega) (EK.See.far HTS.out hb3) (fun u hu => by
            rcases List.mem_append.1 hu with hu | hu
            · exact (HS1.out u hu).call hb2
            · rw [List.mem_singleton.1 hu]
              exact (HS1.out m HMT.out).call hb2)
          rw [HFA.out _ (by rw [List.map_append, List.map_singleton]; exact ris_twice (List.mem_map.2 ⟨m, HMT.out, rfl⟩))] at h
          exact h)
        have HK3 : Hid (2 ≤ vs.length → ∀ w', Below wr.heap.size wr w' → Calls Tryd.prog 11 #[.agg CF, .agg BC, .agg (crtV r A3 n3 c3)] w' fun e w'' => e = .returned (.bool false) ∧ Below w'.heap.size w' w'') := Lib.hid (fun h2 w' hb => by
          have hb2 := HBr.out.trans (hb.mono HBr.out.size)
          have h := HCK.out HCS.out w' hb2 vs.reverse A3 n3 c3 HN3.out (by rw [List.length_reverse]; have := HCS.out.len; omega) (EK.See.far (EK.Own.see HW.out.own) hb) (fun u hu => (HS1.out u (List.mem_reverse.1 hu)).call hb2)
          rw [HFA.out _ (by rw [List.map_reverse]; exact ris_turned HRI.out (by rw [List.length_map]; exact h2))] at h
          exact h)
        obtain ⟨l1, l2, _, l4, _, _⟩ := HLD.out wr (Below.refl _ _)
        have HQV : Hid (1 ≤ vs.length) := Lib.hid (by have := HQL.out; have := HQ1.out; omega)
        clear HW HN3 HCK HSH HFA HRI HTB HTS HXc HS1 HV1 HR1 HMT HC HBc HBr HQ1 HQ2 HQ3 HQL HVC HGU HR9 HKL hk
        by_cases h1 : vs.length = 1
        · have e1 : ((vs.length : Int) == 1) = true := by rw [h1]; rfl
          have e2 : (vs.length : Int) = 1 := by rw [h1]; rfl
          clear HK3
          have HE1 := Lib.hid e1
          have HE2 := Lib.hid e2
          clear e2 h1 HQV
          generalize hvl : (vs.length : Int) = vl at *
          go_wp2_with (first
            | (go_at_call 11; (with_reducible refine (HK2.out _ HB20.out).mono ?_); rintro e w21 ⟨rfl, hb⟩; have HB21 := Lib.hid (HB20.out.trans (hb.mono HB20.out.size)); obtain ⟨_, _, j3, _, _, _⟩ := HLD.out w21 HB21.out; clear hb)
            | (go_at_call 11; (with_reducible refine (HK1.out wr (Below.refl _ _)).mono ?_); rintro e w20 ⟨rfl, hb⟩; have HB20 := Lib.hid hb; obtain ⟨j1, j2, _, _, j5, _⟩ := HLD.out w20 hb; clear hb))
          go_ret
          exact ⟨rfl, HFE.out.trans (HB21.out.mono HFE.out.size)⟩
        · have e1 : ((vs.length : Int) == 1) = false := by
            have h2 : ¬ (vs.length : Int) = 1 := by omega
            simpa using h2
          have HK := Lib.hid (HK3.out (by have := HQV.out; omega))
          clear HK3 h1 HQV
          generalize hvl : (vs.length : Int) = vl at *
          go_wp2_with (first
            | (go_at_call 11; (with_reducible refine (HK.out _ HB21.out).mono ?_); rintro e w22 ⟨rfl, hb⟩; have HB22 := Lib.hid (HB21.out.trans (hb.mono HB21.out.size)); clear hb)
            | (go_at_call 11; (with_reducible refine (HK2.out _ HB20.out).mono ?_); rintro e w21 ⟨rfl, hb⟩; have HB21 := Lib.hid (HB20.out.trans (hb.mono HB20.out.size)); obtain ⟨i1, i2, i3, _, _, i6⟩ := HLD.out w21 HB21.out; clear hb)
            | (go_at_call 11; (with_reducible refine (HK1.out wr (Below.refl _ _)).mono ?_); rintro e w20 ⟨rfl, hb⟩; have HB20 := Lib.hid hb; obtain ⟨j1, j2, _, _, j5, _⟩ := HLD.out w20 hb; clear hb))
          go_ret
          exact ⟨rfl, HFE.out.trans (HB22.out.mono HFE.out.size)⟩
end Go.Proofs.YtejnfgcnifcpaaaDoor
