/-
  BlockReads: the walk.
-/
import Derived.Test.YtjloeaggcpbciaaBC
import Derived.Test.YtjloeaggcpbciaaBD
import Derived.Test.YtjloeaggcpbciaaBB
import Derived.BigQuiet
namespace Go.Proofs.Ytjloeaggcpbciaa
open Go.RowKit Go.Sort

attribute [local go_sem ↓] ldReq_def stReq_def ldBlk_def stBlk_def ldDigest_def stDigest_def

set_option maxRecDepth 100000 in
set_option maxHeartbeats 4000000 in
theorem blreads_walk (b : BlkM) (hE : R64 b.x.epoch) (hH : R64 b.x.height) (hn : b.x.reqs.length ≤ 140737488351232) (hnum : ∀ q ∈ b.x.reqs, R64 q.client ∧ R64 q.num ∧ R64 q.kind ∧ R64 q.ck ∧ R64 q.cid ∧ R64 q.cn ∧ R64 q.high) (hq : ∀ q ∈ b.x.reqs, q.key.size ≤ 140737488351232 ∧ q.val.size ≤ 140737488351232 ∧ q.old.size ≤ 140737488351232)
    (l : List UInt8) (AL : Option Addr) (cl : Nat) (w : World) (hB : QSee w w.heap.size b.A b.x.reqs) (hS : Sees w w.heap.size AL (l.map bv)) :
    Calls Try.prog 3 #[.agg b.cells.toArray, .slice AL l.length cl] w fun e w' => e = .returned (.bool true) ∧ Below w.heap.size w w' := by
  obtain ⟨w1, hw1⟩ : ∃ w1, w1 = w.alloc (.cells b.cells.toArray 26) := ⟨_, rfl⟩
  have HG : Hid (Box w1 w.heap.size 26 b.cells.toArray) := by rw [hw1]; exact Box.made _ _ _
  have HF : Hid (Below w.heap.size w w1) := by rw [hw1]; exact (Below.refl _ _).alloc (Nat.le_refl _) _
  have HAL := Lib.hid (alive_any12 w1)
  have HQS := Lib.hid (hB.far HF.out)
  have HGR : Hid (∀ w', Below w1.heap.size w1 w' → Calls Try.prog 7 #[.agg b.cells.toArray, .int .i64 8192] w' (GreatB b w')) := Lib.hid (fun w' hb => great_any12 b hn hq w' (HQS.out.far hb))
  have HSL := Lib.hid ((hS.below HF.out).more HF.out.size)
  have HWF : Hid (Few b.x → b.x.Wf) := Lib.hid (few_wf hE hH hnum)
  have HLB : Hid (∀ w', Below w1.heap.size w1 w' → (ldBlk (.pointer (some ⟨w.heap.size, 0, none⟩))).run Try.prog w' = .ok (.agg b.cells.toArray) w') := Lib.hid (fun w' hb => (HG.out.below hb HG.out.lt).ld_blk)
  clear hS hB hE hH hn hnum hq
  go_enter Try.func3, Try.ntmps3
  go_upto_region 1 with fail
  change Code.wp _ _ _ _ (w.alloc (.cells b.cells.toArray 26))
  rw [← hw1]
  clear hw1
  by_cases hlong : 8192 < l.length
  · have el : decide ((8192 : Int) < (l.length : Int)) = true := decide_eq_true (by omega)
    go_wp2_with (first
      | (go_at_call 6; (with_reducible refine (HAL.out).mono ?_); rintro e w2 ⟨rfl, hb⟩; have HB2 := Lib.hid hb; have l2 := HLB.out w2 hb; clear hb)
      | (go_at_call 7; (with_reducible refine (HGR.out _ HB2.out).mono ?_); rintro e w3 ⟨g, rfl, hg, hb⟩; have HB3 := Lib.hid (HB2.out.trans (hb.mono HB2.out.size)); clear hb hg; cases g))
    all_goals (go_ret; exact ⟨rfl, HF.out.trans (HB3.out.mono HF.out.size)⟩)
  have el : decide ((8192 : Int) < (l.length : Int)) = false := decide_eq_false (by omega)
  have HLL : Hid (l.length ≤ 8192) := Lib.hid (by omega)
  go_upto_region 5 with (first
    | (go_at_call 6; (with_reducible refine (HAL.out).mono ?_); rintro e w2 ⟨rfl, hb⟩; have HB2 := Lib.hid hb; have l2 := HLB.out w2 hb; clear hb)
    | (go_at_call 7; (with_reducible refine (HGR.out _ HB2.out).mono ?_); rintro e w3 ⟨g, rfl, hg, hb⟩; have HB3 := Lib.hid (HB2.out.trans (hb.mono HB2.out.size)); cases g; (focus (have HFW := Lib.hid (hg rfl))); (all_goals clear hb hg)))
  all_goals (try (go_ret; exact ⟨rfl, HF.out.trans (HB3.out.mono HF.out.size)⟩))
  clear HAL HGR el hlong l2 HB2
  have HWF := Lib.hid (HWF.out HFW.out)
  have HSL3 := Lib.hid ((HSL.out.below HB3.out).more HB3.out.size)
  have HCV : Hid (∀ w', Below w3.heap.size w3 w' → (convert 27 9 (.slice AL l.length cl)).run Try.prog w' = .ok (str l) w') := fun w' hb => convert_sees (P := Try.prog) 27 5 9 Try.underlying27 Try.underlying5 Try.underlying9 ((HSL3.out.below hb).more hb.size) cl
  have HRD : Hid (∀ w', Below w3.heap.size w3 w' → Calls Try.prog 8 #[.slice AL l.length cl] w' fun e w'' => ∃ a, e = .returned (.pointer (some ⟨a, 0, none⟩)) ∧ Rd w'' a l false ∧ w'.heap.size ≤ a ∧ Below w'.heap.size w' w'') := fun w' hb => read_any w'.heap.size AL l cl w' ((HSL3.out.below hb).more hb.size) (Nat.le_refl _) (by have := HLL.out; omega)
  go_cut [5, 6, 18, 19, 20, 21, 22, 23] (fun r m _ _ _ _ _ _ wx => ∃ a m', r = .pointer (some ⟨a, 0, none⟩) ∧ m = .pointer (some ⟨m', 0, none⟩) ∧ Hid (TwX w3 a m' l wx))
  case first =>
    have HB3d : Hid (Below w3.heap.size w3 w3.drew) := (Below.refl _ _).drew
    refine wp_region_held_drew (S := fun w' => Below w3.heap.size w3 w') (by kernel_rfl) HB3d.out (fun hS => ?_)
    clear HB3d
    (refine wpAnyH_take (i := 0) (v := .slice AL l.length cl) rfl (by kernel_rfl) (by kernel_rfl) (by kernel_rfl) (fun _ _ _ h => h) (Or.inl ⟨by kernel_rfl, fun w hSw => by go_simp⟩) hS ?_)
    (try simp only [Act.put])
    (refine wpAnyH_take (i := 2) (v := .slice AL l.length cl) rfl (by kernel_rfl) (by kernel_rfl) (by kernel_rfl) (fun _ _ _ h => h) (Or.inl ⟨by kernel_rfl, fun w hSw => by go_simp⟩) hS ?_)
    (try simp only [Act.put])
    (refine wpAnyH_take (i := 3) (v := (str l)) rfl (by kernel_rfl) (by kernel_rfl) (by kernel_rfl) (fun _ _ _ h => h) (Or.inl ⟨by kernel_rfl, fun w hSw => by have hc := HCV.out w hSw; go_simp⟩) hS ?_)
    (try simp only [Act.put])
    (refine wpAnyH_take (i := 4) (v := .agg #[str l, .bool false]) rfl (by kernel_rfl) (by kernel_rfl) (by kernel_rfl) (fun _ _ _ h => h) (Or.inl ⟨by kernel_rfl, fun w hSw => by go_simp⟩) hS ?_)
    (try simp only [Act.put])
    refine wpAnyH_ready (rs := [1, 5]) (by decide +kernel) (by simp) (AllReadyH.cons rfl (fun K hK => ?_) (AllReadyH.cons rfl (fun K hK => ?_) AllReadyH.nil))
    · go_simp
      (go_at_call 8; (with_reducible refine (HRD.out _ hS).mono ?_); rintro e w9 ⟨a9, rfl, hr, hge, hb⟩)
      have HR9 := Lib.hid hr
      have HB9 := Lib.hid hb
      have HE9 := Lib.hid hge
      clear hr hb hge
      refine hK.out _ _ (hS.trans (HB9.out.mono hS.size)) (fun hS => ?_)
      clear hK K
      (try simp only [Act.put])
      (refine wpAnyH_take (i := 6) (v := .pointer (some ⟨a9, 0, none⟩)) rfl (by kernel_rfl) (by kernel_rfl) (by kernel_rfl) (fun _ _ _ h => h) (Or.inl ⟨by kernel_rfl, fun w hSw => by go_simp⟩) hS ?_)
      (try simp only [Act.put])
      refine wpAnyH_ready (rs := [5]) (by decide +kernel) (by simp) (AllReadyH.cons rfl (fun K hK => ?_) AllReadyH.nil)
      go_simp
      have hBX := hS.alloc hS.size (.cells #[str l, .bool false] 34)
      refine hK.out _ _ (hBX) (fun hS => ?_)
      clear hK K
      (try simp only [Act.put])
      refine wpAnyH_ready (rs := [7]) (by decide +kernel) (by simp) (AllReadyH.cons rfl (fun K hK => ?_) AllReadyH.nil)
      go_simp
      refine hK.out _ _ (hS) (fun hS => ?_)
      clear hK K
      (try simp only [Act.put])
      refine wpAnyH_done (by kernel_rfl) ?_ _
      have HSS := Lib.hid hS
      clear hS hBX
      go_wp2_with fail
      go_meet
      have h9 := HR9.out.lt
      have hs9 := HB9.out.size
      exact ⟨_, _, rfl, rfl, ⟨HR9.out.alloc _, Box.made _ _ _, Nat.ne_of_lt h9, HE9.out, hs9, HSS.out⟩⟩
    · go_simp
      have hBX := hS.alloc hS.size (.cells #[str l, .bool false] 34)
      refine hK.out _ _ (hBX) (fun hS => ?_)
      clear hK K
      (try simp only [Act.put])
      refine wpAnyH_ready (rs := [1]) (by decide +kernel) (by simp) (AllReadyH.cons rfl (fun K hK => ?_) AllReadyH.nil)
      go_simp
      (go_at_call 8; (with_reducible refine (HRD.out _ hS).mono ?_); rintro e w9 ⟨a9, rfl, hr, hge, hb⟩)
      have HR9 := Lib.hid hr
      have HB9 := Lib.hid hb
      have HE9 := Lib.hid hge
      clear hr hb hge
      refine hK.out _ _ (hS.trans (HB9.out.mono hS.size)) (fun hS => ?_)
      clear hK K
      (try simp only [Act.put])
      refine wpAnyH_ready (rs := [6]) (by decide +kernel) (by simp) (AllReadyH.cons rfl (fun K hK => ?_) AllReadyH.nil)
      go_simp
      refine hK.out _ _ (hS) (fun hS => ?_)
      clear hK K
      (try simp only [Act.put])
      refine wpAnyH_ready (rs := [7]) (by decide +kernel) (by simp) (AllReadyH.cons rfl (fun K hK => ?_) AllReadyH.nil)
      go_simp
      refine hK.out _ _ (hS) (fun hS => ?_)
      clear hK K
      (try simp only [Act.put])
      refine wpAnyH_done (by kernel_rfl) ?_ _
      have HSS := Lib.hid hS
      clear hS hBX
      go_wp2_with fail
      go_meet
      have hx : Box (w3.drew.alloc (.cells #[str l, .bool false] 34)) w3.drew.heap.size 34 #[str l, .bool false] := Box.made _ _ _
      have hl := hx.lt
      have hge := HE9.out
      exact ⟨_, _, rfl, rfl, ⟨HR9.out, hx.below HB9.out hl, (Nat.ne_of_lt (Nat.lt_of_lt_of_le hl hge)).symm, Nat.le_trans (Nat.le_of_lt hl) hge, Nat.le_refl _, HSS.out⟩⟩
  case rest =>
    obtain ⟨a, m, rfl, rfl, HTW⟩ := hcut
    clear HCV HSL3 HSL HRD HLL
    have hxl := bkX_len l false
    obtain ⟨X, hX⟩ : ∃ X, bkX l false = X := ⟨_, rfl⟩
    obtain ⟨F, hFF⟩ : ∃ F, bkF l false = F := ⟨_, rfl⟩
    have HKR := Lib.hid (two_blk w3 a m l wc HTW.out X F hX hFF)
    rw [hX] at hxl
    have HXL := Lib.hid hxl
    clear hX hFF hxl
    obtain ⟨fl, fb⟩ := F
    go_upto_region 8 with (first
      | (go_at_call 10; (with_reducible refine (HKR.out).mono ?_); rintro e w20 ⟨A1, z1, rfl, hc⟩; have HRK := Lib.hid hc; clear hc)
      | (go_at_call 11; (with_reducible refine (HRK.out).mono ?_); rintro e w21 ⟨A2, z2, rfl, hr, hrr, hs1, hs2, hb⟩; have HB21 := Lib.hid hb; have HSM := same_any12 ⟨X, A1, z1⟩ ⟨X, A2, z2⟩ (by have := HXL.out; show X.reqs.length ≤ _; omega) w21 hs1 hs2; rw [decide_eq_true (show (BlkM.mk X A1 z1).x = (BlkM.mk X A2 z2).x from rfl)] at HSM; replace HSM := Lib.hid HSM; have HRA := Lib.hid hr; have HRM := Lib.hid hrr; clear hr hrr hs1 hs2 hb)
      | (go_at_call 9; (with_reducible refine (HSM.out).mono ?_); rintro e w22 ⟨rfl, hb⟩; have HB22 := Lib.hid (HB21.out.trans (hb.mono HB21.out.size)); have hr := HRA.out.below hb HRA.out.lt; have hrr : RRd w22 m fl fb := Box.below HRM.out hb (Box.lt HRM.out); have HGA := Lib.hid (good_any a _ _ w22 hr); have HGM := Lib.hid (rgood_any m _ _ w22 hrr); have HEA := Lib.hid (rdend_any a _ _ w22 hr); have HEM := Lib.hid (rend_any m _ _ w22 hrr); clear hr hrr hb)
      | (go_at_call 12; (with_reducible refine (HGA.out).mono ?_); rintro e w23 ⟨rfl, rfl⟩)
      | (go_at_call 13; (with_reducible refine (HGM.out).mono ?_); rintro e w24 ⟨rfl, rfl⟩)
      | (go_at_call 14; (with_reducible refine (HEA.out).mono ?_); rintro e w25 ⟨rfl, rfl⟩)
      | (go_at_call 15; (with_reducible refine (HEM.out).mono ?_); rintro e w26 ⟨rfl, rfl⟩))
    clear HKR HRK HSM HRA HRM HGA HGM HEA HEM HTW HXL HB21
    have HB1 := Lib.hid (HB3.out.trans (HB22.out.mono HB3.out.size))
    clear HB3 HB22
    have HWN : Hid (Wr (w22.alloc (.cells #[.slice none 0 0] 40)) w22.heap.size w22.heap.size []) := wr_new (Box.made _ _ _) (Nat.le_refl _)
    have HBN : Hid (Below w1.heap.size w1 (w22.alloc (.cells #[.slice none 0 0] 40))) := HB1.out.alloc HB1.out.size _
    have HSZ : Hid (w1.heap.size ≤ w22.heap.size) := HB1.out.size
    have HQN : QSee (w22.alloc (.cells #[.slice none 0 0] 40)) w22.heap.size b.A b.x.reqs := Sees.more (Sees.below HQS.out HBN.out) HSZ.out
    have hwr := write_any12 w22.heap.size w22.heap.size [] b _ HWN.out HQN (by simp) (few_small HFW.out)
    rw [List.nil_append] at hwr
    have HWR := Lib.hid hwr
    have l3 := HLB.out _ HBN.out
    obtain ⟨q1, q2⟩ := blk_back b.x HWF.out []
    rw [List.append_nil] at q1 q2
    obtain ⟨gd, hgd⟩ : ∃ gd, blkGood b.x = gd := ⟨_, rfl⟩
    have HGD : Hid (∀ w', Below w1.heap.size w1 w' → Calls Try.prog 18 #[.agg b.cells.toArray] w' fun e w'' => e = .returned (.bool gd) ∧ Below w'.heap.size w' w'') := Lib.hid (fun w' hb => by rw [← hgd]; exact rgood_any12 b w' (HQS.out.far hb))
    rw [hgd] at q1 q2
    have Q1 := Lib.hid q1
    have Q2 := Lib.hid q2
    have HTL : Hid ((blkB b.x).length ≤ 4294967416) := Lib.hid (few_small HFW.out).bytes
    generalize blkB b.x = T at *
    clear q1 q2 hgd HB1 HWF hwr HQN
    go_upto_region 10 with (go_at_call 16; (with_reducible refine (HWR.out).mono ?_); rintro e w28 ⟨rfl, hw, hf⟩; have HB28 := Lib.hid (HBN.out.trans ((hf.below HWN.out).mono HSZ.out)); have HBY := Lib.hid (bytes_any w22.heap.size w22.heap.size T w28 hw (by have := HTL.out; omega)); clear hw hf)
    clear HWR HWN HBN l3
    go_upto_region 11 with (first
      | (go_at_call 17; (with_reducible refine (HBY.out).mono ?_); rintro e w30 ⟨A8, c8, rfl, _, _, hsee, hb⟩; have HB30 := Lib.hid (HB28.out.trans (hb.mono HB28.out.size)); have HRD2 := Lib.hid (read_any w30.heap.size A8 T c8 w30 hsee (Nat.le_refl _) (by have := HTL.out; omega)); clear hsee hb)
      | (go_at_call 8; (with_reducible refine (HRD2.out).mono ?_); rintro e w31 ⟨r2, rfl, hr, hge, hb⟩; have HR31 := Lib.hid hr; have HE31 := Lib.hid hge; have HB31 := Lib.hid (HB30.out.trans (hb.mono HB30.out.size)); clear hr hge hb))
    have HR2G : Hid (w1.heap.size ≤ r2) := Nat.le_trans HB30.out.size HE31.out
    clear HBY HRD2 HE31 HB30 HB28
    have hrx := blkread_any r2 T false w31 HR31.out
    have hxl := bkX_len T false
    obtain ⟨X2, hX2⟩ : ∃ X2, bkX T false = X2 := ⟨_, rfl⟩
    obtain ⟨F2, hF2⟩ : ∃ F2, bkF T false = F2 := ⟨_, rfl⟩
    rw [hX2, hF2] at hrx
    rw [hX2] at Q2 hxl
    rw [hF2] at Q1
    have HRX := Lib.hid hrx
    have HXL := Lib.hid hxl
    clear hX2 hF2 hrx hxl
    have hzv := zero_blk
    go_upto_region 12 with (go_at_call 10; (with_reducible refine (HRX.out).mono ?_); rintro e w32 ⟨A9, z9, rfl, ho, hr, hg⟩; obtain ⟨w33, hst, hbx, hgg⟩ := laid_blk w32 ⟨X2, A9, z9⟩; have HX33 := Lib.hid hbx; have HR33 := Lib.hid (hr.below hgg hr.lt); have HS33 := Lib.hid ((EK.Own.see ho).far hgg); have HB33 : Hid (Below w1.heap.size w1 w33) := Lib.hid ((HB31.out.trans (below_only hg HR2G.out HB31.out.size)).trans (hgg.mono (HB31.out.trans (below_only hg HR2G.out HB31.out.size)).size)); clear ho hr hg hbx hgg)
    clear hst HRX HR31 HB31 hzv
    generalize w32.heap.size = g8 at *
    have HEN : Hid (∀ d os, Calls Try.prog 14 #[.pointer (some ⟨r2, 0, none⟩)] (grow (redrawn w33 d) os) fun e w'' => e = .returned (.bool gd) ∧ ∃ p : Regrown, w'' = grow (redrawn w33 p.d) p.os) := Lib.hid (fun d os => by
      have h := rdend_any r2 F2.1 F2.2 (grow (redrawn w33 d) os) (HR33.out.below (below_regrown w33 d os) HR33.out.lt)
      rw [Q1.out] at h
      refine h.mono fun e w'' ⟨he, hw⟩ => ⟨?_, ⟨d, os⟩, hw.symm⟩
      rw [he]
      cases gd with
      | true => rfl
      | false => rfl)
    have LX : ∀ d os, (ldBlk (.pointer (some ⟨g8, 0, none⟩))).run Try.prog (grow (redrawn w33 d) os) = .ok (.agg (BlkM.mk X2 A9 z9).cells.toArray) (grow (redrawn w33 d) os) := fun d os => (HX33.out.below (below_regrown w33 d os) HX33.out.lt).ld_blk
    have LB : ∀ d os, (ldBlk (.pointer (some ⟨w.heap.size, 0, none⟩))).run Try.prog (grow (redrawn w33 d) os) = .ok (.agg b.cells.toArray) (grow (redrawn w33 d) os) := fun d os => HLB.out _ (HB33.out.trans ((below_regrown w33 d os).mono HB33.out.size))
    have KG : Hid (∀ d os, Calls Try.prog 18 #[.agg b.cells.toArray] (grow (redrawn w33 d) os) fun e w'' => e = .returned (.bool gd) ∧ ∃ p : Regrown, w'' = grow (redrawn w33 p.d) p.os) := Lib.hid (fun d os => Calls.regrown_of (HGD.out _ (HB33.out.trans ((below_regrown w33 d os).mono HB33.out.size))))
    have KS : Hid (gd = true → ∀ d os, Calls Try.prog 9 #[.agg (BlkM.mk X2 A9 z9).cells.toArray, .agg b.cells.toArray] (grow (redrawn w33 d) os) fun e w'' => e = .returned (.bool true) ∧ ∃ p : Regrown, w'' = grow (redrawn w33 p.d) p.os) := Lib.hid (fun hg d os => Calls.regrown_of (by
      have h := same_any12 ⟨X2, A9, z9⟩ b (by have := HXL.out; show X2.reqs.length ≤ _; omega) (grow (redrawn w33 d) os) (HS33.out.far (below_regrown w33 d os)) (HQS.out.far (HB33.out.trans ((below_regrown w33 d os).mono HB33.out.size)))
      rw [decide_eq_true (show (BlkM.mk X2 A9 z9).x = b.x from Q2.out hg)] at h
      exact h))
    have HFZ := Lib.hid (HF.out.trans (HB33.out.mono HF.out.size))
    clear HX33 HR33 HS33 HQS HGD Q1 Q2 HLB HG HB33 HXL HTL
    generalize (BlkM.mk X2 A9 z9).cells.toArray = cx at *
    generalize b.cells.toArray = cb at *
    cases gd
    · clear KS
      refine wp_region_quiet_below (by kernel_rfl) (by kernel_rfl) ?_
      repeat (go_big_quiet_step (first
        | (go_at_call 14; with_reducible exact HEN.out _ _)
        | (go_at_call 18; with_reducible exact KG.out _ _)))
      refine wpQuiet_nil ?_
      intro _ hw'
      obtain ⟨⟨dq, osq⟩, hw''⟩ := hw'
      subst hw''
      have HB7 := Lib.hid (HFZ.out.trans ((below_regrown w33 dq osq).mono HFZ.out.size))
      clear LX LB HEN KG
      generalize grow (redrawn w33 dq) osq = w7 at *
      go_wp2
      go_ret
      exact ⟨rfl, HB7.out⟩
    · have KS2 := Lib.hid (KS.out rfl)
      clear KS
      refine wp_region_quiet_below (by kernel_rfl) (by kernel_rfl) ?_
      repeat (go_big_quiet_step (first
        | (go_at_call 14; with_reducible exact HEN.out _ _)
        | (go_at_call 18; with_reducible exact KG.out _ _)
        | (go_at_call 9; with_reducible exact KS2.out _ _)))
      refine wpQuiet_nil ?_
      intro _ hw'
      obtain ⟨⟨dq, osq⟩, hw''⟩ := hw'
      subst hw''
      have HB7 := Lib.hid (HFZ.out.trans ((below_regrown w33 dq osq).mono HFZ.out.size))
      clear LX LB HEN KG KS2
      generalize grow (redrawn w33 dq) osq = w7 at *
      go_wp2
      go_ret
      exact ⟨rfl, HB7.out⟩
end Go.Proofs.Ytjloeaggcpbciaa
