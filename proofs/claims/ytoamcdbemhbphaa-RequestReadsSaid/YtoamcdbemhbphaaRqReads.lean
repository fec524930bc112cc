/-
  RequestReads: the walk.
-/
import Derived.Test.YtoamcdbemhbphaaRqTwo
namespace Go.Proofs.Ytoamcdbemhbphaa
open Go.RowKit

attribute [local go_sem ↓] ldReq_def stReq_def bdReq_def eqReq_def

set_option maxRecDepth 100000 in
theorem long_wf {x : ReqX} (hI : R64 x.client ∧ R64 x.num ∧ R64 x.kind ∧ R64 x.ck ∧ R64 x.cid ∧ R64 x.cn ∧ R64 x.high) (h : reqLong x = false) : x.Wf ∧ x.key.size ≤ 4096 ∧ x.val.size ≤ 4096 ∧ x.old.size ≤ 4096 ∧ (reqB x).length ≤ 12500 := by
  unfold reqLong at h
  simp only [Bool.or_eq_false_iff, decide_eq_false_iff_not] at h
  obtain ⟨h1, h2, h3⟩ := h
  obtain ⟨i1, i2, i3, i4, i5, i6, i7⟩ := hI
  refine ⟨⟨i1, i2, i3, i4, i5, i6, i7, by omega, by omega, by omega⟩, by omega, by omega, by omega, ?_⟩
  unfold reqB
  simp only [List.length_append, numBytes_len, textBytes_len, x.len]
  omega

set_option maxRecDepth 100000 in
set_option maxHeartbeats 4000000 in
theorem reads_walk (x : ReqX) (hI : R64 x.client ∧ R64 x.num ∧ R64 x.kind ∧ R64 x.ck ∧ R64 x.cid ∧ R64 x.cn ∧ R64 x.high) (l : List UInt8) (AL : Option Addr) (cl : Nat) (w : World) (hS : Sees w w.heap.size AL (l.map bv)) :
    Calls Try.prog 3 #[.agg x.cells.toArray, .slice AL l.length cl] w fun e w' => e = .returned (.bool true) ∧ Below w.heap.size w w' := by
  have HG : Hid (Box (w.alloc (.cells x.cells.toArray 31)) w.heap.size 31 x.cells.toArray) := Box.made _ _ _
  have HF : Hid (Below w.heap.size w (w.alloc (.cells x.cells.toArray 31))) := (Below.refl _ _).alloc (Nat.le_refl _) _
  have HAL := Lib.hid (alive_any9 (w.alloc (.cells x.cells.toArray 31)))
  have HLN : Hid (∀ w', Calls Try.prog 7 #[.agg x.cells.toArray] w' fun e w'' => e = .returned (.bool (reqLong x)) ∧ Below w'.heap.size w' w'') := Lib.hid (fun w' => long_any9 x w')
  have HSL := Lib.hid ((hS.below HF.out).more HF.out.size)
  have HLF : Hid (reqLong x = false → x.Wf ∧ x.key.size ≤ 4096 ∧ x.val.size ≤ 4096 ∧ x.old.size ≤ 4096 ∧ (reqB x).length ≤ 12500) := Lib.hid (long_wf hI)
  clear hS hI
  go_enter Try.func3, Try.ntmps3
  go_upto_region 1 with fail
  change Code.wp _ _ _ _ (w.alloc (.cells x.cells.toArray 31))
  generalize w.alloc (.cells x.cells.toArray 31) = w1 at *
  obtain ⟨lg, hlg⟩ : ∃ lg, reqLong x = lg := ⟨_, rfl⟩
  rw [hlg] at HLN HLF
  clear hlg
  rcases lg with _ | _
  case true =>
    go_wp2_with (first
      | (go_at_call 6; (with_reducible refine (HAL.out).mono ?_); rintro e w2 ⟨rfl, hb⟩; have HB2 := Lib.hid hb; have l2 := (HG.out.below hb HG.out.lt).ld_req; clear hb)
      | (go_at_call 7; (with_reducible refine (HLN.out _).mono ?_); rintro e w3 ⟨rfl, hb⟩; have HB3 := Lib.hid (HB2.out.trans (hb.mono HB2.out.size)); clear hb))
    go_ret
    exact ⟨rfl, HF.out.trans (HB3.out.mono HF.out.size)⟩
  by_cases hlong : 8192 < l.length
  · have el : decide ((8192 : Int) < (l.length : Int)) = true := decide_eq_true (by omega)
    go_wp2_with (first
      | (go_at_call 6; (with_reducible refine (HAL.out).mono ?_); rintro e w2 ⟨rfl, hb⟩; have HB2 := Lib.hid hb; have l2 := (HG.out.below hb HG.out.lt).ld_req; clear hb)
      | (go_at_call 7; (with_reducible refine (HLN.out _).mono ?_); rintro e w3 ⟨rfl, hb⟩; have HB3 := Lib.hid (HB2.out.trans (hb.mono HB2.out.size)); clear hb))
    go_ret
    exact ⟨rfl, HF.out.trans (HB3.out.mono HF.out.size)⟩
  have el : decide ((8192 : Int) < (l.length : Int)) = false := decide_eq_false (by omega)
  have HLL : Hid (l.length ≤ 8192) := Lib.hid (by omega)
  have HWF := Lib.hid (HLF.out rfl)
  go_upto_region 5 with (first
    | (go_at_call 6; (with_reducible refine (HAL.out).mono ?_); rintro e w2 ⟨rfl, hb⟩; have HB2 := Lib.hid hb; have l2 := (HG.out.below hb HG.out.lt).ld_req; clear hb)
    | (go_at_call 7; (with_reducible refine (HLN.out _).mono ?_); rintro e w3 ⟨rfl, hb⟩; have HB3 := Lib.hid (HB2.out.trans (hb.mono HB2.out.size)); clear hb))
  clear HAL HLN el hlong HLF l2
  have HSL3 := Lib.hid ((HSL.out.below HB3.out).more HB3.out.size)
  have HCV : Hid (∀ w', Below w3.heap.size w3 w' → (convert 32 9 (.slice AL l.length cl)).run Try.prog w' = .ok (str l) w') := fun w' hb => convert_sees (P := Try.prog) 32 5 9 Try.underlying32 Try.underlying5 Try.underlying9 ((HSL3.out.below hb).more hb.size) cl
  have HRD : Hid (∀ w', Below w3.heap.size w3 w' → Calls Try.prog 8 #[.slice AL l.length cl] w' fun e w'' => ∃ a, e = .returned (.pointer (some ⟨a, 0, none⟩)) ∧ Rd w'' a l false ∧ w'.heap.size ≤ a ∧ Below w'.heap.size w' w'') := fun w' hb => read_any w'.heap.size AL l cl w' ((HSL3.out.below hb).more hb.size) (Nat.le_refl _) (by have := HLL.out; omega)
  go_cut [5, 6, 18, 19, 20, 21, 22, 23] (fun r m _ _ _ _ _ _ wx => ∃ a m', r = .pointer (some ⟨a, 0, none⟩) ∧ m = .pointer (some ⟨m', 0, none⟩) ∧ Hid (TwX w3 a m' l wx))
  case first =>
    have HB3d : Hid (Below w3.heap.size w3 w3.drew) := (Below.refl _ _).drew
    refine wp_region_held_drew (S := fun w' => Below w3.heap.size w3 w') (by kernel_rfl) HB3d.out (fun hS => ?_)
    clear HB3d
    (refine wpAnyH_take (i := 0) (v := .slice AL l.length cl) rfl (by kernel_rfl) (by kernel_rfl) (by kernel_rfl) (fun _ _ _ h => h) (Or.inl ⟨by kernel_rfl, fun w hSw => by go_simp⟩) hS ?_)
    (try simp only [Act.put])
    (refine wpAnyH_take (i := 2) (v := .slice AL l.length cl) rfl (by kernel_rfl) (by kernel_rfl) (by kernel_rfl) (fun _ _ _ h => h) (Or.inl ⟨by kernel_rfl, fun w hSw => by go_simp⟩) hS ?_)
    (try simp only [Act.put])
    (refine wpAnyH_take (i := 3) (v := (str l)) rfl (by kernel_rfl) (by kernel_rfl) (by kernel_rfl) (fun _ _ _ h => h) (Or.inl ⟨by kernel_rfl, fun w hSw => by have hc := HCV.out w hSw; go_simp⟩) hS ?_)
    (try simp only [Act.put])
    (refine wpAnyH_take (i := 4) (v := .agg #[str l, .bool false]) rfl (by kernel_rfl) (by kernel_rfl) (by kernel_rfl) (fun _ _ _ h => h) (Or.inl ⟨by kernel_rfl, fun w hSw => by go_simp⟩) hS ?_)
    (try simp only [Act.put])
    refine wpAnyH_ready (rs := [1, 5]) (by decide +kernel) (by simp) (AllReadyH.cons rfl (fun K hK => ?_) (AllReadyH.cons rfl (fun K hK => ?_) AllReadyH.nil))
    · go_simp
      (go_at_call 8; (with_reducible refine (HRD.out _ hS).mono ?_); rintro e w9 ⟨a9, rfl, hr, hge, hb⟩)
      have HR9 := Lib.hid hr
      have HB9 := Lib.hid hb
      have HE9 := Lib.hid hge
      clear hr hb hge
      refine hK.out _ _ (hS.trans (HB9.out.mono hS.size)) (fun hS => ?_)
      clear hK K
      (try simp only [Act.put])
      (refine wpAnyH_take (i := 6) (v := .pointer (some ⟨a9, 0, none⟩)) rfl (by kernel_rfl) (by kernel_rfl) (by kernel_rfl) (fun _ _ _ h => h) (Or.inl ⟨by kernel_rfl, fun w hSw => by go_simp⟩) hS ?_)
      (try simp only [Act.put])
      refine wpAnyH_ready (rs := [5]) (by decide +kernel) (by simp) (AllReadyH.cons rfl (fun K hK => ?_) AllReadyH.nil)
      go_simp
      have hBX := hS.alloc hS.size (.cells #[str l, .bool false] 39)
      refine hK.out _ _ (hBX) (fun hS => ?_)
      clear hK K
      (try simp only [Act.put])
      refine wpAnyH_ready (rs := [7]) (by decide +kernel) (by simp) (AllReadyH.cons rfl (fun K hK => ?_) AllReadyH.nil)
      go_simp
      refine hK.out _ _ (hS) (fun hS => ?_)
      clear hK K
      (try simp only [Act.put])
      refine wpAnyH_done (by kernel_rfl) ?_ _
      have HSS := Lib.hid hS
      clear hS hBX
      go_wp2_with fail
      go_meet
      have h9 := HR9.out.lt
      have hs9 := HB9.out.size
      exact ⟨_, _, rfl, rfl, ⟨HR9.out.alloc _, Box.made _ _ _, Nat.ne_of_lt h9, HE9.out, hs9, HSS.out⟩⟩
    · go_simp
      have hBX := hS.alloc hS.size (.cells #[str l, .bool false] 39)
      refine hK.out _ _ (hBX) (fun hS => ?_)
      clear hK K
      (try simp only [Act.put])
      refine wpAnyH_ready (rs := [1]) (by decide +kernel) (by simp) (AllReadyH.cons rfl (fun K hK => ?_) AllReadyH.nil)
      go_simp
      (go_at_call 8; (with_reducible refine (HRD.out _ hS).mono ?_); rintro e w9 ⟨a9, rfl, hr, hge, hb⟩)
      have HR9 := Lib.hid hr
      have HB9 := Lib.hid hb
      have HE9 := Lib.hid hge
      clear hr hb hge
      refine hK.out _ _ (hS.trans (HB9.out.mono hS.size)) (fun hS => ?_)
      clear hK K
      (try simp only [Act.put])
      refine wpAnyH_ready (rs := [6]) (by decide +kernel) (by simp) (AllReadyH.cons rfl (fun K hK => ?_) AllReadyH.nil)
      go_simp
      refine hK.out _ _ (hS) (fun hS => ?_)
      clear hK K
      (try simp only [Act.put])
      refine wpAnyH_ready (rs := [7]) (by decide +kernel) (by simp) (AllReadyH.cons rfl (fun K hK => ?_) AllReadyH.nil)
      go_simp
      refine hK.out _ _ (hS) (fun hS => ?_)
      clear hK K
      (try simp only [Act.put])
      refine wpAnyH_done (by kernel_rfl) ?_ _
      have HSS := Lib.hid hS
      clear hS hBX
      go_wp2_with fail
      go_meet
      have hx : Box (w3.drew.alloc (.cells #[str l, .bool false] 39)) w3.drew.heap.size 39 #[str l, .bool false] := Box.made _ _ _
      have hl := hx.lt
      have hge := HE9.out
      exact ⟨_, _, rfl, rfl, ⟨HR9.out, hx.below HB9.out hl, (Nat.ne_of_lt (Nat.lt_of_lt_of_le hl hge)).symm, Nat.le_trans (Nat.le_of_lt hl) hge, Nat.le_refl _, HSS.out⟩⟩
  case rest =>
    obtain ⟨a, m, rfl, rfl, HTW⟩ := hcut
    clear HCV HSL3 HSL HRD HLL
    obtain ⟨X, hX⟩ : ∃ X, rqX l false = X := ⟨_, rfl⟩
    obtain ⟨F, hFF⟩ : ∃ F, rqF l false = F := ⟨_, rfl⟩
    have HKR := Lib.hid (two_read w3 a m l wc HTW.out X F hX hFF)
    have eX : ∀ w', (eqReq (.agg X.cells.toArray) (.agg X.cells.toArray)).run Try.prog w' = .ok true w' := fun w' => by rw [eq_req, decide_eq_true rfl]
    obtain ⟨fl, fb⟩ := F
    clear hX hFF
    have HTM : Hid (Below w3.heap.size w3 wc) := HTW.out.far
    go_upto_region 8 with (first
      | (go_at_call 9; (with_reducible refine (HKR.out).mono ?_); rintro e w20 ⟨rfl, hc⟩; have HRK := Lib.hid hc; clear hc)
      | (go_at_call 10; (with_reducible refine (HRK.out).mono ?_); rintro e w21 ⟨rfl, hr, hrr, hb⟩; have HB21 := Lib.hid hb; have HGA := Lib.hid (good_any a _ _ w21 hr); have HGM := Lib.hid (rgood_any m _ _ w21 hrr); have HEA := Lib.hid (rdend_any a _ _ w21 hr); have HEM := Lib.hid (rend_any m _ _ w21 hrr); clear hr hrr hb)
      | (go_at_call 11; (with_reducible refine (HGA.out).mono ?_); rintro e w23 ⟨rfl, rfl⟩)
      | (go_at_call 12; (with_reducible refine (HGM.out).mono ?_); rintro e w24 ⟨rfl, rfl⟩)
      | (go_at_call 13; (with_reducible refine (HEA.out).mono ?_); rintro e w25 ⟨rfl, rfl⟩)
      | (go_at_call 14; (with_reducible refine (HEM.out).mono ?_); rintro e w26 ⟨rfl, rfl⟩))
    clear HKR HRK HGA HGM HEA HEM eX HTW HTM
    have HB1 := Lib.hid (HB3.out.trans (HB21.out.mono HB3.out.size))
    clear HB3 HB21
    have HWN : Hid (Wr (w21.alloc (.cells #[.slice none 0 0] 44)) w21.heap.size w21.heap.size []) := wr_new (Box.made _ _ _) (Nat.le_refl _)
    have HBN : Hid (Below w1.heap.size w1 (w21.alloc (.cells #[.slice none 0 0] 44))) := HB1.out.alloc HB1.out.size _
    have HWR : Hid (Calls Try.prog 15 #[.pointer (some ⟨w21.heap.size, 0, none⟩), .agg x.cells.toArray] (w21.alloc (.cells #[.slice none 0 0] 44)) fun e w'' => e = .returned (.tuple #[]) ∧ Wr w'' w21.heap.size w21.heap.size (reqB x) ∧ WF w21.heap.size (w21.alloc (.cells #[.slice none 0 0] 44)) w'') :=
      Lib.hid (by obtain ⟨_, k1, k2, k3, _⟩ := HWF.out; exact write_any9 w21.heap.size w21.heap.size [] x _ HWN.out (by simp) (by omega) (by omega) (by omega))
    have HSZ : Hid (w1.heap.size ≤ w21.heap.size) := HB1.out.size
    have l3 := (HG.out.below HBN.out HG.out.lt).ld_req
    obtain ⟨q1, q2⟩ := req_back x HWF.out.1 []
    rw [List.append_nil] at q1 q2
    obtain ⟨gd, hgd⟩ : ∃ gd, reqGood x = gd := ⟨_, rfl⟩
    have HGD : Hid (∀ w', Calls Try.prog 17 #[.agg x.cells.toArray] w' fun e w'' => e = .returned (.bool gd) ∧ Below w'.heap.size w' w'') := Lib.hid (fun w' => by rw [← hgd]; exact rgood_any9 x w')
    rw [hgd] at q1 q2
    have Q1 := Lib.hid q1
    have Q2 := Lib.hid q2
    have HTL : Hid ((reqB x).length ≤ 12500) := HWF.out.2.2.2.2
    generalize reqB x = T at *
    clear q1 q2 hgd HB1 HWF
    go_upto_region 10 with (go_at_call 15; (with_reducible refine (HWR.out).mono ?_); rintro e w28 ⟨rfl, hw, hf⟩; have HB28 := Lib.hid (HBN.out.trans ((hf.below HWN.out).mono HSZ.out)); have HBY := Lib.hid (bytes_any w21.heap.size w21.heap.size T w28 hw (by have := HTL.out; omega)); clear hw hf)
    clear HWR HWN HBN l3
    go_upto_region 11 with (first
      | (go_at_call 16; (with_reducible refine (HBY.out).mono ?_); rintro e w30 ⟨A8, c8, rfl, _, _, hsee, hb⟩; have HB30 := Lib.hid (HB28.out.trans (hb.mono HB28.out.size)); have HRD2 := Lib.hid (read_any w30.heap.size A8 T c8 w30 hsee (Nat.le_refl _) (by have := HTL.out; omega)); clear hsee hb)
      | (go_at_call 8; (with_reducible refine (HRD2.out).mono ?_); rintro e w31 ⟨r2, rfl, hr, hge, hb⟩; have HR31 := Lib.hid hr; have HE31 := Lib.hid hge; have HB31 := Lib.hid (HB30.out.trans (hb.mono HB30.out.size)); clear hr hge hb))
    have HR2G : Hid (w1.heap.size ≤ r2) := Nat.le_trans HB30.out.size HE31.out
    clear HBY HRD2 HE31 HB30 HB28
    have HRX := Lib.hid (read_any9 r2 T false w31 HR31.out)
    obtain ⟨X2, hX2⟩ : ∃ X2, rqX T false = X2 := ⟨_, rfl⟩
    obtain ⟨F2, hF2⟩ : ∃ F2, rqF T false = F2 := ⟨_, rfl⟩
    rw [hX2, hF2] at HRX
    rw [hX2] at Q2
    rw [hF2] at Q1
    clear hX2 hF2
    go_upto_region 12 with (go_at_call 9; (with_reducible refine (HRX.out).mono ?_); rintro e w32 ⟨rfl, hr, hg⟩; obtain ⟨w33, hst, hbx, hgg⟩ := (Box.made w32 31 zreqV).st_req rfl X2; have HX33 := Lib.hid hbx; have HR33 := Lib.hid ((hr.below ((Below.refl w32.heap.size w32).alloc (Nat.le_refl _) (.cells zreqV 31)) hr.lt).only hgg hr.lt); have HB33 : Hid (Below w1.heap.size w1 w33) := Lib.hid (((HB31.out.trans (below_only hg HR2G.out HB31.out.size)).alloc (HB31.out.trans (below_only hg HR2G.out HB31.out.size)).size _).trans (below_only hgg (HB31.out.trans (below_only hg HR2G.out HB31.out.size)).size (by have := (HB31.out.trans (below_only hg HR2G.out HB31.out.size)).size; simp; omega))); have HLX : Hid (w1.heap.size ≤ w32.heap.size) := (HB31.out.trans (below_only hg HR2G.out HB31.out.size)).size; clear hr hg hbx hgg)
    clear hst HRX HR31 HB31
    generalize w32.heap.size = g8 at *
    have HR33d : Hid (Rd w33.drew r2 F2.1 F2.2) := HR33.out.below (Below.refl w33.heap.size w33).drew HR33.out.lt
    have HB33d : Hid (Below w33.heap.size w33 w33.drew) := (Below.refl _ _).drew
    have HS8 : Hid (∀ w', Below w33.heap.size w33 w' → w'.rangeAt g8 0 X2.cells) := fun w' hb => Box.range (HX33.out.below hb HX33.out.lt)
    have HS2 : Hid (∀ w', Below w33.heap.size w33 w' → w'.rangeAt w.heap.size 0 x.cells) := fun w' hb => Box.range (HG.out.below (HB33.out.trans (hb.mono HB33.out.size)) HG.out.lt)
    have HEN : Hid (∀ w', Below w33.heap.size w33 w' → Calls Try.prog 13 #[.pointer (some ⟨r2, 0, none⟩)] w' fun e w'' => e = .returned (.bool gd) ∧ w' = w'') := fun w' hb => by
      have h := rdend_any r2 F2.1 F2.2 w' (HR33.out.below hb HR33.out.lt)
      rw [Q1.out] at h
      cases gd with
      | true => rw [if_pos rfl] at h; exact h
      | false => rw [if_neg (by simp)] at h; exact h
    have hu3 := Try.underlying31
    have hsz2 := x.size
    have hsz8 := X2.size
    have he : gd = true → ∀ w', (eqReq (.agg X2.cells.toArray) (.agg x.cells.toArray)).run Try.prog w' = .ok true w' := fun h w' => by rw [Q2.out h, eq_req, decide_eq_true rfl]
    have HEQ := Lib.hid he
    clear he HR33 HR33d HX33
    refine wp_region_held_drew (S := fun w' => Below w33.heap.size w33 w') (by kernel_rfl) HB33d.out (fun hS => ?_)
    clear HB33d
    rcases gd with _ | _
    · (refine wpAnyH_take (i := 0) (v := .pointer (some ⟨r2, 0, none⟩)) rfl (by kernel_rfl) (by kernel_rfl) (by kernel_rfl) (fun _ _ _ h => h) (Or.inl ⟨by kernel_rfl, fun w hSw => by go_simp⟩) hS ?_)
      (try simp only [Act.put])
      (refine wpAnyH_take (i := 2) (v := .agg x.cells.toArray) rfl (by kernel_rfl) (by kernel_rfl) (by kernel_rfl) (fun _ _ _ h => h) (yieldsIf_load_mid (by kernel_rfl) 31 (.tmp 2) rfl w.heap.size (0) (by kernel_rfl) (x.cells) _ (fun w h => HS2.out w h) hu3 rfl hsz2) hS ?_)
      (try simp only [Act.put])
      refine wpAnyH_ready (rs := [1]) (by decide +kernel) (by simp) (AllReadyH.cons rfl (fun K hK => ?_) AllReadyH.nil)
      go_simp
      (go_at_call 13; (with_reducible refine (HEN.out _ hS).mono ?_); rintro e w35 ⟨rfl, rfl⟩)
      refine hK.out _ _ (hS) (fun hS => ?_)
      clear hK K
      (try simp only [Act.put])
      refine wpAnyH_ready (rs := [3]) (by decide +kernel) (by simp) (AllReadyH.cons rfl (fun K hK => ?_) AllReadyH.nil)
      go_simp
      (go_at_call 17; (with_reducible refine (HGD.out _).mono ?_); rintro e w36 ⟨rfl, hb⟩)
      refine hK.out _ _ (hS.trans (hb.mono hS.size)) (fun hS => ?_)
      clear hK K
      (try simp only [Act.put])
      clear hb
      (refine wpAnyH_take (i := 4) (v := .bool true) rfl (by kernel_rfl) (by kernel_rfl) (by kernel_rfl) (fun _ _ _ h => h) (Or.inl ⟨by kernel_rfl, fun w hSw => by go_simp⟩) hS ?_)
      (try simp only [Act.put])
      (refine wpAnyH_take (i := 5) (v := .bool true) rfl (by kernel_rfl) (by kernel_rfl) (by kernel_rfl) (fun _ _ _ h => h) (Or.inl ⟨by kernel_rfl, fun w hSw => by go_simp⟩) hS ?_)
      (try simp only [Act.put])
      (refine wpAnyH_take (i := 6) (v := .pointer (some ⟨r2, 0, none⟩)) rfl (by kernel_rfl) (by kernel_rfl) (by kernel_rfl) (fun _ _ _ h => h) (Or.inl ⟨by kernel_rfl, fun w hSw => by go_simp⟩) hS ?_)
      (try simp only [Act.put])
      refine wpAnyH_ready (rs := [7]) (by decide +kernel) (by simp) (AllReadyH.cons rfl (fun K hK => ?_) AllReadyH.nil)
      go_simp
      (go_at_call 13; (with_reducible refine (HEN.out _ hS).mono ?_); rintro e w37 ⟨rfl, rfl⟩)
      refine hK.out _ _ (hS) (fun hS => ?_)
      clear hK K
      (try simp only [Act.put])
      (refine wpAnyH_take (i := 8) (v := .bool true) rfl (by kernel_rfl) (by kernel_rfl) (by kernel_rfl) (fun _ _ _ h => h) (Or.inl ⟨by kernel_rfl, fun w hSw => by go_simp⟩) hS ?_)
      (try simp only [Act.put])
      (refine wpAnyH_take (i := 9) (v := .bool true) rfl (by kernel_rfl) (by kernel_rfl) (by kernel_rfl) (fun _ _ _ h => h) (Or.inl ⟨by kernel_rfl, fun w hSw => by go_simp⟩) hS ?_)
      (try simp only [Act.put])
      (refine wpAnyH_take (i := 10) (v := undef) rfl (by kernel_rfl) (by kernel_rfl) (by kernel_rfl) (fun _ _ _ h => h) (Or.inr ⟨by kernel_rfl, rfl⟩) hS ?_)
      (try simp only [Act.put])
      (refine wpAnyH_take (i := 11) (v := undef) rfl (by kernel_rfl) (by kernel_rfl) (by kernel_rfl) (fun _ _ _ h => h) (Or.inr ⟨by kernel_rfl, rfl⟩) hS ?_)
      (try simp only [Act.put])
      (refine wpAnyH_take (i := 12) (v := undef) rfl (by kernel_rfl) (by kernel_rfl) (by kernel_rfl) (fun _ _ _ h => h) (Or.inr ⟨by kernel_rfl, rfl⟩) hS ?_)
      (try simp only [Act.put])
      (refine wpAnyH_take (i := 13) (v := .bool true) rfl (by kernel_rfl) (by kernel_rfl) (by kernel_rfl) (fun _ _ _ h => h) (Or.inl ⟨by kernel_rfl, fun w hSw => by go_simp⟩) hS ?_)
      (try simp only [Act.put])
      (refine wpAnyH_take (i := 14) (v := .bool true) rfl (by kernel_rfl) (by kernel_rfl) (by kernel_rfl) (fun _ _ _ h => h) (Or.inl ⟨by kernel_rfl, fun w hSw => by go_simp⟩) hS ?_)
      (try simp only [Act.put])
      refine wpAnyH_ready (rs := [15]) (by decide +kernel) (by simp) (AllReadyH.cons rfl (fun K hK => ?_) AllReadyH.nil)
      go_simp
      refine hK.out _ _ (hS) (fun hS => ?_)
      clear hK K
      (try simp only [Act.put])
      refine wpAnyH_done (by kernel_rfl) ?_ _
      have HFG := Lib.hid (HF.out.trans ((HB33.out.trans (hS.mono HB33.out.size)).mono HF.out.size))
      clear hS
      go_wp2
      go_ret
      exact ⟨rfl, HFG.out⟩

    · have eq8 := HEQ.out rfl
      (refine wpAnyH_take (i := 0) (v := .pointer (some ⟨r2, 0, none⟩)) rfl (by kernel_rfl) (by kernel_rfl) (by kernel_rfl) (fun _ _ _ h => h) (Or.inl ⟨by kernel_rfl, fun w hSw => by go_simp⟩) hS ?_)
      (try simp only [Act.put])
      (refine wpAnyH_take (i := 2) (v := .agg x.cells.toArray) rfl (by kernel_rfl) (by kernel_rfl) (by kernel_rfl) (fun _ _ _ h => h) (yieldsIf_load_mid (by kernel_rfl) 31 (.tmp 2) rfl w.heap.size (0) (by kernel_rfl) (x.cells) _ (fun w h => HS2.out w h) hu3 rfl hsz2) hS ?_)
      (try simp only [Act.put])
      refine wpAnyH_ready (rs := [1]) (by decide +kernel) (by simp) (AllReadyH.cons rfl (fun K hK => ?_) AllReadyH.nil)
      go_simp
      (go_at_call 13; (with_reducible refine (HEN.out _ hS).mono ?_); rintro e w35 ⟨rfl, rfl⟩)
      refine hK.out _ _ (hS) (fun hS => ?_)
      clear hK K
      (try simp only [Act.put])
      refine wpAnyH_ready (rs := [3]) (by decide +kernel) (by simp) (AllReadyH.cons rfl (fun K hK => ?_) AllReadyH.nil)
      go_simp
      (go_at_call 17; (with_reducible refine (HGD.out _).mono ?_); rintro e w36 ⟨rfl, hb⟩)
      refine hK.out _ _ (hS.trans (hb.mono hS.size)) (fun hS => ?_)
      clear hK K
      (try simp only [Act.put])
      clear hb
      (refine wpAnyH_take (i := 4) (v := .bool true) rfl (by kernel_rfl) (by kernel_rfl) (by kernel_rfl) (fun _ _ _ h => h) (Or.inl ⟨by kernel_rfl, fun w hSw => by go_simp⟩) hS ?_)
      (try simp only [Act.put])
      (refine wpAnyH_take (i := 5) (v := .bool true) rfl (by kernel_rfl) (by kernel_rfl) (by kernel_rfl) (fun _ _ _ h => h) (Or.inl ⟨by kernel_rfl, fun w hSw => by go_simp⟩) hS ?_)
      (try simp only [Act.put])
      (refine wpAnyH_take (i := 6) (v := .pointer (some ⟨r2, 0, none⟩)) rfl (by kernel_rfl) (by kernel_rfl) (by kernel_rfl) (fun _ _ _ h => h) (Or.inl ⟨by kernel_rfl, fun w hSw => by go_simp⟩) hS ?_)
      (try simp only [Act.put])
      refine wpAnyH_ready (rs := [7]) (by decide +kernel) (by simp) (AllReadyH.cons rfl (fun K hK => ?_) AllReadyH.nil)
      go_simp
      (go_at_call 13; (with_reducible refine (HEN.out _ hS).mono ?_); rintro e w37 ⟨rfl, rfl⟩)
      refine hK.out _ _ (hS) (fun hS => ?_)
      clear hK K
      (try simp only [Act.put])
      (refine wpAnyH_take (i := 8) (v := .bool false) rfl (by kernel_rfl) (by kernel_rfl) (by kernel_rfl) (fun _ _ _ h => h) (Or.inl ⟨by kernel_rfl, fun w hSw => by go_simp⟩) hS ?_)
      (try simp only [Act.put])
      (refine wpAnyH_take (i := 9) (v := .bool false) rfl (by kernel_rfl) (by kernel_rfl) (by kernel_rfl) (fun _ _ _ h => h) (Or.inl ⟨by kernel_rfl, fun w hSw => by go_simp⟩) hS ?_)
      (try simp only [Act.put])
      (refine wpAnyH_take (i := 10) (v := .agg X2.cells.toArray) rfl (by kernel_rfl) (by kernel_rfl) (by kernel_rfl) (fun _ _ _ h => h) (yieldsIf_load_mid (by kernel_rfl) 31 (.tmp 8) rfl g8 (0) (by kernel_rfl) (X2.cells) _ (fun w h => HS8.out w h) hu3 rfl hsz8) hS ?_)
      (try simp only [Act.put])
      (refine wpAnyH_take (i := 11) (v := .agg x.cells.toArray) rfl (by kernel_rfl) (by kernel_rfl) (by kernel_rfl) (fun _ _ _ h => h) (yieldsIf_load_mid (by kernel_rfl) 31 (.tmp 2) rfl w.heap.size (0) (by kernel_rfl) (x.cells) _ (fun w h => HS2.out w h) hu3 rfl hsz2) hS ?_)
      (try simp only [Act.put])
      (refine wpAnyH_take (i := 12) (v := .bool true) rfl (by kernel_rfl) (by kernel_rfl) (by kernel_rfl) (fun _ _ _ h => h) (Or.inl ⟨by kernel_rfl, fun w hSw => by have hc := eq8 w; go_simp⟩) hS ?_)
      (try simp only [Act.put])
      (refine wpAnyH_take (i := 13) (v := .bool true) rfl (by kernel_rfl) (by kernel_rfl) (by kernel_rfl) (fun _ _ _ h => h) (Or.inl ⟨by kernel_rfl, fun w hSw => by go_simp⟩) hS ?_)
      (try simp only [Act.put])
      (refine wpAnyH_take (i := 14) (v := .bool true) rfl (by kernel_rfl) (by kernel_rfl) (by kernel_rfl) (fun _ _ _ h => h) (Or.inl ⟨by kernel_rfl, fun w hSw => by go_simp⟩) hS ?_)
      (try simp only [Act.put])
      refine wpAnyH_ready (rs := [15]) (by decide +kernel) (by simp) (AllReadyH.cons rfl (fun K hK => ?_) AllReadyH.nil)
      go_simp
      refine hK.out _ _ (hS) (fun hS => ?_)
      clear hK K
      (try simp only [Act.put])
      refine wpAnyH_done (by kernel_rfl) ?_ _
      have HFG := Lib.hid (HF.out.trans ((HB33.out.trans (hS.mono HB33.out.size)).mono HF.out.size))
      clear hS
      go_wp2
      go_ret
      exact ⟨rfl, HFG.out⟩

end Go.Proofs.Ytoamcdbemhbphaa
