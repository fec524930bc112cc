/-
  A registry read, by the document: wapentakeref11.State.
-/
import Derived.Test.YtlogceoeodjeoaaDoorHE
namespace Go.Proofs.YtlogceoeodjeoaaDoor
open Go.RowKit

set_option maxRecDepth 100000 in
theorem bd_pair2 (k v : ByteArray) (w : World) : (Instr.build 63 #[(0, .string k), (1, .string v)]).run Tryd.prog w = .ok (.agg #[.string k, .string v]) w := run_build w _ _ _ (by kernel_rfl)
set_option maxRecDepth 100000 in
theorem bd_rdr (l : List UInt8) (w : World) : (Instr.build 105 #[(0, str l)]).run Tryd.prog w = .ok (.agg #[str l, .bool false]) w := run_build w _ _ _ (by kernel_rfl)
set_option maxRecDepth 100000 in
theorem sf_no {l : List UInt8} {F : List UInt8 × Bool} {P Q : Nat} {g0 g1 : Int × List UInt8 × Bool} {S : Nat → List UInt8 × Bool} {T : Nat → List PairX} {S2 : Nat → List UInt8 × Bool} {T2 : Nat → List RepX} (_h : SfFacts l F P Q g0 g1 S T S2 T2) (hb : (S2 Q).2 = true) : ¬ StOk P Q T S2 T2 := fun h => by
  have h1 := h.1
  rw [hb] at h1
  cases h1
attribute [local go_sem ↓] ldRp_def stRp_def ldSt_def stSt_def ldCf_def stCf_def ldPr_def stPr_def bsT_def apAll_def
set_option maxRecDepth 100000 in
set_option maxHeartbeats 4000000 in
theorem rstate_gen (l : List UInt8) (w : World) {E : Int} {V : List MemX} (hE : E = crE l false) (hV : V = crMs l false)
    {F : List UInt8 × Bool} {P Q : Nat} {g0 g1 : Int × List UInt8 × Bool} {S : Nat → List UInt8 × Bool} {T : Nat → List PairX} {S2 : Nat → List UInt8 × Bool} {T2 : Nat → List RepX} (hf : SfFacts l F P Q g0 g1 S T S2 T2) :
    Calls Tryd.prog 25 #[str l] w (SfIs E V P Q T S2 T2 w) := by
  obtain ⟨w1, hw1⟩ : ∃ w1, w1 = w.alloc (.cells (stV none 0 0 none 0 0 0 none 0 0) 37) := ⟨_, rfl⟩
  have HO1 : Hid (Box w1 w.heap.size 37 (stV none 0 0 none 0 0 0 none 0 0)) := by rw [hw1]; exact Box.made _ _ _
  have HB1 : Hid (Below w.heap.size w w1) := by rw [hw1]; exact (Below.refl _ _).alloc (Nat.le_refl _) _
  have HZ1 : Hid (w1.heap.size = w.heap.size + 1) := Lib.hid (by rw [hw1]; simp)
  have HFC := Lib.hid hf
  have hcfg := hf.cfg
  have HCR : Hid (∀ (w' : World) (a : Nat), RRd w' a l false → Calls Tryd.prog 57 #[.pointer (some ⟨a, 0, none⟩)] w' fun e w'' => ∃ A z, e = .returned (.agg (cfgV E A V.length z)) ∧ MK.Own w'' w'.heap.size (.slice A V.length z) V ∧ RRd w'' a F.1 F.2 ∧ w'.grownBy w'' (some a)) := Lib.hid (fun w' a h => by
    have h1 := rcfgread_any a l false w' h
    unfold CfgIs at h1
    rw [← hE, ← hV, ← hcfg] at h1
    exact h1)
  clear hf hcfg hE hV
  have hbr := bd_rdr l
  go_enter Tryd.func25, Tryd.ntmps25
  go_upto_region 1 with fail
  change Code.wp _ _ _ _ (w.alloc (.cells (stV none 0 0 none 0 0 0 none 0 0) 37))
  rw [← hw1]
  clear hw1
  have HR2 : Hid (RRd (w1.alloc (.cells #[str l, .bool false] 105)) w1.heap.size l false) := Box.made _ _ _
  have HB2 : Hid (Below w1.heap.size w1 (w1.alloc (.cells #[str l, .bool false] 105))) := (Below.refl _ _).alloc (Nat.le_refl _) _
  have HZ2 : Hid ((w1.alloc (.cells #[str l, .bool false] 105)).heap.size = w1.heap.size + 1) := Lib.hid (by simp)
  go_upto_region 2 with fail
  generalize w1.alloc (.cells #[str l, .bool false] 105) = w2 at *
  have HA2 : Hid (w1.heap.size ≤ w1.heap.size) := Lib.hid (Nat.le_refl _)
  clear hbr
  have HC := Lib.hid (HCR.out w2 w1.heap.size HR2.out)
  clear HCR
  have hbd := fun A z => bd_state2 E A V.length z
  go_upto_region 3 with (go_at_call 57; (with_reducible refine (HC.out).mono ?_); rintro e w3 ⟨mA, mz, rfl, ho, hr, hg⟩; obtain ⟨w4, hst, hb4, hl4, _⟩ := laid_st w3 (stV none 0 0 none 0 0 0 none 0 0) rfl none 0 0 none 0 0 E mA V.length mz; have HO3 := Lib.hid ho; have HR3 := Lib.hid hr; have HG3 := Lib.hid hg; have HB4 := Lib.hid hb4; have HL4 := Lib.hid hl4; clear ho hr hg hb4 hl4)
  have HW4 : Hid (TW RRd w w2.heap.size w1.heap.size w.heap.size w3.heap.size E mA mz V (.slice none 0 0) [] (.slice none 0 0) [] F w4) := Lib.hid (by
    have hz := HZ1.out
    have hz2 := HZ2.out
    have ho2 := HO1.out.below HB2.out HO1.out.lt
    have ho3 := ho2.grown HG3.out (by intro e; injection e with e; omega)
    have hs3 := HG3.out.size
    have hfar := (HB1.out.trans (HB2.out.mono HB1.out.size)).trans ((below_only HG3.out (by omega) (HB1.out.trans (HB2.out.mono HB1.out.size)).size))
    exact ⟨ho3.below HL4.out ho3.lt, HB4.out, rrd_below HR3.out HL4.out, PK.own_nil _ _, RK.own_nil _ _, fun _ => rfl, EK.Own.keep HO3.out HL4.out, fun m hm => (by cases hm), hfar.trans (HL4.out.mono hfar.size), by omega, by omega, Nat.le_refl _, by omega, by omega, hs3, Nat.le_trans hs3 HL4.out.size⟩)
  clear HO3 HR3 HG3 HB4 HL4 HC hbd hst HO1 HB1 HZ1 HR2 HA2 HB2 HZ2
  generalize w3.heap.size = b at *
  generalize w2.heap.size = B at *
  generalize w1.heap.size = a at *
  generalize hrr : w.heap.size = r at HW4 ⊢
  have HIN : Hid (∀ (lo hi : Int) pv ps rv rs (s : List UInt8 × Bool) (g : Int × List UInt8 × Bool) w', inV lo hi s.1 s.2 = g → TW RRd w B a r b E mA mz V pv ps rv rs s w' → Calls Tryd.prog 58 #[.pointer (some ⟨a, 0, none⟩), .int .i64 lo, .int .i64 hi] w' fun e w'' => e = .returned (.int .i64 g.1) ∧ TW RRd w B a r b E mA mz V pv ps rv rs g.2 w'') := Lib.hid (fun lo hi pv ps rv rs s g w' e hw => by
    have h1 := rin_any a lo hi s.1 s.2 w' hw.rd
    rw [e] at h1
    exact h1.mono fun e w'' ⟨he, hr, hg⟩ => ⟨he, hw.turn hg hr⟩)
  have HGD : Hid (∀ pv ps rv rs (s : List UInt8 × Bool) w', TW RRd w B a r b E mA mz V pv ps rv rs s w' → Calls Tryd.prog 59 #[.pointer (some ⟨a, 0, none⟩)] w' fun e w'' => e = .returned (.bool !s.2) ∧ w' = w'') := Lib.hid (fun pv ps rv rs s w' hw => rgood_any a s.1 s.2 w' hw.rd)
  have hbd0 := fun w' => bd_state0 w'
  have HR0 : Hid (∀ pv ps rv rs (s : List UInt8 × Bool) w', TW RRd w B a r b E mA mz V pv ps rv rs s w' → ∃ wz, (stSt (.pointer (some ⟨r, 0, none⟩)) (.agg (stV none 0 0 none 0 0 0 none 0 0))).run Tryd.prog w' = .ok () wz ∧ Box wz r 37 (stV none 0 0 none 0 0 0 none 0 0) ∧ Below w.heap.size w wz) := Lib.hid (fun pv ps rv rs s w' hw => by
    obtain ⟨wz, hst, hb, hg⟩ := hw.out.s_st rfl none 0 0 none 0 0 0 none 0 0
    exact ⟨wz, hst, hb, hw.far.trans (below_only hg hw.hr hw.far.size)⟩)
  have HC := Lib.hid (HIN.out 0 256 _ _ _ _ _ _ _ HFC.out.e0 HW4.out)
  go_upto_region 5 with (go_at_call 58; (with_reducible refine (HC.out).mono ?_); rintro e w5 ⟨rfl, hw⟩; have HW5 := Lib.hid hw; clear hw)
  rw [HFC.out.n0]
  rw [← HFC.out.s0] at HW5
  clear HC HW4
  go_loopw [7] (fun i wr => ∃ (k : Nat) (pv : Value), k ≤ P ∧ i = .int .i64 (k : Int) ∧ Hid (TW RRd w B a r b E mA mz V pv (T k) (.slice none 0 0) [] (S k) wr)) (fun i _ => P - (intOf i).toNat)
  case atStart => exact ⟨0, _, Nat.zero_le _, rfl, Lib.hid (by rw [HFC.out.t0]; exact HW5.out)⟩
  case round =>
    clear HW5
    obtain ⟨k, pv, hk, rfl, HW⟩ := hrel
    by_cases hlt : k < P
    · have i1 : (k : Int) < (P : Int) := by omega
      have i1d : decide ((k : Int) < (P : Int)) = true := decide_eq_true i1
      have wk : IntKind.i64.wrap ((k : Int) + 1) = ((k + 1 : Nat) : Int) := by
        rw [IntKind.wrap_i64]
        have := HFC.out.p256
        omega
      have HLT := Lib.hid hlt
      have HGK := Lib.hid (HGD.out _ _ _ _ _ _ HW.out)
      obtain ⟨bd, hbd⟩ : ∃ bd, (S k).2 = bd := ⟨_, rfl⟩
      rw [hbd] at HGK
      rcases bd with _ | _
      rotate_left
      · have HBP : Hid ((S P).2 = true) := Lib.hid (HFC.out.bad1 (by omega) hbd)
        have HBQ : Hid (¬ StOk P Q T S2 T2) := Lib.hid (sf_no HFC.out (HFC.out.bad3 HBP.out))
        obtain ⟨g2, hg2⟩ : ∃ g2, inV 0 64 (S k).1 (S k).2 = g2 := ⟨_, rfl⟩
        have h2 := in_bad_at hbd hg2
        have hC := HIN.out 0 64 _ _ _ _ _ _ _ hg2 HW.out
        rw [h2.1] at hC
        have HC := Lib.hid hC
        have HG2 := Lib.hid h2.2
        clear hC h2 hg2 hbd HIN HGD HFC HBP HLT
        go_upto_region 11 with (first
          | (go_at_call 59; (with_reducible refine (HGK.out).mono ?_); rintro e wg ⟨rfl, rfl⟩)
          | (go_at_call 58; (with_reducible refine (HC.out).mono ?_); rintro e w5 ⟨rfl, hw⟩; have HW5 := Lib.hid hw; clear hw))
        clear HC HW HGK i1 i1d wk
        go_loopw [9] (fun i wr => i = .int .i64 0 ∧ Hid (wr = w5)) (fun i _ => 0)
        case atStart => exact ⟨rfl, Lib.hid rfl⟩
        case round =>
          obtain ⟨rfl, HWE⟩ := hrel
          obtain rfl := HWE.out
          have hen := rend_any a g2.2.1 g2.2.2 wr HW5.out.rd
          rw [HG2.out] at hen
          have HEN := Lib.hid hen
          obtain ⟨wz, hst, hb, hbz⟩ := HR0.out _ _ _ _ _ _ HW5.out
          have HBZ := Lib.hid hb
          have HFZ := Lib.hid hbz
          clear hen hb hbz HR0 HW5
          go_wp2_with (go_at_call 62; (with_reducible refine (HEN.out).mono ?_); rintro e wg ⟨rfl, rfl⟩)
          exact ret_st2 rfl rfl rfl rfl HBZ.out ⟨⟨[], none, 0, [], none, 0, 0, [], none, 0⟩, 4, rfl, .inr ⟨HBQ.out, rfl, rfl⟩, ⟨.inl rfl, .inl rfl, fun m hm => (by cases hm), .inl rfl⟩, HFZ.out⟩
      clear hbd
      obtain ⟨tk, tv, h1, h2, h3, h4⟩ := HFC.out.step k
      have HLL : Hid ((T k).length ≤ 256) := Lib.hid (by rw [HFC.out.len]; have := HFC.out.p256; omega)
      have H1 := Lib.hid h1
      have H2 := Lib.hid h2
      have H3 := Lib.hid h3
      have H4 := Lib.hid h4
      generalize T k = L at *
      generalize S k = s at *
      clear h1 h2 h3 h4 hlt hk
      have HC : Hid (Calls Tryd.prog 60 #[.pointer (some ⟨a, 0, none⟩), .int .i64 1024] wr fun e w' => e = .returned (.string ⟨tk.1.toArray⟩) ∧ TW RRd w B a r b E mA mz V pv L (.slice none 0 0) [] tk.2 w') := Lib.hid (by
        have h1 := rtext_any a 1024 s.1 s.2 wr HW.out.rd
        rw [H1.out] at h1
        exact h1.mono fun e w'' ⟨he, hr, hg⟩ => ⟨he, HW.out.turn hg hr⟩)
      go_upto_region 8 with (first
        | (go_at_call 59; (with_reducible refine (HGK.out).mono ?_); rintro e wg ⟨rfl, rfl⟩)
        | (go_at_call 60; (with_reducible refine (HC.out).mono ?_); rintro e w6 ⟨rfl, hw⟩; have HW6 := Lib.hid hw; clear hw))
      clear HC HW HGK
      generalize (⟨tk.1.toArray⟩ : ByteArray) = ky at *
      have HWd := Lib.hid (HW6.out.call rrd_ok ((Below.refl w6.heap.size w6).drew))
      have HC : Hid (Calls Tryd.prog 60 #[.pointer (some ⟨a, 0, none⟩), .int .i64 1024] w6.drew fun e w' => e = .returned (.string ⟨tv.1.toArray⟩) ∧ TW RRd w B a r b E mA mz V pv L (.slice none 0 0) [] tv.2 w') := Lib.hid (by
        have h1 := rtext_any a 1024 tk.2.1 tk.2.2 w6.drew HWd.out.rd
        rw [H2.out] at h1
        exact h1.mono fun e w'' ⟨he, hr, hg⟩ => ⟨he, HWd.out.turn hg hr⟩)
      generalize (⟨tv.1.toArray⟩ : ByteArray) = vl at *
      have c0 : w6.drew.cell? ⟨b, 0, none⟩ = some pv := HWd.out.box.cell 0
      clear HW6
      refine wp_region_held_drew (S := fun _ => True) (by kernel_rfl) trivial (fun hS => ?_)
      (refine wpAnyH_take (i := 0) (v := .pointer (some ⟨b, 0, none⟩)) rfl (by kernel_rfl) (by kernel_rfl) (by kernel_rfl) (fun _ _ _ h => h) (Or.inl ⟨by kernel_rfl, fun w hSw => by go_simp⟩) hS ?_)
      (try simp only [Act.put])
      (refine wpAnyH_take (i := 2) (v := .string ky) rfl (by kernel_rfl) (by kernel_rfl) (by kernel_rfl) (fun _ _ _ h => h) (Or.inl ⟨by kernel_rfl, fun w hSw => by go_simp⟩) hS ?_)
      (try simp only [Act.put])
      (refine wpAnyH_take (i := 3) (v := .pointer (some ⟨a, 0, none⟩)) rfl (by kernel_rfl) (by kernel_rfl) (by kernel_rfl) (fun _ _ _ h => h) (Or.inl ⟨by kernel_rfl, fun w hSw => by go_simp⟩) hS ?_)
      (try simp only [Act.put])
      refine wpAnyH_ready (rs := [1, 4]) (by decide +kernel) (by simp) (AllReadyH.cons rfl (fun K hK => ?_) (AllReadyH.cons rfl (fun K hK => ?_) AllReadyH.nil))
      · go_simp
        refine hK.out _ _ (trivial) (fun hS => ?_)
        clear hK K
        (try simp only [Act.put])
        refine wpAnyH_ready (rs := [4]) (by decide +kernel) (by simp) (AllReadyH.cons rfl (fun K hK => ?_) AllReadyH.nil)
        go_simp
        (go_at_call 60; (with_reducible refine (HC.out).mono ?_); rintro e w7 ⟨rfl, hw7⟩)
        have c17 : w7.cell? ⟨b, 0, none⟩ = some pv := hw7.box.cell 0
        obtain ⟨hbs, pA, n, c2, w8, hap, hc8, hf8, hw8⟩ := hw7.pushP rrd_ok ⟨ky, vl⟩ (by have := HLL.out; omega)
        simp only at hbs hap
        have c18 : (w7.alloc (.cells #[.string ky, .string vl] 63)).cell? ⟨b, 0, none⟩ = some pv := (hw7.box.alloc _).cell 0
        have HW8 := Lib.hid hw8
        clear hw7 hw8
        refine hK.out _ _ (hS) (fun hS => ?_)
        clear hK K
        (try simp only [Act.put])
        (refine wpAnyH_take (i := 5) (v := .agg #[.string ky, .string vl]) rfl (by kernel_rfl) (by kernel_rfl) (by kernel_rfl) (fun _ _ _ h => h) (Or.inl ⟨by kernel_rfl, fun w hSw => by have hc := bd_pair2 ky vl w; go_simp⟩) hS ?_)
        (try simp only [Act.put])
        refine wpAnyH_ready (rs := [6]) (by decide +kernel) (by simp) (AllReadyH.cons rfl (fun K hK => ?_) AllReadyH.nil)
        go_simp
        refine hK.out _ _ (trivial) (fun hS => ?_)
        clear hK K
        (try simp only [Act.put])
        refine wpAnyH_ready (rs := [7]) (by decide +kernel) (by simp) (AllReadyH.cons rfl (fun K hK => ?_) AllReadyH.nil)
        go_simp
        refine hK.out _ _ (trivial) (fun hS => ?_)
        clear hK K
        (try simp only [Act.put])
        (refine wpAnyH_take (i := 8) (v := .pointer (some ⟨b, 0, none⟩)) rfl (by kernel_rfl) (by kernel_rfl) (by kernel_rfl) (fun _ _ _ h => h) (Or.inl ⟨by kernel_rfl, fun w hSw => by go_simp⟩) hS ?_)
        (try simp only [Act.put])
        refine wpAnyH_ready (rs := [9]) (by decide +kernel) (by simp) (AllReadyH.cons rfl (fun K hK => ?_) AllReadyH.nil)
        go_simp
        refine hK.out _ _ (trivial) (fun hS => ?_)
        clear hK K
        (try simp only [Act.put])
        refine wpAnyH_done (by kernel_rfl) ?_ _
        clear hap hbs hc8 hf8 c0 c17 c18 HC HWd
        generalize w8.setCell ⟨b, 0, none⟩ (.slice pA n c2) = w9 at *
        rw [← H3.out, ← H4.out] at HW8
        go_wp2
        go_roundw
        case rel => exact ⟨k + 1, _, HLT.out, by go_num, HW8⟩
        case measure => have := HLT.out; simp [intOf]; omega
      · go_simp
        (go_at_call 60; (with_reducible refine (HC.out).mono ?_); rintro e w7 ⟨rfl, hw7⟩)
        have c17 : w7.cell? ⟨b, 0, none⟩ = some pv := hw7.box.cell 0
        obtain ⟨hbs, pA, n, c2, w8, hap, hc8, hf8, hw8⟩ := hw7.pushP rrd_ok ⟨ky, vl⟩ (by have := HLL.out; omega)
        simp only at hbs hap
        have c18 : (w7.alloc (.cells #[.string ky, .string vl] 63)).cell? ⟨b, 0, none⟩ = some pv := (hw7.box.alloc _).cell 0
        have HW8 := Lib.hid hw8
        clear hw7 hw8
        refine hK.out _ _ (hS) (fun hS => ?_)
        clear hK K
        (try simp only [Act.put])
        (refine wpAnyH_take (i := 5) (v := .agg #[.string ky, .string vl]) rfl (by kernel_rfl) (by kernel_rfl) (by kernel_rfl) (fun _ _ _ h => h) (Or.inl ⟨by kernel_rfl, fun w hSw => by have hc := bd_pair2 ky vl w; go_simp⟩) hS ?_)
        (try simp only [Act.put])
        refine wpAnyH_ready (rs := [1, 6]) (by decide +kernel) (by simp) (AllReadyH.cons rfl (fun K hK => ?_) (AllReadyH.cons rfl (fun K hK => ?_) AllReadyH.nil))
        · go_simp
          refine hK.out _ _ (trivial) (fun hS => ?_)
          clear hK K
          (try simp only [Act.put])
          refine wpAnyH_ready (rs := [6]) (by decide +kernel) (by simp) (AllReadyH.cons rfl (fun K hK => ?_) AllReadyH.nil)
          go_simp
          refine hK.out _ _ (trivial) (fun hS => ?_)
          clear hK K
          (try simp only [Act.put])
          refine wpAnyH_ready (rs := [7]) (by decide +kernel) (by simp) (AllReadyH.cons rfl (fun K hK => ?_) AllReadyH.nil)
          go_simp
          refine hK.out _ _ (trivial) (fun hS => ?_)
          clear hK K
          (try simp only [Act.put])
          (refine wpAnyH_take (i := 8) (v := .pointer (some ⟨b, 0, none⟩)) rfl (by kernel_rfl) (by kernel_rfl) (by kernel_rfl) (fun _ _ _ h => h) (Or.inl ⟨by kernel_rfl, fun w hSw => by go_simp⟩) hS ?_)
          (try simp only [Act.put])
          refine wpAnyH_ready (rs := [9]) (by decide +kernel) (by simp) (AllReadyH.cons rfl (fun K hK => ?_) AllReadyH.nil)
          go_simp
          refine hK.out _ _ (trivial) (fun hS => ?_)
          clear hK K
          (try simp only [Act.put])
          refine wpAnyH_done (by kernel_rfl) ?_ _
          clear hap hbs hc8 hf8 c0 c17 c18 HC HWd
          generalize w8.setCell ⟨b, 0, none⟩ (.slice pA n c2) = w9 at *
          rw [← H3.out, ← H4.out] at HW8
          go_wp2
          go_roundw
          case rel => exact ⟨k + 1, _, HLT.out, by go_num, HW8⟩
          case measure => have := HLT.out; simp [intOf]; omega
        · go_simp
          refine hK.out _ _ (trivial) (fun hS => ?_)
          clear hK K
          (try simp only [Act.put])
          refine wpAnyH_ready (rs := [1]) (by decide +kernel) (by simp) (AllReadyH.cons rfl (fun K hK => ?_) AllReadyH.nil)
          go_simp
          refine hK.out _ _ (trivial) (fun hS => ?_)
          clear hK K
          (try simp only [Act.put])
          refine wpAnyH_ready (rs := [7]) (by decide +kernel) (by simp) (AllReadyH.cons rfl (fun K hK => ?_) AllReadyH.nil)
          go_simp
          refine hK.out _ _ (trivial) (fun hS => ?_)
          clear hK K
          (try simp only [Act.put])
          (refine wpAnyH_take (i := 8) (v := .pointer (some ⟨b, 0, none⟩)) rfl (by kernel_rfl) (by kernel_rfl) (by kernel_rfl) (fun _ _ _ h => h) (Or.inl ⟨by kernel_rfl, fun w hSw => by go_simp⟩) hS ?_)
          (try simp only [Act.put])
          refine wpAnyH_ready (rs := [9]) (by decide +kernel) (by simp) (AllReadyH.cons rfl (fun K hK => ?_) AllReadyH.nil)
          go_simp
          refine hK.out _ _ (trivial) (fun hS => ?_)
          clear hK K
          (try simp only [Act.put])
          refine wpAnyH_done (by kernel_rfl) ?_ _
          clear hap hbs hc8 hf8 c0 c17 c18 HC HWd
          generalize w8.setCell ⟨b, 0, none⟩ (.slice pA n c2) = w9 at *
          rw [← H3.out, ← H4.out] at HW8
          go_wp2
          go_roundw
          case rel => exact ⟨k + 1, _, HLT.out, by go_num, HW8⟩
          case measure => have := HLT.out; simp [intOf]; omega
    · have i1 : ¬ (k : Int) < (P : Int) := by omega
      have i1d : decide ((k : Int) < (P : Int)) = false := decide_eq_false i1
      have hke : k = P := by omega
      subst hke
      clear hk hlt
      have HC := Lib.hid (HIN.out 0 64 _ _ _ _ _ _ _ HFC.out.e1 HW.out)
      go_upto_region 11 with (go_at_call 58; (with_reducible refine (HC.out).mono ?_); rintro e w5 ⟨rfl, hw⟩; have HW5 := Lib.hid hw; clear hw)
      rw [HFC.out.n1]
      rw [← HFC.out.s02] at HW5
      clear HC HW HIN i1 i1d
      go_loopw [9] (fun i wr => ∃ (j : Nat) (rv : Value) (L : List RepM), j ≤ Q ∧ i = .int .i64 (j : Int) ∧ Hid (L.map RepM.x = T2 j) ∧ Hid (TW RRd w B a r b E mA mz V pv (T k) rv L (S2 j) wr)) (fun i _ => Q - (intOf i).toNat)
      case atStart => exact ⟨0, _, [], Nat.zero_le _, rfl, Lib.hid (by rw [HFC.out.t02]; rfl), HW5⟩
      case round =>
        clear HW5
        obtain ⟨j, rv, L, hj, rfl, HLM, HW⟩ := hrel
        by_cases hlt : j < Q
        · have i1 : (j : Int) < (Q : Int) := by omega
          have i1d : decide ((j : Int) < (Q : Int)) = true := decide_eq_true i1
          have wk : IntKind.i64.wrap ((j : Int) + 1) = ((j + 1 : Nat) : Int) := by
            rw [IntKind.wrap_i64]
            have := HFC.out.q64
            omega
          have HLT := Lib.hid hlt
          have HGK := Lib.hid (HGD.out _ _ _ _ _ _ HW.out)
          obtain ⟨bd, hbd⟩ : ∃ bd, (S2 j).2 = bd := ⟨_, rfl⟩
          rw [hbd] at HGK
          rcases bd with _ | _
          rotate_left
          · have HBQ : Hid (¬ StOk k Q T S2 T2) := Lib.hid (sf_no HFC.out (HFC.out.bad2 (by omega) hbd))
            have hen := rend_any a (S2 j).1 (S2 j).2 wr HW.out.rd
            rw [hbd] at hen
            have HEN := Lib.hid hen
            obtain ⟨wz, hst, hb, hbz⟩ := HR0.out _ _ _ _ _ _ HW.out
            have HBZ := Lib.hid hb
            have HFZ := Lib.hid hbz
            clear hen hb hbz HR0 HW hbd HGD HFC HLT
            go_wp2_with (first
              | (go_at_call 59; (with_reducible refine (HGK.out).mono ?_); rintro e wg ⟨rfl, rfl⟩)
              | (go_at_call 62; (with_reducible refine (HEN.out).mono ?_); rintro e wg ⟨rfl, rfl⟩))
            exact ret_st2 rfl rfl rfl rfl HBZ.out ⟨⟨[], none, 0, [], none, 0, 0, [], none, 0⟩, 4, rfl, .inr ⟨HBQ.out, rfl, rfl⟩, ⟨.inl rfl, .inl rfl, fun m hm => (by cases hm), .inl rfl⟩, HFZ.out⟩
          clear hbd
          obtain ⟨h1, h2⟩ := HFC.out.step2 j
          have HLL : Hid (L.length ≤ 64) := Lib.hid (by
            have := congrArg List.length HLM.out
            rw [HFC.out.len2, List.length_map] at this
            have := HFC.out.q64
            omega)
          obtain ⟨x, hx⟩ : ∃ x, x = repAt (S2 j) := ⟨_, rfl⟩
          rw [← hx] at h1
          have H1 := Lib.hid h1
          have H2 := Lib.hid h2
          have HX := Lib.hid hx
          generalize T2 j = M at *
          generalize S2 j = s at *
          obtain ⟨PL, hPL⟩ : ∃ PL, PL = T k := ⟨_, rfl⟩
          rw [← hPL] at HW
          have HPE := Lib.hid hPL
          clear h1 h2 hx hlt hj hPL
          have HWd := Lib.hid (HW.out.call rrd_ok ((Below.refl wr.heap.size wr).drew))
          have HC : Hid (Calls Tryd.prog 61 #[.pointer (some ⟨a, 0, none⟩)] wr.drew fun e w' => ∃ A z, e = .returned (.agg (repv x.client x.num x.code A x.vals.length z)) ∧ SeeV B w' A x.vals ∧ TW RRd w B a r b E mA mz V pv PL rv L (S2 (j + 1)) w') := Lib.hid ((rreadrep_any a s.1 s.2 wr.drew HWd.out.rd).mono fun e w' hi => HWd.out.rep HX.out H2.out hi)
          have c1 : wr.drew.cell? ⟨b, 1, none⟩ = some rv := HWd.out.box.cell 1
          clear HX H2 HW
          go_upto_region 13 with (go_at_call 59; (with_reducible refine (HGK.out).mono ?_); rintro e wg ⟨rfl, rfl⟩)
          clear HGK
          refine wp_region_held_drew (S := fun _ => True) (by kernel_rfl) trivial (fun hS => ?_)
          (refine wpAnyH_take (i := 0) (v := .pointer (some ⟨b, 1, none⟩)) rfl (by kernel_rfl) (by kernel_rfl) (by kernel_rfl) (fun _ _ _ h => h) (Or.inl ⟨by kernel_rfl, fun w hSw => by go_simp⟩) hS ?_)
          (try simp only [Act.put])
          (refine wpAnyH_take (i := 2) (v := .pointer (some ⟨a, 0, none⟩)) rfl (by kernel_rfl) (by kernel_rfl) (by kernel_rfl) (fun _ _ _ h => h) (Or.inl ⟨by kernel_rfl, fun w hSw => by go_simp⟩) hS ?_)
          (try simp only [Act.put])
          refine wpAnyH_ready (rs := [1, 3]) (by decide +kernel) (by simp) (AllReadyH.cons rfl (fun K hK => ?_) (AllReadyH.cons rfl (fun K hK => ?_) AllReadyH.nil))
          · go_simp
            refine hK.out _ _ (trivial) (fun hS => ?_)
            clear hK K
            (try simp only [Act.put])
            refine wpAnyH_ready (rs := [3]) (by decide +kernel) (by simp) (AllReadyH.cons rfl (fun K hK => ?_) AllReadyH.nil)
            go_simp
            (go_at_call 61; (with_reducible refine (HC.out).mono ?_); rintro e w6 ⟨xA, xz, rfl, hv6, hw6⟩)
            have HW6 := Lib.hid hw6
            have c16 : w6.cell? ⟨b, 1, none⟩ = some rv := hw6.box.cell 1
            obtain ⟨hbs, pA, n, c2, w7, hap, hc7, hf7, hw7⟩ := hw6.pushR rrd_ok ⟨x, xA, xz⟩ hv6 (by have := HLL.out; omega)
            simp only at hbs hap
            have c17 : (w6.alloc (.cells (repv x.client x.num x.code xA x.vals.length xz) 67)).cell? ⟨b, 1, none⟩ = some rv := (hw6.box.alloc _).cell 1
            have HW7 := Lib.hid hw7
            clear hv6 hw6 hw7
            refine hK.out _ _ (hS) (fun hS => ?_)
            clear hK K
            (try simp only [Act.put])
            refine wpAnyH_ready (rs := [4]) (by decide +kernel) (by simp) (AllReadyH.cons rfl (fun K hK => ?_) AllReadyH.nil)
            go_simp
            refine hK.out _ _ (trivial) (fun hS => ?_)
            clear hK K
            (try simp only [Act.put])
            refine wpAnyH_ready (rs := [5]) (by decide +kernel) (by simp) (AllReadyH.cons rfl (fun K hK => ?_) AllReadyH.nil)
            go_simp
            refine hK.out _ _ (trivial) (fun hS => ?_)
            clear hK K
            (try simp only [Act.put])
            (refine wpAnyH_take (i := 6) (v := .pointer (some ⟨b, 1, none⟩)) rfl (by kernel_rfl) (by kernel_rfl) (by kernel_rfl) (fun _ _ _ h => h) (Or.inl ⟨by kernel_rfl, fun w hSw => by go_simp⟩) hS ?_)
            (try simp only [Act.put])
            refine wpAnyH_ready (rs := [7]) (by decide +kernel) (by simp) (AllReadyH.cons rfl (fun K hK => ?_) AllReadyH.nil)
            go_simp
            refine hK.out _ _ (trivial) (fun hS => ?_)
            clear hK K
            (try simp only [Act.put])
            refine wpAnyH_done (by kernel_rfl) ?_ _
            clear hap hbs hc7 hf7 c1 c16 c17 HC HWd HW6
            generalize w7.setCell ⟨b, 1, none⟩ (.slice pA n c2) = w8 at *
            have HLM2 : Hid ((L ++ [(⟨x, xA, xz⟩ : RepM)]).map RepM.x = T2 (j + 1)) := Lib.hid (by rw [H1.out, List.map_append, HLM.out]; rfl)
            clear HLM H1
            rw [HPE.out] at HW7
            go_wp2
            go_roundw
            case rel => exact ⟨j + 1, _, _, HLT.out, by go_num, HLM2, HW7⟩
            case measure => have := HLT.out; simp [intOf]; omega
          · go_simp
            (go_at_call 61; (with_reducible refine (HC.out).mono ?_); rintro e w6 ⟨xA, xz, rfl, hv6, hw6⟩)
            have HW6 := Lib.hid hw6
            have c16 : w6.cell? ⟨b, 1, none⟩ = some rv := hw6.box.cell 1
            obtain ⟨hbs, pA, n, c2, w7, hap, hc7, hf7, hw7⟩ := hw6.pushR rrd_ok ⟨x, xA, xz⟩ hv6 (by have := HLL.out; omega)
            simp only at hbs hap
            have c17 : (w6.alloc (.cells (repv x.client x.num x.code xA x.vals.length xz) 67)).cell? ⟨b, 1, none⟩ = some rv := (hw6.box.alloc _).cell 1
            have HW7 := Lib.hid hw7
            clear hv6 hw6 hw7
            refine hK.out _ _ (hS) (fun hS => ?_)
            clear hK K
            (try simp only [Act.put])
            refine wpAnyH_ready (rs := [1, 4]) (by decide +kernel) (by simp) (AllReadyH.cons rfl (fun K hK => ?_) (AllReadyH.cons rfl (fun K hK => ?_) AllReadyH.nil))
            · go_simp
              refine hK.out _ _ (trivial) (fun hS => ?_)
              clear hK K
              (try simp only [Act.put])
              refine wpAnyH_ready (rs := [4]) (by decide +kernel) (by simp) (AllReadyH.cons rfl (fun K hK => ?_) AllReadyH.nil)
              go_simp
              refine hK.out _ _ (trivial) (fun hS => ?_)
              clear hK K
              (try simp only [Act.put])
              refine wpAnyH_ready (rs := [5]) (by decide +kernel) (by simp) (AllReadyH.cons rfl (fun K hK => ?_) AllReadyH.nil)
              go_simp
              refine hK.out _ _ (trivial) (fun hS => ?_)
              clear hK K
              (try simp only [Act.put])
              (refine wpAnyH_take (i := 6) (v := .pointer (some ⟨b, 1, none⟩)) rfl (by kernel_rfl) (by kernel_rfl) (by kernel_rfl) (fun _ _ _ h => h) (Or.inl ⟨by kernel_rfl, fun w hSw => by go_simp⟩) hS ?_)
              (try simp only [Act.put])
              refine wpAnyH_ready (rs := [7]) (by decide +kernel) (by simp) (AllReadyH.cons rfl (fun K hK => ?_) AllReadyH.nil)
              go_simp
              refine hK.out _ _ (trivial) (fun hS => ?_)
              clear hK K
              (try simp only [Act.put])
              refine wpAnyH_done (by kernel_rfl) ?_ _
              clear hap hbs hc7 hf7 c1 c16 c17 HC HWd HW6
              generalize w7.setCell ⟨b, 1, none⟩ (.slice pA n c2) = w8 at *
              have HLM2 : Hid ((L ++ [(⟨x, xA, xz⟩ : RepM)]).map RepM.x = T2 (j + 1)) := Lib.hid (by rw [H1.out, List.map_append, HLM.out]; rfl)
              clear HLM H1
              rw [HPE.out] at HW7
              go_wp2
              go_roundw
              case rel => exact ⟨j + 1, _, _, HLT.out, by go_num, HLM2, HW7⟩
              case measure => have := HLT.out; simp [intOf]; omega
            · go_simp
              refine hK.out _ _ (trivial) (fun hS => ?_)
              clear hK K
              (try simp only [Act.put])
              refine wpAnyH_ready (rs := [1]) (by decide +kernel) (by simp) (AllReadyH.cons rfl (fun K hK => ?_) AllReadyH.nil)
              go_simp
              refine hK.out _ _ (trivial) (fun hS => ?_)
              clear hK K
              (try simp only [Act.put])
              refine wpAnyH_ready (rs := [5]) (by decide +kernel) (by simp) (AllReadyH.cons rfl (fun K hK => ?_) AllReadyH.nil)
              go_simp
              refine hK.out _ _ (trivial) (fun hS => ?_)
              clear hK K
              (try simp only [Act.put])
              (refine wpAnyH_take (i := 6) (v := .pointer (some ⟨b, 1, none⟩)) rfl (by kernel_rfl) (by kernel_rfl) (by kernel_rfl) (fun _ _ _ h => h) (Or.inl ⟨by kernel_rfl, fun w hSw => by go_simp⟩) hS ?_)
              (try simp only [Act.put])
              refine wpAnyH_ready (rs := [7]) (by decide +kernel) (by simp) (AllReadyH.cons rfl (fun K hK => ?_) AllReadyH.nil)
              go_simp
              refine hK.out _ _ (trivial) (fun hS => ?_)
              clear hK K
              (try simp only [Act.put])
              refine wpAnyH_done (by kernel_rfl) ?_ _
              clear hap hbs hc7 hf7 c1 c16 c17 HC HWd HW6
              generalize w7.setCell ⟨b, 1, none⟩ (.slice pA n c2) = w8 at *
              have HLM2 : Hid ((L ++ [(⟨x, xA, xz⟩ : RepM)]).map RepM.x = T2 (j + 1)) := Lib.hid (by rw [H1.out, List.map_append, HLM.out]; rfl)
              clear HLM H1
              rw [HPE.out] at HW7
              go_wp2
              go_roundw
              case rel => exact ⟨j + 1, _, _, HLT.out, by go_num, HLM2, HW7⟩
              case measure => have := HLT.out; simp [intOf]; omega
        · have i1 : ¬ (j : Int) < (Q : Int) := by omega
          have i1d : decide ((j : Int) < (Q : Int)) = false := decide_eq_false i1
          have hje : j = Q := by omega
          subst hje
          clear hj hlt
          have HEN := Lib.hid (rend_any a (S2 j).1 (S2 j).2 wr HW.out.rd)
          obtain ⟨en, hen⟩ : ∃ en, (!(S2 j).2 && (S2 j).1.isEmpty) = en := ⟨_, rfl⟩
          rw [hen] at HEN
          have HOK : Hid (en = true → PS (T k) → RS (T2 j) → StOk k j T S2 T2) := Lib.hid (fun h h1 h2 => ⟨by rw [hen]; exact h, h1, h2⟩)
          have HNO : Hid (StOk k j T S2 T2 → en = true ∧ PS (T k) ∧ RS (T2 j)) := Lib.hid (fun h => ⟨by rw [← hen]; exact h.1, h.2⟩)
          clear hen
          generalize (S2 j) = s at *
          have HPL : Hid ((T k).length ≤ 256) := Lib.hid (by rw [HFC.out.len]; exact HFC.out.p256)
          have HRL : Hid (L.length ≤ 64) := Lib.hid (by
            have := congrArg List.length HLM.out
            rw [HFC.out.len2, List.length_map] at this
            have := HFC.out.q64
            omega)
          obtain ⟨PL, hPL⟩ : ∃ PL, PL = T k := ⟨_, rfl⟩
          rw [← hPL] at HW HPL HOK HNO
          have HPE := Lib.hid hPL
          have HM := Lib.hid HLM.out
          clear HLM HFC hPL HGD
          obtain ⟨pA, pc, rfl⟩ := HW.out.po.slice
          obtain ⟨rA, rc, rfl⟩ := HW.out.ro.slice
          have HRI : Hid (∀ w', TW RRd w B a r b E mA mz V (.slice pA PL.length pc) PL (.slice rA L.length rc) L s w' → Calls Tryd.prog 63 #[.agg (stV pA PL.length pc rA L.length rc E mA V.length mz)] w' (RisesPost ⟨PL, pA, pc, L, rA, rc, E, V, mA, mz⟩ w')) := Lib.hid (fun w' hw => rises_any ⟨PL, pA, pc, L, rA, rc, E, V, mA, mz⟩ (by show PL.length ≤ _; have := HPL.out; omega) (by show L.length ≤ _; have := HRL.out; omega) w' ⟨EK.Own.see hw.po, EK.Own.see hw.ro, fun m hm => (hw.vs m hm).1, EK.Own.see hw.mo⟩)
          cases en with
          | false =>
            have HNK : Hid (¬ StOk k j T S2 T2) := Lib.hid (fun h => by have := (HNO.out h).1; cases this)
            obtain ⟨wz, hst, hb, hbz⟩ := HR0.out _ _ _ _ _ _ HW.out
            have HBZ := Lib.hid hb
            have HFZ := Lib.hid hbz
            clear hb hbz HR0 HOK HNO HRI
            go_wp2_with (go_at_call 62; (with_reducible refine (HEN.out).mono ?_); rintro e wg ⟨rfl, rfl⟩)
            exact ret_st2 rfl rfl rfl rfl HBZ.out ⟨⟨[], none, 0, [], none, 0, 0, [], none, 0⟩, 4, rfl, .inr ⟨HNK.out, rfl, rfl⟩, ⟨.inl rfl, .inl rfl, fun m hm => (by cases hm), .inl rfl⟩, HFZ.out⟩
          | true =>
            have HOKT : Hid (PS PL → RS (T2 j) → StOk k j T S2 T2) := Lib.hid (HOK.out rfl)
            have HNOT : Hid (StOk k j T S2 T2 → PS PL ∧ RS (T2 j)) := Lib.hid (fun h => (HNO.out h).2)
            clear HOK HNO
            have lst := HW.out.box.l_st
            go_wp2_with (first
              | (go_at_call 62; (with_reducible refine (HEN.out).mono ?_); rintro e wg ⟨rfl, rfl⟩)
              | (go_at_call 63; (with_reducible refine (HRI.out _ HW.out).mono ?_); rintro e w7 ⟨r2, rfl, hr2, hb7⟩; have HR2 := Lib.hid hr2; have HW7 := Lib.hid (HW.out.call rrd_ok hb7); clear hr2 hb7; cases r2; (focus (have HNK : Hid (¬ StOk k j T S2 T2) := Lib.hid (fun h => by have h9 := HR2.out.2 ⟨(HNOT.out h).1, by show RS (L.map RepM.x); rw [HM.out]; exact (HNOT.out h).2⟩; cases h9); obtain ⟨wz, hst, hb, hbz⟩ := HR0.out _ _ _ _ _ _ HW7.out; have HBZ := Lib.hid hb; have HFZ := Lib.hid hbz; clear hb hbz)); rotate_left; (focus (have HYK : Hid (StOk k j T S2 T2) := Lib.hid (by have h9 := HR2.out.1 rfl; exact HOKT.out h9.ps (by rw [← HM.out]; exact h9.rs)); have lst7 := HW7.out.box.l_st; obtain ⟨wz, hst, hb, hg⟩ := HW7.out.out.s_st rfl pA PL.length pc rA L.length rc E mA V.length mz; have HSZ : Hid ((⟨PL, pA, pc, L, rA, rc, E, V, mA, mz⟩ : StM).See wz wz.heap.size) := Lib.hid (HW7.out.see_out hg); have HPX : Hid ((⟨PL, pA, pc, L, rA, rc, E, V, mA, mz⟩ : StM).pl = ⟨T k, T2 j, E, V⟩) := Lib.hid (by unfold StM.pl; rw [HM.out, HPE.out]); have HBZ := Lib.hid hb; have HFZ := Lib.hid (HW7.out.far.trans (below_only hg HW7.out.hr HW7.out.far.size)); clear hb hg))))
            all_goals first
              | exact ret_st2 rfl rfl rfl rfl HBZ.out ⟨⟨[], none, 0, [], none, 0, 0, [], none, 0⟩, 4, rfl, .inr ⟨HNK.out, rfl, rfl⟩, ⟨.inl rfl, .inl rfl, fun m hm => (by cases hm), .inl rfl⟩, HFZ.out⟩
              | exact ret_st2 rfl rfl rfl rfl HBZ.out ⟨⟨PL, pA, pc, L, rA, rc, E, V, mA, mz⟩, 0, rfl, .inl ⟨HYK.out, rfl, HPX.out⟩, HSZ.out, HFZ.out⟩
end Go.Proofs.YtlogceoeodjeoaaDoor
