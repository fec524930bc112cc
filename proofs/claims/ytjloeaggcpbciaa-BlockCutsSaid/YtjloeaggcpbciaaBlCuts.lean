/-
  BlockCuts: the walk.
-/
import Derived.Test.YtjloeaggcpbciaaBC
import Derived.Test.YtjloeaggcpbciaaBD
import Derived.Test.YtjloeaggcpbciaaBB
import Derived.Test.YtjloeaggcpbciaaSD
namespace Go.Proofs.Ytjloeaggcpbciaa
open Go.RowKit Go.Sort

/-- Bytes as elements of a row. -/
noncomputable def BK : EK UInt8 where
  e := 5
  sl := 27
  k := 1
  bys := 1
  z := .int .u8 0
  enc := fun b => [bv b]
  hk := by decide
  und := Try.underlying27
  els := by kernel_rfl
  info := by kernel_rfl
  hzs := rfl
  zone := by
    intro v hv
    simp only [Value.cells, List.mem_cons, List.not_mem_nil, or_false] at hv
    rcases hv with rfl
    rfl
  len := fun _ => rfl
  one := by
    intro x v hv
    simp only [List.mem_cons, List.not_mem_nil, or_false] at hv
    rcases hv with rfl
    rfl
  hby := by decide
set_option maxRecDepth 100000 in
theorem BK_flat (xs : List UInt8) : BK.flat xs = xs.map bv := by
  show xs.flatMap (fun s => [bv s]) = _
  induction xs with
  | nil => rfl
  | cons x r ih => rw [List.flatMap_cons, ih]; rfl
set_option maxRecDepth 100000 in
theorem BK_see {w : World} {B : Nat} {A : Option Addr} {xs : List UInt8} (h : Sees w B A (xs.map bv)) : BK.See w B A xs := by
  show Sees w B A (BK.flat xs)
  rw [BK_flat]
  exact h
set_option maxRecDepth 100000 in
theorem BK_sees {w : World} {B : Nat} {A : Option Addr} {xs : List UInt8} (h : BK.See w B A xs) : Sees w B A (xs.map bv) := by
  have h2 : Sees w B A (BK.flat xs) := h
  rw [BK_flat] at h2
  exact h2

attribute [local go_sem ↓] bsT_def apAll_def

set_option maxRecDepth 100000 in
/-- append(append([]byte{}, all...), 7): two literals and two appends. -/
theorem one_more (T : List UInt8) (A : Option Addr) (c : Nat) (w : World) (hS : Sees w w.heap.size A (T.map bv)) (hl : T.length ≤ 70368744177664) :
    (bsT 27 0 #[]).run Try.prog w = .ok (.slice (some ⟨w.heap.size, 0, none⟩) 0 0) (w.alloc (.cells #[] 5)) ∧
    ∃ A1 c1 w1, (apAll #[27, 27] 27 #[.slice (some ⟨w.heap.size, 0, none⟩) 0 0, .slice A T.length c]).run Try.prog (w.alloc (.cells #[] 5)) = .ok (.slice A1 T.length c1) w1 ∧
      (bsT 27 1 #[(0, .int .u8 7)]).run Try.prog w1 = .ok (.slice (some ⟨w1.heap.size, 0, none⟩) 1 1) (w1.alloc (.cells #[.int .u8 7] 5)) ∧
      ∃ A2 c2 w2, (apAll #[27, 27] 27 #[.slice A1 T.length c1, .slice (some ⟨w1.heap.size, 0, none⟩) 1 1]).run Try.prog (w1.alloc (.cells #[.int .u8 7] 5)) = .ok (.slice A2 (T.length + 1) c2) w2 ∧
        Sees w2 w2.heap.size A2 ((T ++ [7]).map bv) ∧ Below w.heap.size w w2 := by
  refine ⟨BK.build0 w, ?_⟩
  have hF0 : Below w.heap.size w (w.alloc (.cells #[] 5)) := (Below.refl _ _).alloc (Nat.le_refl _) _
  have ho0 : BK.Own (w.alloc (.cells #[] 5)) w.heap.size (.slice (some ⟨w.heap.size, 0, none⟩) 0 0) [] := BK.own0 w (Nat.le_refl _)
  obtain ⟨v1, w1, hr1, ho1, hg1⟩ := BK.append (A := A) (c := c) (es := T) ho0 rfl (EK.See.far (BK_see hS) hF0) (by simp; omega) (by show (0 + T.length) * 1 ≤ _; omega) hF0.size
  rw [List.nil_append] at ho1
  obtain ⟨A1, c1, rfl⟩ := ho1.slice
  have hF1 : Below w.heap.size w w1 := hF0.trans (below_own ho0 hg1 hF0.size)
  have hF2 : Below w1.heap.size w1 (w1.alloc (.cells #[.int .u8 7] 5)) := (Below.refl _ _).alloc (Nat.le_refl _) _
  have ho2 := EK.Own.keep ho1 hF2
  obtain ⟨v2, w2, hr2, ho3, hg2⟩ := BK.append (A := some ⟨w1.heap.size, 0, none⟩) (m := 1) (c := 1) (es := [7]) ho2 rfl (BK.see_one w1 7) (by omega) (by show (T.length + 1) * 1 ≤ _; omega) (Nat.le_trans hF1.size hF2.size)
  obtain ⟨A2, c2, rfl⟩ := ho3.slice
  have hl2 : (T ++ [7]).length = T.length + 1 := by rw [List.length_append]; rfl
  rw [hl2] at hr2
  refine ⟨A1, c1, w1, hr1, BK.build1 7 (.int .u8 7) rfl (by decide) w1, A2, c2, w2, hr2, BK_sees ho3.see, ?_⟩
  exact hF1.trans ((hF2.mono hF1.size).trans (below_own ho2 hg2 (Nat.le_trans hF1.size hF2.size)))

attribute [local go_sem ↓] ldReq_def stReq_def ldBlk_def stBlk_def ldDigest_def stDigest_def bdBlk_def

set_option maxRecDepth 100000 in
/-- A Reader stands when another one is turned: its bytes can't lie in the other's own block. -/
theorem Rd.aside12 {w w' : World} {a r : Nat} {l l2 : List UInt8} {bad bad2 : Bool} (h : Rd w a l bad) (hr : Rd w r l2 bad2) (hne : a ≠ r) (hb : w.grownBy w' (some r)) : Rd w' a l bad := by
  obtain ⟨A, c, h1, h2, h3, h4⟩ := h
  obtain ⟨A', c', k1, _⟩ := hr
  refine ⟨A, c, h1.grown hb (by simpa using hne), h2, h3, ?_⟩
  rcases h4 with h4 | ⟨g, o, rfl, hg, hc⟩
  · exact .inl h4
  · by_cases hgr : g = r
    · subst hgr
      left
      cases l with
      | nil => rfl
      | cons b t =>
        exfalso
        have h0 := hc 0 (bv b) rfl
        rw [k1.cell] at h0
        match o, h0 with
        | 0, h0 => simp [bv] at h0
        | 1, h0 => simp [bv] at h0
        | _ + 2, h0 => simp at h0
    · have hlt := h1.lt
      refine .inr ⟨g, o, rfl, hg, fun j v hj => ?_⟩
      exact hb.cell (hc j v hj) (by simpa using hgr)

set_option maxRecDepth 100000 in
theorem two_laid12 (w : World) (x y : BlkM) : ∃ w1 w2, (stBlk (.pointer (some ⟨w.heap.size, 0, none⟩)) (.agg x.cells.toArray)).run Try.prog ((w.alloc (.cells zblkV 26)).alloc (.cells zblkV 26)) = .ok () w1 ∧
    (stBlk (.pointer (some ⟨w.heap.size + 1, 0, none⟩)) (.agg y.cells.toArray)).run Try.prog w1 = .ok () w2 ∧ Box w2 w.heap.size 26 x.cells.toArray ∧ Box w2 (w.heap.size + 1) 26 y.cells.toArray ∧ Below w.heap.size w w2 := by
  have hX : Box ((w.alloc (.cells zblkV 26)).alloc (.cells zblkV 26)) w.heap.size 26 zblkV := (Box.made w _ _).alloc _
  have hY : Box ((w.alloc (.cells zblkV 26)).alloc (.cells zblkV 26)) (w.heap.size + 1) 26 zblkV := Box.made_at (by simp) _ _
  have hF : Below w.heap.size w ((w.alloc (.cells zblkV 26)).alloc (.cells zblkV 26)) := ((Below.refl _ _).alloc (Nat.le_refl _) _).alloc (by simp) _
  obtain ⟨w1, h1, hb1, hg1⟩ := hX.st_blk zblkV_size x
  have hY1 := hY.grown hg1 (by simp)
  obtain ⟨w2, h2, hb2, hg2⟩ := hY1.st_blk zblkV_size y
  refine ⟨w1, w2, h1, h2, hb1.grown hg2 (by simp), hb2, ?_⟩
  have hf1 := hF.trans (below_only hg1 (Nat.le_refl _) hF.size)
  exact hf1.trans (below_only hg2 (by omega) hf1.size)

set_option maxRecDepth 100000 in
set_option maxHeartbeats 4000000 in
theorem cuts_walk (b : BlkM) (hE : R64 b.x.epoch) (hH : R64 b.x.height) (hn : b.x.reqs.length ≤ 140737488351232) (hnum : ∀ q ∈ b.x.reqs, R64 q.client ∧ R64 q.num ∧ R64 q.kind ∧ R64 q.ck ∧ R64 q.cid ∧ R64 q.cn ∧ R64 q.high) (hq : ∀ q ∈ b.x.reqs, q.key.size ≤ 140737488351232 ∧ q.val.size ≤ 140737488351232 ∧ q.old.size ≤ 140737488351232)
    (n : Int) (w : World) (hB : QSee w w.heap.size b.A b.x.reqs) :
    Calls Try.prog 5 #[.agg b.cells.toArray, .int .i64 n] w fun e w' => e = .returned (.bool true) ∧ Below w.heap.size w w' := by
  obtain ⟨w1, hw1⟩ : ∃ w1, w1 = w.alloc (.cells b.cells.toArray 26) := ⟨_, rfl⟩
  have HG : Hid (Box w1 w.heap.size 26 b.cells.toArray) := by rw [hw1]; exact Box.made _ _ _
  have HF : Hid (Below w.heap.size w w1) := by rw [hw1]; exact (Below.refl _ _).alloc (Nat.le_refl _) _
  have HAL := Lib.hid (alive_any12 w1)
  have HQS := Lib.hid (hB.far HF.out)
  have HGR : Hid (∀ w', Below w1.heap.size w1 w' → Calls Try.prog 7 #[.agg b.cells.toArray, .int .i64 8192] w' (GreatB b w')) := Lib.hid (fun w' hb => great_any12 b hn hq w' (HQS.out.far hb))
  obtain ⟨gd, hgd⟩ : ∃ gd, blkGood b.x = gd := ⟨_, rfl⟩
  have HGD : Hid (∀ w', Below w1.heap.size w1 w' → Calls Try.prog 18 #[.agg b.cells.toArray] w' fun e w'' => e = .returned (.bool gd) ∧ Below w'.heap.size w' w'') := Lib.hid (fun w' hb => by rw [← hgd]; exact rgood_any12 b w' (HQS.out.far hb))
  have HWF : Hid (Few b.x → b.x.Wf) := Lib.hid (few_wf hE hH hnum)
  have HLB : Hid (∀ w', Below w1.heap.size w1 w' → (ldBlk (.pointer (some ⟨w.heap.size, 0, none⟩))).run Try.prog w' = .ok (.agg b.cells.toArray) w') := Lib.hid (fun w' hb => (HG.out.below hb HG.out.lt).ld_blk)
  clear hB hE hH hn hnum hq
  go_enter Try.func5, Try.ntmps5
  go_upto_region 1 with fail
  change Code.wp _ _ _ _ (w.alloc (.cells b.cells.toArray 26))
  rw [← hw1]
  clear hw1
  rcases gd with _ | _
  · go_wp2_with (first
      | (go_at_call 6; (with_reducible refine (HAL.out).mono ?_); rintro e w2 ⟨rfl, hb⟩; have HB2 := Lib.hid hb; have l2 := HLB.out w2 hb; clear hb)
      | (go_at_call 7; (with_reducible refine (HGR.out _ HB2.out).mono ?_); rintro e w3 ⟨g, rfl, hg, hb⟩; have HB3 := Lib.hid (HB2.out.trans (hb.mono HB2.out.size)); have l3 := HLB.out w3 HB3.out; clear hb hg; cases g)
      | (go_at_call 18; (with_reducible refine (HGD.out _ HB3.out).mono ?_); rintro e w4 ⟨rfl, hb⟩; have HB4 := Lib.hid (HB3.out.trans (hb.mono HB3.out.size)); clear hb))
    all_goals (go_ret; first | exact ⟨rfl, HF.out.trans (HB4.out.mono HF.out.size)⟩ | exact ⟨rfl, HF.out.trans (HB3.out.mono HF.out.size)⟩)
  go_upto_region 5 with (first
    | (go_at_call 6; (with_reducible refine (HAL.out).mono ?_); rintro e w2 ⟨rfl, hb⟩; have HB2 := Lib.hid hb; have l2 := HLB.out w2 hb; clear hb)
    | (go_at_call 7; (with_reducible refine (HGR.out _ HB2.out).mono ?_); rintro e w3 ⟨g, rfl, hg, hb⟩; have HB3 := Lib.hid (HB2.out.trans (hb.mono HB2.out.size)); have l3 := HLB.out w3 HB3.out; cases g; (focus (have HFW := Lib.hid (hg rfl))); (all_goals clear hb hg))
    | (go_at_call 18; (with_reducible refine (HGD.out _ HB3.out).mono ?_); rintro e w4 ⟨rfl, hb⟩; have HB4 := Lib.hid (HB3.out.trans (hb.mono HB3.out.size)); clear hb))
  all_goals (try (go_ret; exact ⟨rfl, HF.out.trans (HB3.out.mono HF.out.size)⟩))
  clear HAL HGR HGD l2 l3 HB2 HB3
  have HWF := Lib.hid (HWF.out HFW.out)
  have HWN : Hid (Wr (w4.alloc (.cells #[.slice none 0 0] 40)) w4.heap.size w4.heap.size []) := wr_new (Box.made _ _ _) (Nat.le_refl _)
  have HBN : Hid (Below w1.heap.size w1 (w4.alloc (.cells #[.slice none 0 0] 40))) := HB4.out.alloc HB4.out.size _
  have HSZ : Hid (w1.heap.size ≤ w4.heap.size) := HB4.out.size
  have HQN : QSee (w4.alloc (.cells #[.slice none 0 0] 40)) w4.heap.size b.A b.x.reqs := Sees.more (Sees.below HQS.out HBN.out) HSZ.out
  have hwr := write_any12 w4.heap.size w4.heap.size [] b _ HWN.out HQN (by simp) (few_small HFW.out)
  rw [List.nil_append] at hwr
  have HWR := Lib.hid hwr
  have l3 := HLB.out _ HBN.out
  have q1 := (blk_back b.x HWF.out [7]).1
  have q2 := (blk_back b.x HWF.out [7]).2 hgd
  rw [hgd, if_pos rfl] at q1
  have Q1 := Lib.hid q1
  have Q2 := Lib.hid q2
  have HCT : Hid (∀ i, i < (blkB b.x).length → (bkF ((blkB b.x).take i) false).2 = true) := Lib.hid (fun i hi => blk_cut b.x HWF.out hgd hi)
  have HTL : Hid ((blkB b.x).length ≤ 4294967416) := Lib.hid (few_small HFW.out).bytes
  generalize blkB b.x = T at *
  clear q1 q2 hgd hwr HQN HB4 HWF
  go_upto_region 7 with (go_at_call 16; (with_reducible refine (HWR.out).mono ?_); rintro e w5 ⟨rfl, hw, hf⟩; have HB5 := Lib.hid (HBN.out.trans ((hf.below HWN.out).mono HSZ.out)); have HBY := Lib.hid (bytes_any w4.heap.size w4.heap.size T w5 hw (by have := HTL.out; omega)); clear hw hf)
  clear HWR HWN HBN l3
  go_upto_region 8 with (go_at_call 17; (with_reducible refine (HBY.out).mono ?_); rintro e w6 ⟨A6, c6, rfl, hc6, _, hsee, hb⟩; have HB6 := Lib.hid (HB5.out.trans (hb.mono HB5.out.size)); have HT6 := Lib.hid hsee; have HC6 := Lib.hid hc6; clear hsee hb hc6)
  clear HBY HB5
  by_cases h0 : n < 0
  · have e0 : decide (n < 0) = true := decide_eq_true h0
    go_wp2
    go_ret
    exact ⟨rfl, HF.out.trans (HB6.out.mono HF.out.size)⟩
  have e0 : decide (n < 0) = false := decide_eq_false h0
  by_cases h1 : (T.length : Int) ≤ n
  · have e1 : decide ((T.length : Int) ≤ n) = true := decide_eq_true h1
    go_wp2
    go_ret
    exact ⟨rfl, HF.out.trans (HB6.out.mono HF.out.size)⟩
  have e1 : decide ((T.length : Int) ≤ n) = false := decide_eq_false h1
  obtain ⟨k, rfl⟩ : ∃ k : Nat, n = (k : Int) := ⟨n.toNat, by omega⟩
  have e2 : decide (T.length ≤ k) = false := decide_eq_false (by omega)
  have HL7 : Hid ((T ++ [7]).length = T.length + 1) := Lib.hid (by rw [List.length_append]; rfl)
  have HK : Hid (k < T.length) := Lib.hid (by omega)
  have hsl := fun w' => slice_upto (A := A6) (n := T.length) (c := c6) (i := k) (by have := HC6.out; have := HK.out; omega) w'
  have k0 : (0 : Int) ≤ (k : Int) := by omega
  have k1 : (k : Int) ≤ (c6 : Int) := by have := HC6.out; omega
  have hkl : (T.take k).length = k := by rw [List.length_take]; have := HK.out; omega
  have hrd := read_any w6.heap.size A6 (T.take k) c6 w6 (by have h := Sees.take HT6.out k; rw [← List.map_take] at h; exact h) (Nat.le_refl _) (by have := HTL.out; have := HK.out; omega)
  rw [hkl] at hrd
  have HRD1 := Lib.hid hrd
  clear hrd h0 h1 hkl
  go_upto_region 11 with (first
    | (go_at_call 8; (with_reducible refine (HRD2.out).mono ?_); rintro e w9 ⟨r2, rfl, hr, hge, hb⟩; have HR2 := Lib.hid hr; have HR12 : Hid (r1 < r2) := Lib.hid (Nat.lt_of_lt_of_le HR1.out.lt (Nat.le_trans HF78.out.size hge)); have HG2 : Hid (w1.heap.size ≤ r2) := Lib.hid (Nat.le_trans HB8.out.size hge); have HB9 := Lib.hid (HB8.out.trans (hb.mono HB8.out.size)); replace HR1 := Lib.hid (HR1.out.below (HF78.out.trans (hb.mono HF78.out.size)) HR1.out.lt); clear hr hge hb)
    | (go_at_call 8; (with_reducible refine (HRD1.out).mono ?_); rintro e w7 ⟨r1, rfl, hr, hge, hb⟩; have HR1 := Lib.hid hr; have HG1 := Lib.hid (Nat.le_trans HB6.out.size hge); have HB7 := Lib.hid (HB6.out.trans (hb.mono HB6.out.size)); obtain ⟨hb0, A1, c1, wa, hap1, hb1, A2, c2, w8, hap2, hse, hf78⟩ := one_more T A6 c6 w7 ((HT6.out.below hb).more hb.size) (by have := HTL.out; omega); have HF78 := Lib.hid hf78; have HB8 := Lib.hid (HB7.out.trans (hf78.mono HB7.out.size)); have hrd2 := read_any w8.heap.size A2 (T ++ [7]) c2 w8 hse (Nat.le_refl _) (by have := HTL.out; rw [HL7.out]; omega); rw [HL7.out] at hrd2; have HRD2 := Lib.hid hrd2; clear hrd2; clear hr hge hb hse hf78))
  clear HRD1 HRD2 HB7 HB8 HB6 HF78 HT6 HC6 HTL HL7 hsl e0 e1 e2 k0 k1 hb0 hap1 hb1 hap2
  have hx1 := blkread_any r1 (T.take k) false w9 HR1.out
  have hf1 := HCT.out k HK.out
  rw [bkX_bad hf1] at hx1
  obtain ⟨F1, hF1⟩ : ∃ F1, bkF (T.take k) false = F1 := ⟨_, rfl⟩
  rw [hF1] at hx1 hf1
  have HF1 := Lib.hid hf1
  have HX1 := Lib.hid hx1
  have HX2 : Hid (∀ w', Rd w' r2 (T ++ [7]) false → Calls Try.prog 10 #[.pointer (some ⟨r2, 0, none⟩)] w' (BlkIs Rd r2 b.x ([7], false) w')) := Lib.hid (fun w' h => by
    have h2 := blkread_any r2 (T ++ [7]) false w' h
    rw [Q1.out, Q2.out] at h2
    exact h2)
  have hzv := zero_blk
  clear hx1 hF1 hf1 HCT HK Q1 Q2
  go_upto_region 12 with (first
    | (go_at_call 10; (with_reducible refine (HX2.out _ HR2b.out).mono ?_); rintro e w11 ⟨A2x, z2x, rfl, ho, hr, hg⟩; obtain ⟨w12, w13, hst1, hst2, hbx, hby, hf⟩ := two_laid12 w11 ⟨zblk, A1x, z1x⟩ ⟨b.x, A2x, z2x⟩; have HBX := Lib.hid hbx; have HBY := Lib.hid hby; have hr13 := (HR1b.out.only hg HR12.out).below hf (HR1b.out.only hg HR12.out).lt; rw [HF1.out] at hr13; have HR13 := Lib.hid hr13; clear hr13; have HR23 := Lib.hid (hr.below hf hr.lt); have HS13 := Lib.hid ((EK.Own.see ho).far hf); have HB13 : Hid (Below w1.heap.size w1 w13) := Lib.hid ((HB10.out.trans (below_only hg HG2.out HB10.out.size)).trans (hf.mono (HB10.out.trans (below_only hg HG2.out HB10.out.size)).size)); clear ho hr hg hbx hby hf)
    | (go_at_call 10; (with_reducible refine (HX1.out).mono ?_); rintro e w10 ⟨A1x, z1x, rfl, _, hr, hg⟩; have HR1b := Lib.hid hr; have HR2b := Lib.hid (HR2.out.aside12 HR1.out (Ne.symm (Nat.ne_of_lt HR12.out)) hg); have HB10 := Lib.hid (HB9.out.trans (below_only hg HG1.out HB9.out.size)); clear hr hg))
  clear HX1 HX2 HR1 HR2 HR1b HR2b HR12 HG1 HG2 HB9 HB10 hst1 hst2 hzv HF1
  have HL : Hid (∀ w', Below w13.heap.size w13 w' → (ldBlk (.pointer (some ⟨w11.heap.size, 0, none⟩))).run Try.prog w' = .ok (.agg (BlkM.mk zblk A1x z1x).cells.toArray) w' ∧ (ldBlk (.pointer (some ⟨w11.heap.size + 1, 0, none⟩))).run Try.prog w' = .ok (.agg (BlkM.mk b.x A2x z2x).cells.toArray) w' ∧ (ldBlk (.pointer (some ⟨w.heap.size, 0, none⟩))).run Try.prog w' = .ok (.agg b.cells.toArray) w') :=
    Lib.hid (fun w' hb => ⟨(HBX.out.below hb HBX.out.lt).ld_blk, (HBY.out.below hb HBY.out.lt).ld_blk, HLB.out _ (HB13.out.trans (hb.mono HB13.out.size))⟩)
  have hs1 := same_any12 ⟨zblk, A1x, z1x⟩ zblkM (by simp [zblk]) w13 (.inl rfl) (.inl rfl)
  rw [decide_eq_true (show (BlkM.mk zblk A1x z1x).x = zblkM.x from rfl), zblkM_cells] at hs1
  have HS1 := Lib.hid hs1
  have HS2 : Hid (∀ w', Below w13.heap.size w13 w' → Calls Try.prog 9 #[.agg (BlkM.mk b.x A2x z2x).cells.toArray, .agg b.cells.toArray] w' fun e w'' => e = .returned (.bool true) ∧ Below w'.heap.size w' w'') := Lib.hid (fun w' hb => by
    have h := same_any12 ⟨b.x, A2x, z2x⟩ b (by have := HFW.out.len; show b.x.reqs.length ≤ _; omega) w' (HS13.out.far hb) (HQS.out.far (HB13.out.trans (hb.mono HB13.out.size)))
    rw [decide_eq_true (show (BlkM.mk b.x A2x z2x).x = b.x from rfl)] at h
    exact h)
  have HGA : Hid (∀ w', Below w13.heap.size w13 w' → Calls Try.prog 12 #[.pointer (some ⟨r1, 0, none⟩)] w' fun e w'' => e = .returned (.bool false) ∧ w' = w'') := Lib.hid (fun w' hb => good_any r1 _ true w' (HR13.out.below hb HR13.out.lt))
  have HGB : Hid (∀ w', Below w13.heap.size w13 w' → Calls Try.prog 12 #[.pointer (some ⟨r2, 0, none⟩)] w' fun e w'' => e = .returned (.bool true) ∧ w' = w'') := Lib.hid (fun w' hb => good_any r2 [7] false w' (HR23.out.below hb HR23.out.lt))
  have HEB : Hid (∀ w', Below w13.heap.size w13 w' → Calls Try.prog 14 #[.pointer (some ⟨r2, 0, none⟩)] w' fun e w'' => e = .returned (.bool false) ∧ w' = w'') := Lib.hid (fun w' hb => rdend_any r2 [7] false w' (HR23.out.below hb HR23.out.lt))
  have HFZ := Lib.hid (HF.out.trans (HB13.out.mono HF.out.size))
  obtain ⟨l1, l2, l3⟩ := HL.out w13 (Below.refl _ _)
  have hbd := bd_blk0
  have HSZ2 := Lib.hid HF.out.size
  have HSZ3 := Lib.hid HB13.out.size
  clear hs1 HBX HBY HR13 HR23 HS13 HB13 HLB HQS HG HFW HWF HSZ HF
  generalize (BlkM.mk zblk A1x z1x).cells.toArray = ca at *
  generalize (BlkM.mk b.x A2x z2x).cells.toArray = cb at *
  generalize b.cells.toArray = cc at *
  generalize w11.heap.size = s11 at *
  go_wp2_with (first
    | (go_at_call 9; (with_reducible refine (HS2.out _ HB14.out).mono ?_); rintro e w15 ⟨rfl, hb⟩; have HB15 := Lib.hid (HB14.out.trans (hb.mono HB14.out.size)); clear hb)
    | (go_at_call 9; (with_reducible refine (HS1.out).mono ?_); rintro e w14 ⟨rfl, hb⟩; have HB14 := Lib.hid hb; obtain ⟨m1, m2, m3⟩ := HL.out w14 hb; clear hb)
    | (go_at_call 12; (with_reducible refine (HGB.out _ HB15.out).mono ?_); rintro e w16 ⟨rfl, rfl⟩)
    | (go_at_call 12; (with_reducible refine (HGA.out _ HB14.out).mono ?_); rintro e w16 ⟨rfl, rfl⟩)
    | (go_at_call 14; (with_reducible refine (HEB.out _ HB15.out).mono ?_); rintro e w17 ⟨rfl, rfl⟩))
  go_ret
  exact ⟨rfl, HFZ.out.trans (HB15.out.mono HFZ.out.size)⟩
end Go.Proofs.Ytjloeaggcpbciaa
