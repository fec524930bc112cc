/-
  StateLists.
-/
import Derived.Test.YtbgbidgggjkmmaaDoorStAlive
import Derived.Test.YtbgbidgggjkmmaaDoorNG
namespace Go.Proofs.YtbgbidgggjkmmaaDoor
open Go.RowKit Go.Sort

def qList (c n : Int) (p : ByteArray) : ReqX := ⟨c, n, 5, p, ⟨#[]⟩, ⟨#[]⟩, 0, 0, 0, zeros, 0, zeros_len⟩
set_option maxRecDepth 100000 in
theorem bd_opL (c n : Int) (p : ByteArray) (w : World) : (bdOp10 #[(0, .int .i64 5), (1, .string p)]).run Tryd.prog w = .ok (.agg (opL (qList c n p)).toArray) w := run_build w _ _ _ (by kernel_rfl)
set_option maxRecDepth 100000 in
theorem bd_qL (c n : Int) (p : ByteArray) (w : World) : (bdReq #[(0, .int .i64 c), (1, .int .i64 n), (2, .agg (opL (qList c n p)).toArray)]).run Tryd.prog w = .ok (.agg (qList c n p).cells.toArray) w := run_build w _ _ _ (by kernel_rfl)

set_option maxRecDepth 100000 in
theorem lists_plain {s s' : StX} {c n : Int} {p : ByteArray} {a r : RepX} {b : Bool} (h : ExeIs s (qList c n p) s' a) (hg : reqGood (qList c n p) = true) (hl : rLook c s.rs = if b = true then some r else none) (hn : ¬ (b = true ∧ n ≤ r.num)) : a.code = 0 ∧ a.vals = begunL p s.ps ∧ s'.ps = s.ps := by
  have e := h.det (fun _ => (by decide : (5 : Int) ≤ 5))
  unfold exeF at e
  rw [if_pos hg] at e
  have hl' : rLook (qList c n p).client s.rs = if b = true then some r else none := hl
  rw [hl'] at e
  have e5 : opF s (qList c n p) = (s, 0, begunL p s.ps) := by
    unfold opF
    have e2 : ¬ (qList c n p).kind = 2 := (by decide : ¬ (5 : Int) = 2)
    have e3 : (qList c n p).kind = 5 := rfl
    rw [if_neg e2, if_pos e3]
    rfl
  rw [e5] at e
  cases b with
  | false =>
    simp only [Bool.false_eq_true, if_false] at e
    injection e with e1 e2
    rw [e1, e2]
    exact ⟨rfl, rfl, rfl⟩
  | true =>
    have h1 : ¬ r.num = n := fun e => hn ⟨rfl, by omega⟩
    have h2 : ¬ n < r.num := fun e => hn ⟨rfl, by omega⟩
    simp only [if_true] at e
    have h1' : ¬ r.num = (qList c n p).num := h1
    have h2' : ¬ (qList c n p).num < r.num := h2
    rw [if_neg h1', if_neg h2'] at e
    injection e with e1 e2
    rw [e1, e2]
    exact ⟨rfl, rfl, rfl⟩

set_option maxRecDepth 100000 in
theorem begun_at (p : ByteArray) (l : List PairX) (k : Nat) (h : k < l.length) (hb : beginsB p (l[k]'h).key = true) : ∃ hm : (begunL p (l.take k)).length < (begunL p l).length, (begunL p l)[(begunL p (l.take k)).length]'hm = (l[k]'h).key := by
  have e : begunL p l = begunL p (l.take k) ++ ((l[k]'h).key :: begunL p (l.drop (k + 1))) := by
    unfold begunL
    conv => lhs; rw [← List.take_append_drop k l, List.filter_append, List.map_append]
    rw [List.drop_eq_getElem_cons h, List.filter_cons, if_pos hb]
    rfl
  refine ⟨by rw [e]; simp, ?_⟩
  rw [List.getElem_of_eq e, List.getElem_append_right (Nat.le_refl _)]
  simp
set_option maxRecDepth 100000 in
/-- A state and a reply are laid, side by side. -/
theorem laid_strp (w : World) (s' : StM) (c n k : Int) (A : Option Addr) (m z : Nat) : ∃ w1 w2,
    (stSt (.pointer (some ⟨w.heap.size, 0, none⟩)) (.agg s'.cells)).run Tryd.prog ((w.alloc (.cells (stV none 0 0 none 0 0 0 none 0 0) 28)).alloc (.cells (repv 0 0 0 none 0 0) 47)) = .ok () w1
    ∧ (stRp (.pointer (some ⟨w.heap.size + 1, 0, none⟩)) (.agg (repv c n k A m z))).run Tryd.prog w1 = .ok () w2
    ∧ Box w2 w.heap.size 28 s'.cells ∧ Box w2 (w.heap.size + 1) 47 (repv c n k A m z) ∧ Below w.heap.size w w2 := by
  have hal : Below w.heap.size w ((w.alloc (.cells (stV none 0 0 none 0 0 0 none 0 0) 28)).alloc (.cells (repv 0 0 0 none 0 0) 47)) := ((Below.refl _ _).alloc (Nat.le_refl _) _).alloc (by simp) _
  have hx := (Box.made w 28 (stV none 0 0 none 0 0 0 none 0 0)).alloc (.cells (repv 0 0 0 none 0 0) 47)
  have hy : Box ((w.alloc (.cells (stV none 0 0 none 0 0 0 none 0 0) 28)).alloc (.cells (repv 0 0 0 none 0 0) 47)) (w.heap.size + 1) 47 (repv 0 0 0 none 0 0) := Box.made_at (by simp) _ _
  obtain ⟨w1, h1, hb1, hg1⟩ := hx.s_st rfl s'.pA s'.ps.length s'.pc s'.rA s'.rs.length s'.rc s'.ep s'.mA s'.ms.length s'.mc
  have hy1 := hy.grown hg1 (fun e => by injection e with e; omega)
  obtain ⟨w2, h2, hb2, hg2⟩ := hy1.s_rp rfl c n k A m z
  have hf1 := hal.trans (below_only hg1 (Nat.le_refl _) hal.size)
  exact ⟨w1, w2, h1, h2, hb1.grown hg2 (fun e => by injection e with e; omega), hb2, hf1.trans (below_only hg2 (by omega) hf1.size)⟩

attribute [local go_sem ↓] ldRp_def stRp_def ldSt_def stSt_def ldReq_def stReq_def bdReq_def bdOp10_def ldPr_def stPr_def

set_option maxRecDepth 100000 in
theorem lists_walk (s : StM) (c n : Int) (p : ByteArray) (w : World) (hz : s.Sz) (hS : s.See w w.heap.size) : Calls Tryd.prog 5 #[.agg s.cells, .int .i64 c, .int .i64 n, .string p] w fun e w' => e = .returned (.bool true) ∧ Below w.heap.size w w' := by
  obtain ⟨w1, hw1⟩ : ∃ w1, w1 = w.alloc (.cells s.cells 28) := ⟨_, rfl⟩
  have HX : Hid (Box w1 w.heap.size 28 s.cells) := by rw [hw1]; exact Box.made w _ _
  have hF : Below w.heap.size w w1 := by rw [hw1]; exact (Below.refl _ _).alloc (Nat.le_refl _) _
  have HS := Lib.hid (hS.far hF)
  have HZ := Lib.hid hz
  have HW := Lib.hid hF
  have b1 := bd_opL c n p
  have b2 := bd_qL c n p
  clear hS hz hF
  go_enter Tryd.func5, Tryd.ntmps5
  go_upto_region 1 with fail
  change Code.wp _ _ _ _ (w.alloc (.cells s.cells 28))
  rw [← hw1]
  clear hw1
  go_upto_region 3 with (go_at_call 6; (with_reducible refine (alive10_any _).mono ?_); rintro e w2 ⟨rfl, hb2⟩; replace HX := Lib.hid (HX.out.below hb2 HX.out.lt); replace HS := Lib.hid (HS.out.far hb2); replace HW := Lib.hid (HW.out.trans (hb2.mono HW.out.size)); clear hb2)
  obtain ⟨w3, hst, hb3, hg3⟩ := (Box.made w2 43 zreqV).st_req rfl (qList c n p)
  have hF3 : Below w2.heap.size w2 w3 := ((Below.refl _ _).alloc (Nat.le_refl _) _).trans (below_only hg3 (Nat.le_refl _) (by simp))
  have HQ := Lib.hid hb3
  replace HX := Lib.hid (HX.out.below hF3 HX.out.lt)
  replace HS := Lib.hid (HS.out.far hF3)
  replace HW := Lib.hid (HW.out.trans (hF3.mono HW.out.size))
  clear hb3 hg3 hF3
  go_upto_region 4 with fail
  clear hst b1 b2
  generalize w2.heap.size = b1 at *
  have ls := HX.out.l_st
  go_upto_region 5 with (go_at_call 9; (with_reducible refine (last_any s HZ.out.rs (fun r hr => (HZ.out.vs r hr).1) c w3 HS.out).mono ?_); rintro e w4 ⟨r, lb, rA, rz, rfl, _, hlk, hro, hb4⟩; replace HX := Lib.hid (HX.out.below hb4 HX.out.lt); replace HQ := Lib.hid (HQ.out.below hb4 HQ.out.lt); replace HS := Lib.hid (HS.out.far hb4); have HLK := Lib.hid hlk; obtain ⟨w5, hst, hb5, hf5, _⟩ := laid_rp w4 (repv 0 0 0 none 0 0) rfl r.client r.num r.code rA r.vals.length rz; have HR := Lib.hid hb5; replace HX := Lib.hid (HX.out.below hf5 HX.out.lt); replace HQ := Lib.hid (HQ.out.below hf5 HQ.out.lt); replace HS := Lib.hid (HS.out.far hf5); replace HW := Lib.hid (HW.out.trans ((hb4.trans (hf5.mono hb4.size)).mono HW.out.size)); clear hlk hro hb4 hb5 hf5)
  clear hst ls
  generalize w4.heap.size = b2 at *
  have ls := HX.out.l_st
  have lq := HQ.out.ld_req
  have c1 : w5.cell? ⟨b2, 1, none⟩ = some (.int .i64 r.num) := HR.out.cell 1
  have HG : Hid (Calls Tryd.prog 7 #[.agg s.cells, .slice none 0 0] w5 (GrtPost s [] w5)) := Lib.hid (grt_any s HZ.out [] none 0 (Nat.zero_le _) (fun q hq => (by cases hq)) w5 HS.out (.inl rfl))
  have HGD : Hid (∀ w', Calls Tryd.prog 11 #[.agg (qList c n p).cells.toArray] w' fun e w'' => e = .returned (.bool (reqGood (qList c n p))) ∧ Below w'.heap.size w' w'') := Lib.hid (fun w' => rgood_any9 (qList c n p) w')
  have HL : Hid (∀ w', Below w5.heap.size w5 w' → (ldReq (.pointer (some ⟨b1, 0, none⟩))).run Tryd.prog w' = .ok (.agg (qList c n p).cells.toArray) w' ∧ w'.cell? ⟨b2, 1, none⟩ = some (.int .i64 r.num)) := Lib.hid (fun w' hb => ⟨(HQ.out.below hb HQ.out.lt).ld_req, (HR.out.below hb HR.out.lt).cell 1⟩)
  by_cases HOK : reqGood (qList c n p) = true ∧ ¬ (lb = true ∧ n ≤ r.num)
  · obtain ⟨hgd, hnb⟩ := HOK
    have HPLF : Hid (∀ s' a, s.pl.Ris → ExeIs s.pl (qList c n p) s' a → a.code = 0 ∧ a.vals = begunL p s.ps ∧ s'.ps = s.ps) := Lib.hid (fun s' a hr he => lists_plain he hgd (HLK.out hr.rs) hnb)
    clear HLK
    rw [hgd] at HGD
    have hgeq : lb = false ∨ lb = true ∧ ¬ n ≤ r.num := by
      cases lb
      · exact .inl rfl
      · exact .inr ⟨rfl, fun h => hnb ⟨rfl, h⟩⟩
    clear hgd hnb lq c1
    rcases hgeq with rfl | ⟨rfl, i1⟩
    all_goals
      (go_upto_region 7 with (first
          | (go_at_call 7; (with_reducible refine (HG.out).mono ?_); rintro e w6 ⟨g, rfl, hg, hb6⟩; have HB6 := Lib.hid hb6; have l6 := (HL.out w6 hb6).1; have HW6 := Lib.hid (HW.out.trans (hb6.mono HW.out.size)); cases g; (focus (have HSM := Lib.hid (hg rfl))); (all_goals clear hb6 hg))
          | (go_at_call 11; (with_reducible refine (HGD.out _).mono ?_); rintro e w7 ⟨rfl, hb7⟩; have hb8 := HB6.out.trans (hb7.mono HB6.out.size); have c7 := (HL.out w7 hb8).2; replace HX := Lib.hid (HX.out.below hb8 HX.out.lt); replace HQ := Lib.hid (HQ.out.below hb8 HQ.out.lt); replace HS := Lib.hid (HS.out.far hb8); have HW7 := Lib.hid (HW6.out.trans (hb7.mono HW6.out.size)); clear hb7 hb8)))
    all_goals (try (go_ret; exact ⟨rfl, HW6.out⟩))
    all_goals
      (have ls7 := HX.out.l_st
       have lq7 := HQ.out.ld_req
       have HA := Lib.hid (sapply_any s (HSM.out.1.fits.more (by decide)) HSM.out.2.1 (qList c n p) (fun _ => True) _ (fun _ _ => trivial) (hop_five _ (fun _ => (by decide : (5 : Int) ≤ 5))) HS.out)
       clear HG HGD HL HQ HZ HR
       go_upto_region 8 with (go_at_call 10; (with_reducible refine (HA.out).mono ?_); rintro e w8 ⟨s', a, aA, az, rfl, hx, ho8, hv8, hb8⟩; have HPL := Lib.hid (HPLF.out _ _ HSM.out.2.1 hx); have HX8 := Lib.hid (HX.out.below hb8 HX.out.lt); have HS8 := Lib.hid (HS.out.far hb8); have HV8 := Lib.hid hv8; obtain ⟨w9, w10, hst9, hst10, ht10, hr10, hf10⟩ := laid_strp w8 s' a.client a.num a.code aA a.vals.length az; have HT := Lib.hid ht10; have HP := Lib.hid hr10; replace HX := Lib.hid (HX8.out.below hf10 HX8.out.lt); replace HS := Lib.hid (HS8.out.far hf10); have HV := Lib.hid (EK.Own.keep HV8.out hf10); have HW10 := Lib.hid (HW7.out.trans ((hb8.trans (hf10.mono hb8.size)).mono HW7.out.size)); clear hx ho8 hv8 hb8 ht10 hr10 hf10 HX8 HS8 HV8)
       clear hst9 hst10 HA ls7 lq7 HPLF ls l6
       generalize w8.heap.size = b3 at *
       have HVS : Hid (SK.See w10 w10.heap.size aA (begunL p s.ps)) := Lib.hid (by rw [← HPL.out.2.1]; exact HV.out.see)
       have HP2 : Hid (Box w10 (b3 + 1) 47 (repv a.client a.num 0 aA (begunL p s.ps).length az)) := Lib.hid (by rw [← HPL.out.2.1, ← HPL.out.1]; exact HP.out)
       have HT2 : Hid (Box w10 b3 28 (stV s'.pA s.ps.length s'.pc s'.rA s'.rs.length s'.rc s'.ep s'.mA s'.ms.length s'.mc)) := Lib.hid (by rw [← (show s'.ps = s.ps from HPL.out.2.2)]; exact HT.out)
       clear HV HP HT HPL c7 HB6
       have HN : Hid (s.ps.length ≤ 300) := Lib.hid HSM.out.1.1
       have HX2 : Hid (Box w10 w.heap.size 28 s.cells ∧ PK.See w10 w10.heap.size s.pA s.ps) := Lib.hid ⟨HX.out, HS.out.ps⟩
       clear HX HS HSM
       have c0 : w10.cell? ⟨w.heap.size, 0, none⟩ = some (.slice s.pA s.ps.length s.pc) := HX2.out.1.cell 0
       go_wp2
       clear c0
       go_loopw [14, 55] (fun v i wr => ∃ k : Nat, k ≤ s.ps.length ∧ i = .int .i64 (k : Int) ∧ v = .int .i64 ((begunL p (s.ps.take k)).length : Int) ∧ Hid (Below w10.heap.size w10 wr)) (fun _ i _ => s.ps.length - (intOf i).toNat)
       case atStart => exact ⟨0, Nat.zero_le _, rfl, rfl, Lib.hid (Below.refl _ _)⟩
       case round =>
         obtain ⟨k, hk, rfl, rfl, HF⟩ := hrel
         by_cases hlt : k < s.ps.length
         · obtain ⟨g, o, hA, _, hr⟩ := EK.See.range (EK.See.far HX2.out.2 HF.out) hlt
           have lk : (ldPr (.pointer (some ⟨g, o + k * 2, none⟩))).run Tryd.prog wr = .ok (.agg #[.string (s.ps[k]'hlt).key, .string (s.ps[k]'hlt).val]) wr := range_pr (w := wr) (ky := (s.ps[k]'hlt).key) (vl := (s.ps[k]'hlt).val) (hr k hlt)
           rw [hA]
           have HB := Lib.hid (begun_snoc p s.ps k hlt)
           have HAT := Lib.hid (begun_at p s.ps k hlt)
           obtain ⟨w13, hst, hb13, hbl13, _⟩ := laid_pr wr #[.string ⟨#[]⟩, .string ⟨#[]⟩] rfl (s.ps[k]'hlt).key (s.ps[k]'hlt).val
           have HB13 := Lib.hid hb13
           have HF13 := Lib.hid (HF.out.trans (hbl13.mono HF.out.size))
           have HLT := Lib.hid hlt
           have i1 : (k : Int) < (s.ps.length : Int) := by omega
           have i0 : (0 : Int) ≤ (k : Int) := by omega
           have wk : IntKind.i64.wrap ((k : Int) + 1) = ((k + 1 : Nat) : Int) := by
             rw [IntKind.wrap_i64]
             have := HN.out
             omega
           generalize (s.ps[k]'hlt).key = x at *
           generalize (s.ps[k]'hlt).val = y at *
           clear hr hb13 hbl13 hA HF
           go_upto_region 12 with fail
           clear hst lk
           have c0 : w13.cell? ⟨wr.heap.size, 0, none⟩ = some (.string x) := HB13.out.cell 0
           generalize wr.heap.size = m3 at *
           by_cases hsz : x.size < p.size
           · have i3 : (x.size : Int) < (p.size : Int) := by omega
             have HNO : Hid (beginsB p x = false) := Lib.hid (by unfold beginsB; rw [decide_eq_false (by omega)]; rfl)
             clear hsz
             go_wp2
             go_roundw
             case rel => exact ⟨k + 1, HLT.out, by go_num, by rw [HB.out, if_neg (by rw [HNO.out]; simp)], HF13⟩
             case measure => have := HLT.out; simp [intOf]; omega
           · have i3 : ¬ (x.size : Int) < (p.size : Int) := by omega
             have i4 : (p.size : Int) ≤ (x.size : Int) := by omega
             cases hbg : ((x.extract 0 p.size).toList == p.toList)
             · have HNO : Hid (beginsB p x = false) := Lib.hid (by unfold beginsB; rw [hbg, Bool.and_false])
               clear hsz
               go_wp2
               go_roundw
               case rel => exact ⟨k + 1, HLT.out, by go_num, by rw [HB.out, if_neg (by rw [HNO.out]; simp)], HF13⟩
               case measure => have := HLT.out; simp [intOf]; omega
             · have HYES : Hid (beginsB p x = true) := Lib.hid (by unfold beginsB; rw [hbg, decide_eq_true (by omega)]; rfl)
               clear hsz
               go_upto_region 13 with fail
               clear c0
               obtain ⟨hm, hval⟩ := HAT.out HYES.out
               obtain ⟨g2, o2, hA2, _, hr2⟩ := EK.See.range (EK.See.far HVS.out HF13.out) hm
               have c2 : w13.cell? ⟨g2, o2 + (begunL p (s.ps.take k)).length, none⟩ = some (.string x) := by
                 have h := hr2 _ hm 0 _ rfl
                 rw [hval] at h
                 exact (by rw [← (Nat.mul_one (begunL p (s.ps.take k)).length)]; exact h)
               have c3 : w13.cell? ⟨b3 + 1, 3, none⟩ = some (.slice (some ⟨g2, o2, none⟩) (begunL p s.ps).length az) := by
                 rw [← hA2]
                 exact (HP2.out.below HF13.out HP2.out.lt).cell 3
               have c4 : w13.cell? ⟨m3, 0, none⟩ = some (.string x) := HB13.out.cell 0
               have HB2 : Hid ((begunL p (s.ps.take (k + 1))).length = (begunL p (s.ps.take k)).length + 1) := Lib.hid (by rw [HB.out, if_pos HYES.out, List.length_append]; rfl)
               have HML : Hid ((begunL p (s.ps.take k)).length < 301) := Lib.hid (by
                 have h1 := begun_len p (s.ps.take k)
                 rw [List.length_take] at h1
                 have := HN.out
                 omega)
               have i5 : ¬ ((begunL p (s.ps.take k)).length : Int) ≥ ((begunL p s.ps).length : Int) := by omega
               have i6 : ((begunL p (s.ps.take k)).length : Int) < ((begunL p s.ps).length : Int) := by omega
               have i7 : (0 : Int) ≤ ((begunL p (s.ps.take k)).length : Int) := by omega
               have wm : IntKind.i64.wrap (((begunL p (s.ps.take k)).length : Int) + 1) = (((begunL p (s.ps.take k)).length + 1 : Nat) : Int) := by
                 rw [IntKind.wrap_i64]
                 have := HML.out
                 omega
               clear hval hr2 hA2 hm HAT HB
               generalize (begunL p (s.ps.take k)).length = m at *
               generalize (begunL p s.ps).length = n2 at *
               have d1 : decide (n2 ≤ m) = false := decide_eq_false (by omega)
               have d2 : decide ((n2 : Int) ≤ (m : Int)) = false := decide_eq_false (by omega)
               have d3 : ¬ (n2 : Int) ≤ (m : Int) := by omega
               have d4 : ¬ n2 ≤ m := by omega
               have d5 : m < n2 := by omega
               go_quiet (fail)
               replace HF13 := Lib.hid (below_drewN HF13.out nq)
               generalize w13.drewN nq = w14 at *
               go_wp2
               go_roundw
               case rel => exact ⟨k + 1, HLT.out, by go_num, by rw [HB2.out]; rfl, HF13⟩
               case measure => have := HLT.out; simp [intOf]; omega
         · have hke : k = s.ps.length := by omega
           subst hke
           have i1 : ¬ (s.ps.length : Int) < (s.ps.length : Int) := by omega
           rw [List.take_length]
           have c0 : wr.cell? ⟨w.heap.size, 0, none⟩ = some (.slice s.pA s.ps.length s.pc) := (HX2.out.1.below HF.out HX2.out.1.lt).cell 0
           have c1 : wr.cell? ⟨b3, 0, none⟩ = some (.slice s'.pA s.ps.length s'.pc) := (HT2.out.below HF.out HT2.out.lt).cell 0
           have c2 : wr.cell? ⟨b3 + 1, 2, none⟩ = some (.int .i64 0) := (HP2.out.below HF.out HP2.out.lt).cell 2
           have c3 : wr.cell? ⟨b3 + 1, 3, none⟩ = some (.slice aA (begunL p s.ps).length az) := (HP2.out.below HF.out HP2.out.lt).cell 3
           have HWF := Lib.hid (HW10.out.trans (HF.out.mono HW10.out.size))
           clear HX2 HT2 HP2 HVS HN hlt hk HF
           generalize (begunL p s.ps).length = n2 at *
           generalize s.ps.length = n3 at *
           go_wp2
           go_ret
           exact ⟨rfl, HWF.out⟩)
  · have hor : reqGood (qList c n p) = false ∨ reqGood (qList c n p) = true ∧ lb = true ∧ n ≤ r.num := by
      cases hg : reqGood (qList c n p)
      · exact .inl rfl
      · refine .inr ⟨rfl, ?_⟩
        by_cases h : lb = true ∧ n ≤ r.num
        · exact h
        · exact absurd ⟨hg, h⟩ HOK
    clear HOK HX HQ HR HS HLK lq c1
    rcases hor with hg | ⟨hg, rfl, i1⟩
    · rw [hg] at HGD
      clear hg
      have hgeq : lb = false ∨ lb = true ∧ n ≤ r.num ∨ lb = true ∧ ¬ n ≤ r.num := by
        cases lb
        · exact .inl rfl
        · by_cases h : n ≤ r.num
          · exact .inr (.inl ⟨rfl, h⟩)
          · exact .inr (.inr ⟨rfl, h⟩)
      rcases hgeq with rfl | ⟨rfl, i1⟩ | ⟨rfl, i1⟩
      all_goals
        (go_wp2_with (first
          | (go_at_call 7; (with_reducible refine (HG.out).mono ?_); rintro e w6 ⟨g, rfl, hg, hb6⟩; have HB6 := Lib.hid hb6; have l6 := (HL.out w6 hb6).1; have HW6 := Lib.hid (HW.out.trans (hb6.mono HW.out.size)); clear hb6 hg; cases g)
          | (go_at_call 11; (with_reducible refine (HGD.out _).mono ?_); rintro e w7 ⟨rfl, hb7⟩; have c7 := (HL.out w7 (HB6.out.trans (hb7.mono HB6.out.size))).2; have HW7 := Lib.hid (HW6.out.trans (hb7.mono HW6.out.size)); clear hb7)))
      all_goals (go_ret; first | exact ⟨rfl, HW7.out⟩ | exact ⟨rfl, HW6.out⟩)
    · rw [hg] at HGD
      clear hg
      go_wp2_with (first
          | (go_at_call 7; (with_reducible refine (HG.out).mono ?_); rintro e w6 ⟨g, rfl, hg, hb6⟩; have HB6 := Lib.hid hb6; have l6 := (HL.out w6 hb6).1; have HW6 := Lib.hid (HW.out.trans (hb6.mono HW.out.size)); clear hb6 hg; cases g)
          | (go_at_call 11; (with_reducible refine (HGD.out _).mono ?_); rintro e w7 ⟨rfl, hb7⟩; have c7 := (HL.out w7 (HB6.out.trans (hb7.mono HB6.out.size))).2; have HW7 := Lib.hid (HW6.out.trans (hb7.mono HW6.out.size)); clear hb7))
      all_goals (go_ret; first | exact ⟨rfl, HW7.out⟩ | exact ⟨rfl, HW6.out⟩)
end Go.Proofs.YtbgbidgggjkmmaaDoor
