/-
  ChainWrites: the walk.
-/
import Derived.Test.YtbclepdcngaonaaGreatDoorMD
import Derived.Test.YtbclepdcngaonaaGreatDoorME
import Derived.Test.YtbclepdcngaonaaGreatDoorMA
namespace Go.Proofs.YtbclepdcngaonaaGreatDoor
open Go.RowKit Go.Maps Go.Sort

set_option maxRecDepth 100000 in
theorem reqs_few15 : ∀ {xs : List ReqX}, (∀ q ∈ xs, q.key.size ≤ 4096 ∧ q.val.size ≤ 4096 ∧ q.old.size ≤ 4096) → (xs.flatMap reqB).length ≤ xs.length * 20000
  | [], _ => Nat.zero_le _
  | x :: xs, h => by
    have h1 : (reqB x).length ≤ 20000 := by
      obtain ⟨h1, h2, h3⟩ := h x List.mem_cons_self
      unfold reqB
      simp only [List.length_append, numBytes_len, textBytes_len, x.len]
      omega
    have h2 := reqs_few15 (xs := xs) (fun q hq => h q (List.mem_cons_of_mem _ hq))
    rw [List.flatMap_cons, List.length_append, List.length_cons, Nat.add_mul]
    omega
set_option maxRecDepth 100000 in
theorem few_bytes15 {x : BlkX} (h : Few14 x) : (blkB x).length ≤ 1000000 := by
  have h1 := reqs_few15 h.txt
  have h2 := h.len
  unfold blkB
  simp only [List.length_append, numBytes_len, x.lp, x.ls, x.ln]
  omega
set_option maxRecDepth 100000 in
theorem flat_len15 {xs : List VtX} (hl : xs.length ≤ 12) (hf : ∀ x ∈ xs, VFew x) (hd : ∀ x ∈ xs, AllD x.opn ∧ AllD x.sht ∧ AllD x.pth) (k : Nat) : ((xs.take k).flatMap voteB).length ≤ 4000000000 := by
  have h := crtB_len (r := 0) (xs := xs.take k) (by rw [List.length_take]; omega) (fun x hx => hf x (List.mem_of_mem_take hx)) (fun x hx => hd x (List.mem_of_mem_take hx))
  unfold crtB at h
  simp only [List.length_append] at h
  omega
set_option maxRecDepth 100000 in
theorem lwrite15 (base a : Nat) (l : LkM) (hz : Small12 l.b.x) (hbb : (blkB l.b.x).length ≤ 200000000) (hl : l.vs.length ≤ 1000) (hn : l.ms.length ≤ 1000000) (hlen : ∀ k, (((l.vs.map VtM.x).take k).flatMap voteB).length ≤ 4000000000) (hcl : (crtB l.r (l.vs.map VtM.x)).length ≤ 4000000100) (w : World) (h : Wr w base a []) (hS : LkAt w base l) :
    Calls Tryz.prog 12 #[.pointer (some ⟨a, 0, none⟩), .agg l.cells.toArray] w fun e w' => e = .returned (.bool (allFit l.vs)) ∧ Wr w' base a (lkS l) ∧ WF a w w' := by
  cases hf : allFit l.vs with
  | true =>
    have e : lkS l = lkB l.x := by unfold lkS; rw [if_pos hf]
    rw [e]
    exact lwrite_any15 base a l hz hbb hl hn hf hlen hcl w h hS
  | false =>
    have e : lkS l = [] := by unfold lkS; rw [if_neg (by rw [hf]; simp)]
    rw [e]
    exact (lwrite_no15 _ l hl hf w (Sees.more hS.vts h.2.1)).mono fun e w' ⟨he, hb⟩ => ⟨he, h.below_size hb, WF.of_below hb h.lt⟩

attribute [local go_sem ↓] ldCf_def stCf_def ldLk_def stLk_def alLk_def bsT_def
set_option maxRecDepth 100000 in
set_option maxHeartbeats 16000000 in
theorem writes_walk15 (ms : List MemX) (ep : Int) (AM : Option Addr) (cM : Nat) (l : LkM) (hlim : LkLim l) (hnum : LkNum l) (hr : R64 l.r) (bs : List UInt8) (AL : Option Addr) (cl : Nat) (w : World) (hM : Mems w w.heap.size AM ms) (hl : LkSee w l) (hL : Sees w w.heap.size AL (bs.map bv)) (hR : Roots w) :
    Calls Tryz.prog 4 #[.agg (cfgV ep AM ms.length cM), .agg l.cells.toArray, .slice AL bs.length cl] w fun e w' => e = .returned (.bool true) ∧ Below w.heap.size w w' := by
  obtain ⟨w1, hw1⟩ : ∃ w1, w1 = (w.alloc (.cells (cfgV ep AM ms.length cM) 24)).alloc (.cells l.cells.toArray 37) := ⟨_, rfl⟩
  have hX : Box w1 w.heap.size 24 (cfgV ep AM ms.length cM) := by rw [hw1]; exact (Box.made w _ _).alloc _
  have hY : Box w1 (w.heap.size + 1) 37 (lkL l.b.cells l.r (.slice l.A l.vs.length l.c) l.ep (.slice l.M l.ms.length l.m)).toArray := by rw [hw1]; exact Box.made_at (by simp) _ _
  have HF : Hid (Below w.heap.size w w1) := by rw [hw1]; exact ((Below.refl _ _).alloc (Nat.le_refl _) _).alloc (by simp) _
  have HC : Hid (∀ w', Below w1.heap.size w1 w' → (ldCf (.pointer (some ⟨w.heap.size, 0, none⟩))).run Tryz.prog w' = .ok (.agg (cfgV ep AM ms.length cM)) w' ∧ (ldLk (.pointer (some ⟨w.heap.size + 1, 0, none⟩))).run Tryz.prog w' = .ok (.agg l.cells.toArray) w' ∧ w'.cell? ⟨w.heap.size + 1, 100, none⟩ = some (.slice l.A l.vs.length l.c)) := Lib.hid (fun w' hb => by
    have hx := hX.below hb hX.lt
    have hy := hY.below hb hY.lt
    exact ⟨hx.l_cf, Box.ld_lk hy, hy.lk_100 l.b.cells_len⟩)
  have HR1 := Lib.hid (hR.of_below HF.out)
  have HM1 := Lib.hid (hM.far HF.out)
  have Hl1 := Lib.hid (hl.call HF.out)
  have HAL := Lib.hid (alive_any15 w1 HR1.out)
  have HGL : Hid (∀ w', Below w1.heap.size w1 w' → Calls Tryz.prog 6 #[.agg (cfgV ep AM ms.length cM), .slice (some ⟨w'.heap.size, 0, none⟩) 1 1] (w'.alloc (.cells l.cells.toArray 37)) (GreatL ms [l] (w'.alloc (.cells l.cells.toArray 37)))) := Lib.hid (fun w' hb => lgreat_any ms ep AM cM [l] (fun x hx => by rw [List.mem_singleton.1 hx]; exact hlim) (some ⟨w'.heap.size, 0, none⟩) 1 _ ⟨LkK.see_one w' l, fun x hx => by rw [List.mem_singleton.1 hx]; exact Hl1.out.call (hb.alloc hb.size _)⟩)
  have HSL := Lib.hid ((hL.below HF.out).more HF.out.size)
  have HDX : Hid (∀ x ∈ l.vs.map VtM.x, R64 x.leaf ∧ AllD x.opn ∧ AllD x.sht ∧ AllD x.pth) := Lib.hid (fun x hx => by
    obtain ⟨m, hm, rfl⟩ := List.mem_map.1 hx
    exact ⟨(hnum.votes m hm).2, (hl.sgs m hm).A.all, (hl.sgs m hm).B.all, (hl.sgs m hm).C.all⟩)
  have HNU := Lib.hid hnum
  have HRR := Lib.hid hr
  clear hX hY hM hl hR hlim hnum hr hL
  generalize hlc : l.cells.toArray = LC at *
  generalize hCF : cfgV ep AM ms.length cM = CF at *
  go_enter Tryz.func4, Tryz.ntmps4
  go_upto_region 1 with fail
  change Code.wp _ _ _ _ ((w.alloc (.cells CF 24)).alloc (.cells LC 37))
  rw [← hw1]
  clear hw1
  go_upto_region 3 with (go_at_call 5; (with_reducible refine (HAL.out).mono ?_); rintro e w2 ⟨rfl, hb⟩; have HB2 := Lib.hid hb; clear hb)
  clear HAL
  obtain ⟨k1, k2, _⟩ := HC.out w2 HB2.out
  have hbs : (bsT 25 1 #[(0, .agg LC)]).run Tryz.prog w2 = .ok (.slice (some ⟨w2.heap.size, 0, none⟩) 1 1) (w2.alloc (.cells LC 37)) := by
    rw [← hlc]
    exact LkK.build1 l (.agg l.cells.toArray) rfl (by decide) w2
  go_wp2_with fail
  refine (HGL.out w2 HB2.out).mono ?_
  rintro e w3 ⟨g, rfl, hg, hb⟩
  have HB3 : Hid (Below w1.heap.size w1 w3) := Lib.hid ((HB2.out.alloc HB2.out.size _).trans (hb.mono (HB2.out.alloc HB2.out.size _).size))
  clear hb k1 k2 HB2 HGL hbs
  cases g with
  | true =>
    clear hg
    go_wp2
    go_ret
    exact ⟨rfl, HF.out.trans (HB3.out.mono HF.out.size)⟩
  | false =>
  have HCS0 := Lib.hid (hg rfl)
  have HCS := Lib.hid (HCS0.out.each l (List.mem_singleton.2 rfl))
  clear hg
  by_cases hlong : 65536 < bs.length
  · have el : decide ((65536 : Int) < (bs.length : Int)) = true := decide_eq_true (by omega)
    go_wp2
    go_ret
    exact ⟨rfl, HF.out.trans (HB3.out.mono HF.out.size)⟩
  have el : decide ((65536 : Int) < (bs.length : Int)) = false := decide_eq_false (by omega)
  have HLL : Hid (bs.length ≤ 65536) := Lib.hid (by omega)
  go_upto_region 6 with fail
  clear el hlong
  have HST : Hid (∀ w', Below w1.heap.size w1 w' → Calls Tryz.prog 7 #[.agg CF, .int .i64 0, .agg LC] w' fun e w'' => e = .returned (.int .i64 (stepN ep ms 0 l.x)) ∧ Below w'.heap.size w' w'') := Lib.hid (fun w' hb => by
    rw [← hlc, ← hCF]
    exact step_any15 ep ms AM cM (by have := HCS0.out.mem; omega) 0 l HCS.out.lk w' (HM1.out.far hb) (Hl1.out.call hb) (HR1.out.of_below hb))
  have HW4 : Hid (Wr (w3.alloc (.cells #[.slice none 0 0] 48)) w3.heap.size w3.heap.size []) := wr_new (Box.made _ _ _) (Nat.le_refl _)
  have HB4 : Hid (Below w1.heap.size w1 (w3.alloc (.cells #[.slice none 0 0] 48))) := Lib.hid (HB3.out.alloc HB3.out.size _)
  have HSZ3 : Hid (w1.heap.size ≤ w3.heap.size) := Lib.hid HB3.out.size
  have HFX : Hid (∀ x ∈ l.vs.map VtM.x, VFew x) := Lib.hid (fun x hx => by obtain ⟨m, hm, rfl⟩ := List.mem_map.1 hx; exact HCS.out.few m hm)
  have HXL : Hid (∀ k, (((l.vs.map VtM.x).take k).flatMap voteB).length ≤ 4000000000) := Lib.hid (flat_len15 (by rw [List.length_map]; exact HCS.out.len) HFX.out (fun x hx => (HDX.out x hx).2))
  have HCL : Hid ((crtB l.r (l.vs.map VtM.x)).length ≤ 300000) := Lib.hid (crtB_len (by rw [List.length_map]; exact HCS.out.len) HFX.out (fun x hx => (HDX.out x hx).2))
  have HBB : Hid ((blkB l.b.x).length ≤ 1000000) := Lib.hid (few_bytes15 HCS.out.blk)
  have HTL : Hid ((lkS l).length ≤ 100000000) := Lib.hid (by
    unfold lkS
    split
    · show ((blkB l.b.x ++ crtB l.r (l.vs.map VtM.x)) ++ cfgB l.ep l.ms).length ≤ _
      rw [List.length_append, List.length_append, cfgB_len15]
      have := HCL.out
      have := HBB.out
      have := HCS.out.mem
      omega
    · exact Nat.zero_le _)
  have hwr := lwrite15 w3.heap.size w3.heap.size l HCS.out.lk.blk (by have := HBB.out; omega) (by have := HCS.out.len; omega) (by have := HCS.out.mem; omega) HXL.out (by have := HCL.out; omega) _ HW4.out (Hl1.out.at15 HB4.out HSZ3.out)
  rw [hlc] at hwr
  have HWR := Lib.hid hwr
  have HRW : Hid (∀ w', Below w1.heap.size w1 w' → Calls Tryz.prog 13 #[.agg LC] w' fun e w'' => e = .returned (.tuple #[str (lkS l), .bool (allFit l.vs)]) ∧ Below w'.heap.size w' w'') := Lib.hid (fun w' hb => by
    have h := rlbytes_any15 l HCS.out.lk.blk (by have := HBB.out; omega) HNU.out HRR.out (by have := HCS.out.len; omega) (by have := HCS.out.mem; omega) HXL.out (by have := HCL.out; omega) w' (Hl1.out.call hb)
    rw [hlc] at h
    exact h)
  have HCB : Hid (stepN ep ms 0 l.x = 0 → l.vs.length ≤ 10 → allFit l.vs = true ∧ lkF (lkS l) false = ([], false) ∧ lkX (lkS l) false = l.x) := Lib.hid (fun hs hn => by
    obtain ⟨q1, q2, q3⟩ := lk_back15 hs (few_wf HNU.out.epoch HNU.out.height HNU.out.reqs HCS.out.blk.few) (by show (l.vs.map VtM.x).length ≤ 10; rw [List.length_map]; exact hn) HDX.out
    have haf : allFit l.vs = true := by
      unfold allFit
      rw [List.all_eq_true]
      exact fun m hm => (q3 m.x (List.mem_map.2 ⟨m, hm, rfl⟩)).fits
    have e : lkS l = lkB l.x := by unfold lkS; rw [if_pos haf]
    rw [e]
    exact ⟨haf, q1, q2⟩)
  have k3 := (HC.out _ HB4.out).2.1
  clear hwr HXL HFX HCL HBB
  generalize lkS l = T at *
  generalize allFit l.vs = af at *
  generalize w3.alloc (.cells #[.slice none 0 0] 48) = w4 at *
  go_upto_region 7 with (go_at_call 12; (with_reducible refine (HWR.out).mono ?_); rintro e w5 ⟨rfl, hw, hf⟩; have HW5 := Lib.hid hw; have HB5 := Lib.hid (HB4.out.trans ((hf.below HW4.out).mono HSZ3.out)); clear hw hf)
  clear HWR HW4 HB4 k3
  have k3 := (HC.out _ HB5.out).2.1
  go_upto_region 8 with (go_at_call 13; (with_reducible refine (HRW.out _ HB5.out).mono ?_); rintro e w6 ⟨rfl, hb⟩; have HW6 := Lib.hid (HW5.out.below_size hb); have HB6 := Lib.hid (HB5.out.trans (hb.mono HB5.out.size)); clear hb)
  clear HRW HW5 HB5 k3
  have HBY := Lib.hid (bytes_any w3.heap.size w3.heap.size T w6 HW6.out (by have := HTL.out; omega))
  have naf : (af != af) = false := by simp
  go_upto_region 10 with (go_at_call 14; (with_reducible refine (HBY.out).mono ?_); rintro e w7 ⟨A7, c7, rfl, _, _, hsee, hb⟩; have hcv := convert_sees (P := Tryz.prog) 45 5 9 Tryz.underlying45 Tryz.underlying5 Tryz.underlying9 hsee c7; have HW7 := Lib.hid (HW6.out.below_size hb); have HB7 := Lib.hid (HB6.out.trans (hb.mono HB6.out.size)); clear hsee hb)
  clear hcv HBY HW6 HB6 naf
  have hcv : (convert 45 9 (.slice AL bs.length cl)).run Tryz.prog w7 = .ok (str bs) w7 := convert_sees (P := Tryz.prog) 45 5 9 Tryz.underlying45 Tryz.underlying5 Tryz.underlying9 ((HSL.out.below HB7.out).more HB7.out.size) cl
  -- THE LOOP
  go_wp2
  clear hcv
  have HTS : Hid (T.length ≤ 70368744177664 ∧ bs.length ≤ 70368744177664) := Lib.hid ⟨by have := HTL.out; omega, by have := HLL.out; omega⟩
  clear HSL HLL
  go_loopw [52] (fun i wr => ∃ k : Nat, k ≤ 2 ∧ i = .int .i64 (k : Int) ∧ Hid (Below w7.heap.size w7 wr)) (fun i _ => 2 - (intOf i).toNat)
  case atStart => exact ⟨0, by omega, rfl, Lib.hid (Below.refl _ _)⟩
  case round =>
    obtain ⟨k, hk, rfl, HW⟩ := hrel
    by_cases hlt : k < 2
    · have HLT := Lib.hid hlt
      obtain ⟨L, hix, hl9⟩ : ∃ L : List UInt8, (Instr.index 53 (.agg #[str bs, str T]) (.int .i64 (k : Int))).run Tryz.prog wr = .ok (str L) wr ∧ L.length ≤ 70368744177664 := by
        match k, hlt with
        | 0, _ => exact ⟨bs, by kernel_rfl, HTS.out.2⟩
        | 1, _ => exact ⟨T, by kernel_rfl, HTS.out.1⟩
      have HL9 := Lib.hid hl9
      have j1 : (k : Int) < 2 := by omega
      have j0 : (0 : Int) ≤ (k : Int) := by omega
      have wj : IntKind.i64.wrap ((k : Int) + 1) = ((k + 1 : Nat) : Int) := by rw [IntKind.wrap_i64]; omega
      clear hl9 hk hlt
      obtain ⟨X, hX⟩ : ∃ X, lkX L false = X := ⟨_, rfl⟩
      obtain ⟨⟨fl, fb⟩, hFF⟩ : ∃ F, lkF L false = F := ⟨_, rfl⟩
      have HXF : Hid (X.b.reqs.length ≤ 8 ∧ (∀ x ∈ X.vs, VFew x) ∧ X.vs.length ≤ 10 ∧ X.ms.length ≤ 10) := Lib.hid (by rw [← hX]; exact lkX_few15 L false)
      have HTWO : Hid (∀ a m wx, TwX wr a m L wx → Calls Tryz.prog 17 #[.pointer (some ⟨a, 0, none⟩)] wx fun e w' => ∃ p : LkM, p.x = X ∧ e = .returned (.agg p.cells.toArray) ∧
        Calls Tryz.prog 18 #[.pointer (some ⟨m, 0, none⟩)] w' fun e w'' => ∃ q : LkM, q.x = X ∧ e = .returned (.agg q.cells.toArray) ∧ Rd w'' a fl fb ∧ RRd w'' m fl fb ∧ LkLook w'' p ∧ LkLook w'' q ∧ Below wr.heap.size wr w'') := Lib.hid (fun a m wx h => two_lk15 wr a m L wx h X (fl, fb) hX hFF)
      clear hX hFF
      obtain ⟨cap8, w8, hcv, hs8, hb8⟩ := conv_str L wr
      have HB8 := Lib.hid hb8
      have HRD := Lib.hid (read_any w8.heap.size _ L cap8 w8 hs8 (Nat.le_refl _) HL9.out)
      clear hs8 hb8
      go_upto_region 14 with (go_at_call 15; (with_reducible refine (HRD.out).mono ?_); rintro e w9 ⟨a9, rfl, hr, hge, hb⟩; have HR9 := Lib.hid hr; have HB9 := Lib.hid hb; have HE9 := Lib.hid hge; clear hr hb hge)
      clear hix j0 j1 hcv HRD
      obtain ⟨m9, hm9⟩ : ∃ m9, m9 = w9.heap.size := ⟨_, rfl⟩
      have HTW : Hid (TwX wr a9 m9 L (w9.alloc (.cells #[str L, .bool false] 58))) := Lib.hid (by
        rw [hm9]
        have h9 := HR9.out.lt
        have h2 := HB8.out.size
        have h3 := HB9.out.size
        have h4 := HE9.out
        exact ⟨HR9.out.alloc _, Box.made _ _ _, Nat.ne_of_lt h9, by omega, by omega, (HB8.out.trans (HB9.out.mono HB8.out.size)).alloc (by omega) _⟩)
      rw [← hm9]
      clear HR9 HB9 HE9 HB8 hm9
      generalize w9.alloc (.cells #[str L, .bool false] 58) = wx at *
      have HKR := Lib.hid (HTWO.out a9 m9 wx HTW.out)
      clear HTWO HTW
      go_wp2_with (first
        | (go_at_call 17; (with_reducible refine (HKR.out).mono ?_); rintro e w20 ⟨p, hp, rfl, hc⟩; have HU := Lib.hid hp; have HRK := Lib.hid hc; clear hp hc)
        | (go_at_call 18; (with_reducible refine (HRK.out).mono ?_); rintro e w21 ⟨q, hq, rfl, hr, hrr, hs1, hs2, hb⟩; have HB21 := Lib.hid hb; have HSM := Lib.hid (lsame_true15 p q (hq.trans HU.out.symm) (by have h := HXF.out.1; rw [← HU.out] at h; exact Nat.le_trans h (by decide)) (fun m hm => by have h := HXF.out.2.1; rw [← HU.out] at h; exact h m.x (List.mem_map.2 ⟨m, hm, rfl⟩)) (by have h := HXF.out.2.2.1; rw [← HU.out] at h; have h2 : (p.vs.map VtM.x).length ≤ 10 := h; rw [List.length_map] at h2; omega) (by have h := HXF.out.2.2.2; rw [← HU.out] at h; exact Nat.le_trans h (by simp [maxLen])) w21 hs1 hs2); have HRA := Lib.hid hr; have HRM := Lib.hid hrr; clear hr hrr hs1 hs2 hb hq)
        | (go_at_call 16; (with_reducible refine (HSM.out).mono ?_); rintro e w22 ⟨rfl, hb⟩; have HB22 := Lib.hid (HB21.out.trans (hb.mono HB21.out.size)); have hr := HRA.out.below hb HRA.out.lt; have hrr : RRd w22 m9 fl fb := Box.below HRM.out hb (Box.lt HRM.out); have HGA := Lib.hid (good_any a9 _ _ w22 hr); have HGM := Lib.hid (rgood_any m9 _ _ w22 hrr); have HEA := Lib.hid (rdend_any a9 _ _ w22 hr); have HEM := Lib.hid (rend_any m9 _ _ w22 hrr); clear hr hrr hb)
        | (go_at_call 19; (with_reducible refine (HGA.out).mono ?_); rintro e w23 ⟨rfl, rfl⟩)
        | (go_at_call 20; (with_reducible refine (HGM.out).mono ?_); rintro e w24 ⟨rfl, rfl⟩)
        | (go_at_call 21; (with_reducible refine (HEA.out).mono ?_); rintro e w25 ⟨rfl, rfl⟩)
        | (go_at_call 22; (with_reducible refine (HEM.out).mono ?_); rintro e w26 ⟨rfl, rfl⟩))
      have HBE := Lib.hid (HW.out.trans (HB22.out.mono HW.out.size))
      clear HKR HRK HSM HRA HRM HGA HGM HEA HEM HB21 HB22
      go_roundw
      case rel => exact ⟨k + 1, HLT.out, by go_num, HBE⟩
      case measure => have := HLT.out; simp [intOf]; omega
    · have HK2 : Hid (k = 2) := Lib.hid (by omega)
      have j1 : ¬ (k : Int) < 2 := by omega
      have HB8 := Lib.hid (HB7.out.trans (HW.out.mono HB7.out.size))
      have HW8 := Lib.hid (HW7.out.below_size HW.out)
      have HBY := Lib.hid (bytes_any w3.heap.size w3.heap.size T wr HW8.out HTS.out.1)
      clear HW HW7 HB7 hk hlt
      go_upto_region 18 with (first
        | (go_at_call 14; (with_reducible refine (HBY.out).mono ?_); rintro e w30 ⟨A8, c8, rfl, _, _, hsee, hb⟩; have HB30 := Lib.hid (HB8.out.trans (hb.mono HB8.out.size)); have HRD2 := Lib.hid (read_any w30.heap.size A8 T c8 w30 hsee (Nat.le_refl _) HTS.out.1); clear hsee hb)
        | (go_at_call 15; (with_reducible refine (HRD2.out).mono ?_); rintro e w31 ⟨r2, rfl, hr, hge, hb⟩; have HR31 := Lib.hid hr; have HE31 := Lib.hid hge; have HB31 := Lib.hid (HB30.out.trans (hb.mono HB30.out.size)); clear hr hge hb))
      have HR2G : Hid (w1.heap.size ≤ r2) := Lib.hid (Nat.le_trans HB30.out.size HE31.out)
      clear HBY HRD2 HE31 HB30 HB8 HW8 HTS
      have HRX := Lib.hid (lread_any15 r2 T false w31 HR31.out)
      have hal := al_lk
      go_upto_region 19 with (go_at_call 17; (with_reducible refine (HRX.out).mono ?_); rintro e w32 ⟨y, hy, rfl, ho, hr2, hg2⟩; obtain ⟨w33, hst, hbx, hbl⟩ := laid_lk w32 y; have HU := Lib.hid hy; have HX33 := Lib.hid hbx; have HR33 := Lib.hid (hr2.below hbl hr2.lt); have HY33 := Lib.hid (ho.look.call hbl); have HB33 : Hid (Below w1.heap.size w1 w33) := Lib.hid ((HB31.out.trans (below_only hg2 HR2G.out HB31.out.size)).trans (hbl.mono (HB31.out.trans (below_only hg2 HR2G.out HB31.out.size)).size)); clear hy ho hr2 hg2 hbx hbl)
      clear hst HRX HR31 HB31 HR2G hal
      generalize w32.heap.size = g8 at *
      obtain ⟨k1, k2, k3⟩ := HC.out w33 HB33.out
      by_cases hten : 10 < l.vs.length
      · have e10 : decide ((10 : Int) < (l.vs.length : Int)) = true := decide_eq_true (by omega)
        clear hten
        go_wp2
        go_ret
        exact ⟨rfl, HF.out.trans (HB33.out.mono HF.out.size)⟩
      have e10 : decide ((10 : Int) < (l.vs.length : Int)) = false := decide_eq_false (by omega)
      have HV10 : Hid (l.vs.length ≤ 10) := Lib.hid (by omega)
      have HCC := Lib.hid (HST.out w33 HB33.out)
      clear HST hten
      generalize hsn : stepN ep ms 0 l.x = sn at *
      clear hsn
      by_cases hs0 : sn = 0
      rotate_left
      · have es : (sn != 0) = true := by simpa using hs0
        go_wp2_with (go_at_call 7; (with_reducible refine (HCC.out).mono ?_); rintro e w34 ⟨rfl, hb⟩; have HB34 := Lib.hid (HB33.out.trans (hb.mono HB33.out.size)); clear hb)
        go_ret
        exact ⟨rfl, HF.out.trans (HB34.out.mono HF.out.size)⟩
      obtain ⟨haf, q1, q2⟩ := HCB.out hs0 HV10.out
      subst haf hs0
      rw [q1] at HR33
      have hyx := HU.out.trans q2
      clear q1 q2 HCB HU
      have HSMM : Hid (∀ w', Below w33.heap.size w33 w' → Calls Tryz.prog 16 #[.agg y.cells.toArray, .agg LC] w' fun e w'' => e = .returned (.bool true) ∧ Below w'.heap.size w' w'') := Lib.hid (fun w' hb => by
        have hb1 := HB33.out.trans (hb.mono HB33.out.size)
        have e1 : y.vs.map VtM.x = l.vs.map VtM.x := congrArg LkX.vs hyx
        have e2 : y.b.x = l.b.x := congrArg LkX.b hyx
        have e3 : y.ms = l.ms := congrArg LkX.ms hyx
        rw [← hlc]
        exact lsame_true15 y l hyx.symm (by rw [e2]; have := HCS.out.blk.len; omega) (fun m hm => by
          have h : m.x ∈ l.vs.map VtM.x := by rw [← e1]; exact List.mem_map.2 ⟨m, hm, rfl⟩
          obtain ⟨m2, hm2, h2⟩ := List.mem_map.1 h
          rw [← h2]
          exact HCS.out.few m2 hm2) (by have h := congrArg List.length e1; rw [List.length_map, List.length_map] at h; have := HV10.out; omega) (by rw [e3]; exact Nat.le_trans HCS.out.mem (by simp [maxLen])) w' (HY33.out.call hb) (Hl1.out.call hb1).look)
      have HLY : Hid (∀ w', Below w33.heap.size w33 w' → (ldLk (.pointer (some ⟨g8, 0, none⟩))).run Tryz.prog w' = .ok (.agg y.cells.toArray) w') := Lib.hid (fun w' hb => (HX33.out.below hb HX33.out.lt).ld_lk)
      have HEN : Hid (∀ w', Below w33.heap.size w33 w' → Calls Tryz.prog 21 #[.pointer (some ⟨r2, 0, none⟩)] w' fun e w'' => e = .returned (.bool true) ∧ w' = w'') := Lib.hid (fun w' hb => rdend_any r2 [] false w' (HR33.out.below hb HR33.out.lt))
      clear HR33 HX33 HY33 hyx HCS
      go_wp2_with (first
        | (go_at_call 7; (with_reducible refine (HCC.out).mono ?_); rintro e w34 ⟨rfl, hb⟩; have HB34 := Lib.hid hb; obtain ⟨_, j2, _⟩ := HC.out w34 (HB33.out.trans (hb.mono HB33.out.size)); have j8 := HLY.out w34 hb; clear hb)
        | (go_at_call 21; (with_reducible refine (HEN.out _ HB34.out).mono ?_); rintro e w35 ⟨rfl, rfl⟩)
        | (go_at_call 16; (with_reducible refine (HSMM.out _ HB34.out).mono ?_); rintro e w36 ⟨rfl, hb⟩; have HB36 := Lib.hid (HB34.out.trans (hb.mono HB34.out.size)); clear hb))
      go_ret
      exact ⟨rfl, HF.out.trans ((HB33.out.trans (HB36.out.mono HB33.out.size)).mono HF.out.size)⟩
end Go.Proofs.YtbclepdcngaonaaGreatDoor
