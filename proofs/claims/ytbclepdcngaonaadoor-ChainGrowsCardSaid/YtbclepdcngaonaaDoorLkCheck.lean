/-
  Where a chain leads: chain.Check. Written by gen_lkcheck.py.
-/
import Derived.Test.YtbclepdcngaonaaDoorLkPlain
namespace Go.Proofs.YtbclepdcngaonaaDoor
open Go.RowKit Go.Maps Go.Sort

set_option maxRecDepth 100000 in
theorem ret_cf3 {fn : Func} {p q r : Tmp} (hf : fn.results = #[.cell p 24, .tmp q, .tmp r]) {a : Act} {w : World} {g : Nat} (hp : a.tmps.getD p undef = .pointer (some ⟨g, 0, none⟩)) {b c : Value} (hq : a.tmps.getD q undef = b) (hr : a.tmps.getD r undef = c) (hdf : a.defers = []) {t : TypeId} {ep : Int} {A : Option Addr} {n m : Nat} (hb : Box w g t (cfgV ep A n m))
    {R : Ending → World → Prop} (hR : R (.returned (.tuple #[.agg (cfgV ep A n m), b, c])) w) : bodyPost Tryd.prog fn R .ret a w := by
  have hp' : a.tmps[p]?.getD undef = .pointer (some ⟨g, 0, none⟩) := by simpa using hp
  have hq' : a.tmps[q]?.getD undef = b := by simpa using hq
  have hr' : a.tmps[r]?.getD undef = c := by simpa using hr
  refine bodyPost_ret (v := .tuple #[.agg (cfgV ep A n m), b, c]) ?_ hdf hR
  simp [results, hf, hp', hq', hr', asAddr, run_loadVar_row w g t 24 (cfgV ep A n m) (0, 0) _ hb Tryd.underlying24 rfl (cf_size ep A n m)]
noncomputable def bdCf15 (parts : Array (Nat × Value)) : Sem Value := Instr.build 24 parts
set_option maxRecDepth 100000 in
theorem bdCf15_def (parts : Array (Nat × Value)) : Instr.build 24 parts = bdCf15 parts := rfl
set_option maxRecDepth 100000 in
theorem bd_cf15 (ep : Int) (A : Option Addr) (n c : Nat) (w : World) : (bdCf15 #[(0, .int .i64 ep), (1, .slice A n c)]).run Tryd.prog w = .ok (.agg (cfgV ep A n c)) w := run_build w _ _ _ (by kernel_rfl)
set_option maxRecDepth 100000 in
theorem bd_cf150 (w : World) : (bdCf15 #[]).run Tryd.prog w = .ok (.agg (cfgV 0 none 0 0)) w := run_build w _ _ _ (by kernel_rfl)
noncomputable def alCf15 (b : Bool) (v : Value) : Sem Value := Instr.alloc 24 b v
set_option maxRecDepth 100000 in
theorem alCf15_def (b : Bool) (v : Value) : Instr.alloc 24 b v = alCf15 b v := rfl
set_option maxRecDepth 100000 in
theorem zero_cf15 (w : World) : (zeroValue 24).run Tryd.prog w = .ok (.agg (cfgV 0 none 0 0)) w := by kernel_rfl
set_option maxRecDepth 100000 in
theorem al_cf15 (w : World) : (alCf15 true (.tuple #[])).run Tryd.prog w = .ok (.pointer (some ⟨w.heap.size, 0, none⟩)) (w.alloc (.cells (cfgV 0 none 0 0) 24)) := by
  have h := zero_cf15 w
  unfold alCf15 Instr.alloc
  simp [Sem.run_bind, h, newVar, newRow, Value.cells]

attribute [local go_sem ↓] ldCf_def stCf_def ldLk_def stLk_def alLk_def bdCf15_def alCf15_def
set_option maxRecDepth 100000 in
set_option maxHeartbeats 16000000 in
theorem check_any15 (ep : Int) (ms : List MemX) (AM : Option Addr) (cM : Nat) (hn : ms.length ≤ 1000000) (ls : List LkM) (A : Option Addr) (c : Nat) (hl : ls.length ≤ 1000000) (hf : ∀ l ∈ ls, LkFew l) (w : World) (hM : Mems w w.heap.size AM ms) (hL : LksSee w A ls) (hR : Roots w) :
    Calls Tryd.prog 7 #[.agg (cfgV ep AM ms.length cM), .slice A ls.length c] w (ChkIs w (checkN ep ms (ls.map LkM.x))) := by
  obtain ⟨w1, hw1⟩ : ∃ w1, w1 = (w.alloc (.cells (cfgV ep AM ms.length cM) 24)).alloc (.cells (cfgV 0 none 0 0) 24) := ⟨_, rfl⟩
  have HX : Hid (Box w1 w.heap.size 24 (cfgV ep AM ms.length cM)) := by rw [hw1]; exact (Box.made w _ _).alloc _
  have HO : Hid (Box w1 (w.heap.size + 1) 24 (cfgV 0 none 0 0)) := by rw [hw1]; exact Box.made_at (by simp) _ _
  have HF : Hid (Below w.heap.size w w1) := by rw [hw1]; exact ((Below.refl _ _).alloc (Nat.le_refl _) _).alloc (by simp) _
  have HM := Lib.hid (hM.far HF.out)
  have HL := Lib.hid hL
  have HR := Lib.hid hR
  have HGC := Lib.hid (good_any8 ms ep AM cM (Nat.le_trans hn (by simp [maxLen])) w1 HM.out)
  have HFW := Lib.hid hf
  have HN := Lib.hid hn
  have HLN := Lib.hid hl
  have lc := HX.out.l_cf
  have HE : Hid (checkN ep ms (ls.map LkM.x) = if goodB ep ms = false then ((0, []), 0, 1) else if 1024 < ls.length then ((0, []), 0, 11) else walkN ep ms 0 0 (ls.map LkM.x)) := Lib.hid (by
    unfold checkN
    rw [List.length_map])
  clear hM hL hR hf hl hn
  generalize checkN ep ms (ls.map LkM.x) = res at *
  generalize goodB ep ms = g0 at *
  have al0 := al_cf15
  have bz := bd_cf150
  go_enter Tryd.func7, Tryd.ntmps7
  go_upto_region 1 with fail
  change Code.wp _ _ _ _ ((w.alloc (.cells (cfgV ep AM ms.length cM) 24)).alloc (.cells (cfgV 0 none 0 0) 24))
  rw [← hw1]
  clear hw1
  cases g0 with
  | false =>
    have HRS : Hid (res = ((0, []), 0, 1)) := Lib.hid (by rw [HE.out]; rfl)
    clear HE
    go_wp2_with (go_at_call 11; (with_reducible refine (HGC.out).mono ?_); rintro e w2 ⟨rfl, hb⟩; have HB2 := Lib.hid hb; obtain ⟨w3, hst, hb3, hg3⟩ := (HO.out.below hb HO.out.lt).s_cf rfl 0 none 0 0; have HB3 := Lib.hid hb3; have HG3 := Lib.hid hg3; clear hb hb3 hg3)
    have HF2 := HF.out.trans (HB2.out.mono HF.out.size)
    exact ret_cf3 (b := .int .i64 0) (c := .int .i64 1) rfl rfl rfl rfl rfl HB3.out (ChkIs.stop (k := 0) HRS.out (HF2.trans (below_only HG3.out (by omega) HF2.size)))
  | true =>
  by_cases hmany : 1024 < ls.length
  · have HRS : Hid (res = ((0, []), 0, 11)) := Lib.hid (by rw [HE.out, if_neg (by simp), if_pos hmany])
    have e1 : decide ((1024 : Int) < (ls.length : Int)) = true := decide_eq_true (by omega)
    clear HE
    go_wp2_with (go_at_call 11; (with_reducible refine (HGC.out).mono ?_); rintro e w2 ⟨rfl, hb⟩; have HB2 := Lib.hid hb; obtain ⟨w3, hst, hb3, hg3⟩ := (HO.out.below hb HO.out.lt).s_cf rfl 0 none 0 0; have HB3 := Lib.hid hb3; have HG3 := Lib.hid hg3; clear hb hb3 hg3)
    have HF2 := HF.out.trans (HB2.out.mono HF.out.size)
    exact ret_cf3 (b := .int .i64 0) (c := .int .i64 11) rfl rfl rfl rfl rfl HB3.out (ChkIs.stop (k := 0) HRS.out (HF2.trans (below_only HG3.out (by omega) HF2.size)))
  have HW0 : Hid (res = walkN ep ms 0 0 (ls.map LkM.x)) := Lib.hid (by rw [HE.out, if_neg (by simp), if_neg hmany])
  have e1 : decide ((1024 : Int) < (ls.length : Int)) = false := decide_eq_false (by omega)
  clear HE hmany
  have HX2 : Hid (∀ w', Below w1.heap.size w1 w' → (ldCf (.pointer (some ⟨w.heap.size, 0, none⟩))).run Tryd.prog w' = .ok (.agg (cfgV ep AM ms.length cM)) w') := Lib.hid (fun w' hb => (HX.out.below hb HX.out.lt).l_cf)
  clear HX
  go_upto_region 5 with (go_at_call 11; (with_reducible refine (HGC.out).mono ?_); rintro e w2 ⟨rfl, hb⟩; have HB2 := Lib.hid hb; clear hb)
  clear lc e1 HGC
  have lc := HX2.out w2 HB2.out
  obtain ⟨w4, hst, hb4, hbl4, _⟩ := laid_cf w2 (cfgV 0 none 0 0) rfl ep AM ms.length cM
  have HG7 : Hid (w1.heap.size ≤ w2.heap.size) := Lib.hid HB2.out.size
  have HC4 := Lib.hid hb4
  have HB4 : Hid (Below w1.heap.size w1 w4) := Lib.hid (HB2.out.trans (hbl4.mono HB2.out.size))
  clear hb4 hbl4
  go_wp2
  clear hst lc HX2 HB2
  generalize w2.heap.size = g7 at *
  have HBW : Hid (Below w.heap.size w w4) := Lib.hid (HF.out.trans (HB4.out.mono HF.out.size))
  have HO4 : Hid (Box w4 (w.heap.size + 1) 24 (cfgV 0 none 0 0)) := Lib.hid (HO.out.below HB4.out HO.out.lt)
  have HS1 : Hid (w.heap.size + 2 ≤ w1.heap.size) := Lib.hid (by have := HO.out.lt; omega)
  have HM4 := Lib.hid (HM.out.far HB4.out)
  have HN4 : Hid (ms.length ≤ 1099511627776) := Lib.hid (by have := HN.out; omega)
  have HW4 : Hid (res = walkN ep ms 0 0 ((ls.map LkM.x).drop 0)) := Lib.hid HW0.out
  clear HM HN HO HW0 HB4
  go_loopw [8, 23] (fun hv i wr => ∃ (k : Nat) (E : Int) (M : List MemX) (B : Option Addr) (d : Nat) (hh : Int), k ≤ ls.length ∧ hv = .int .i64 hh ∧ i = .int .i64 (k : Int) ∧ Hid (Below w.heap.size w wr) ∧ Hid (Box wr (w.heap.size + 1) 24 (cfgV 0 none 0 0)) ∧ Hid (Box wr g7 24 (cfgV E B M.length d)) ∧ Hid (Mems wr wr.heap.size B M) ∧ Hid (M.length ≤ 1099511627776) ∧ Hid (res = walkN E M hh k ((ls.map LkM.x).drop k))) (fun _ i _ => ls.length - (intOf i).toNat)
  case atStart => exact ⟨0, ep, ms, AM, cM, 0, Nat.zero_le _, rfl, rfl, HBW, HO4, HC4, HM4, HN4, HW4⟩
  case round =>
    clear HBW HO4 HC4 HM4 HN4 HW4
    obtain ⟨k, E, M, B, d, hh, hk, rfl, rfl, HBW, HO4, HC4, HM4, HN4, HW4⟩ := hrel
    by_cases hlt : k < ls.length
    rotate_left
    · have i1 : ¬ (k : Int) < (ls.length : Int) := by omega
      have HRS : Hid (res = ((E, M), ls.length, 0)) := Lib.hid (by
        have e : k = ls.length := by omega
        subst e
        rw [HW4.out, List.drop_of_length_le (by rw [List.length_map]; exact Nat.le_refl _)]
        rfl)
      have bc := bd_cf15
      clear hk hlt HW4 bz al0
      go_upto_region 14 with fail
      clear i1
      obtain ⟨wd, hwd⟩ : ∃ wd, wd = wr.drew := ⟨_, rfl⟩
      have hbd : Below wr.heap.size wr wd := by rw [hwd]; exact (Below.refl _ _).drew
      have HD := Lib.hid (HBW.out.trans (hbd.mono HBW.out.size))
      have HOD := Lib.hid (HO4.out.below hbd HO4.out.lt)
      have HMD := Lib.hid (HM4.out.far hbd)
      have HCD := Lib.hid (HC4.out.below hbd HC4.out.lt)
      refine wp_region_held_drew (S := fun w' => Box w' g7 24 (cfgV E B M.length d)) (by kernel_rfl) (by rw [← hwd]; exact HCD.out) (fun hS => ?_)
      rw [← hwd] at hS ⊢
      clear hwd hbd HBW HO4 HM4 HC4
      (refine wpAnyH_take (i := 0) (v := .pointer (some ⟨g7, 0, none⟩)) rfl (by kernel_rfl) (by kernel_rfl) (by kernel_rfl) (fun _ _ _ h => h) (Or.inl ⟨by kernel_rfl, fun w hSw => by go_simp⟩) hS ?_)
      (try simp only [Act.put])
      (refine wpAnyH_take (i := 1) (v := .int .i64 E) rfl (by kernel_rfl) (by kernel_rfl) (by kernel_rfl) (fun _ _ _ h => h) (Or.inl ⟨by kernel_rfl, fun w hSw => by have hc := hSw.cell 0; go_simp⟩) hS ?_)
      (try simp only [Act.put])
      (refine wpAnyH_take (i := 2) (v := .pointer (some ⟨g7, 1, none⟩)) rfl (by kernel_rfl) (by kernel_rfl) (by kernel_rfl) (fun _ _ _ h => h) (Or.inl ⟨by kernel_rfl, fun w hSw => by go_simp⟩) hS ?_)
      (try simp only [Act.put])
      (refine wpAnyH_take (i := 3) (v := .slice B M.length d) rfl (by kernel_rfl) (by kernel_rfl) (by kernel_rfl) (fun _ _ _ h => h) (Or.inl ⟨by kernel_rfl, fun w hSw => by have hc := hSw.cell 1; go_simp⟩) hS ?_)
      (try simp only [Act.put])
      (refine wpAnyH_take (i := 6) (v := .slice A ls.length c) rfl (by kernel_rfl) (by kernel_rfl) (by kernel_rfl) (fun _ _ _ h => h) (Or.inl ⟨by kernel_rfl, fun w hSw => by go_simp⟩) hS ?_)
      (try simp only [Act.put])
      (refine wpAnyH_take (i := 7) (v := .int .i64 (ls.length : Int)) rfl (by kernel_rfl) (by kernel_rfl) (by kernel_rfl) (fun _ _ _ h => h) (Or.inl ⟨by kernel_rfl, fun w hSw => by go_simp⟩) hS ?_)
      (try simp only [Act.put])
      have HCL := Lib.hid (clone_m M B d (by have := HN4.out; omega) (by have := HN4.out; show M.length * 48 ≤ _; omega) wd HMD.out)
      refine wpAnyH_ready (rs := [4]) (by decide +kernel) (by simp) (AllReadyH.cons rfl (fun K hK => ?_) AllReadyH.nil)
      go_simp
      (go_at_call 12; (with_reducible refine (HCL.out).mono ?_); rintro e w5 ⟨A5, c5, rfl, ho5, hb⟩)
      refine hK.out _ _ (hS.below hb hS.lt) (fun hS => ?_)
      clear hK K
      (try simp only [Act.put])
      have HOW := Lib.hid ho5
      have HB5 := Lib.hid (HD.out.trans (hb.mono HD.out.size))
      have HO5 := Lib.hid (HOD.out.below hb HOD.out.lt)
      clear hb ho5
      (refine wpAnyH_take (i := 5) (v := .agg (cfgV E A5 M.length c5)) rfl (by kernel_rfl) (by kernel_rfl) (by kernel_rfl) (fun _ _ _ h => h) (Or.inl ⟨by kernel_rfl, fun w hSw => by have hc := bc E A5 M.length c5 w; go_simp⟩) hS ?_)
      (try simp only [Act.put])
      obtain ⟨w6, hst, hb6, hg6⟩ := HO5.out.s_cf rfl E A5 M.length c5
      refine wpAnyH_ready (rs := [8]) (by decide +kernel) (by simp) (AllReadyH.cons rfl (fun K hK => ?_) AllReadyH.nil)
      go_simp
      refine hK.out _ _ (hS.grown hg6 (by intro e; injection e with e; have := HG7.out; have := HS1.out; omega)) (fun hS => ?_)
      clear hK K
      (try simp only [Act.put])
      (refine wpAnyH_take (i := 9) (v := .int .i64 (ls.length : Int)) rfl (by kernel_rfl) (by kernel_rfl) (by kernel_rfl) (fun _ _ _ h => h) (Or.inl ⟨by kernel_rfl, fun w hSw => by go_simp⟩) hS ?_)
      (try simp only [Act.put])
      (refine wpAnyH_take (i := 10) (v := .int .i64 0) rfl (by kernel_rfl) (by kernel_rfl) (by kernel_rfl) (fun _ _ _ h => h) (Or.inl ⟨by kernel_rfl, fun w hSw => by go_simp⟩) hS ?_)
      (try simp only [Act.put])
      refine wpAnyH_done (by kernel_rfl) ?_ _
      go_simp
      go_wp2
      refine ret_cf3 (b := .int .i64 (ls.length : Int)) (c := .int .i64 0) rfl rfl rfl rfl rfl hb6 ?_
      exact ⟨A5, c5, by rw [HRS.out], by rw [HRS.out]; exact EK.Own.base (own_box HOW.out HO5.out (by decide) hg6) HD.out.size, HB5.out.trans (below_only hg6 (by omega) HB5.out.size)⟩
    have HLT := Lib.hid hlt
    have HLW := Lib.hid (HL.out.call HBW.out)
    obtain ⟨g, o, hA, hrl⟩ := row_link HLW.out.row hlt
    have lk := hrl wr (Below.refl _ _)
    have HST : Hid (res = if stepN E M hh (ls[k]'hlt).x = 0 then walkN (ls[k]'hlt).ep (ls[k]'hlt).ms (ls[k]'hlt).b.x.height (k + 1) ((ls.map LkM.x).drop (k + 1)) else ((0, []), k, stepN E M hh (ls[k]'hlt).x)) := Lib.hid (by
      rw [HW4.out, List.drop_eq_getElem_cons (by rw [List.length_map]; exact hlt), walkN_cons, List.getElem_map]
      rfl)
    have HFL := Lib.hid (HFW.out _ (List.getElem_mem hlt))
    have HLS := Lib.hid (HLW.out.each _ (List.getElem_mem hlt))
    have HL0 : Hid (∀ w', Below w.heap.size w w' → Mems w' w'.heap.size (ls[k]'hlt).M (ls[k]'hlt).ms) := Lib.hid (fun w' hb => ((HL.out.each _ (List.getElem_mem hlt)).call hb).mem)
    have i1 : (k : Int) < (ls.length : Int) := by omega
    have i0 : (0 : Int) ≤ (k : Int) := by omega
    have wk : IntKind.i64.wrap ((k : Int) + 1) = ((k + 1 : Nat) : Int) := by rw [IntKind.wrap_i64]; have := HLN.out; omega
    clear hrl HW4 HLW hk
    rw [hA]
    generalize ls[k]'hlt = l at *
    obtain ⟨w8, hst8, hb8, hbl8⟩ := laid_lk wr l
    have hav := al_lk wr
    have HX8 := Lib.hid hb8
    have HB8 := Lib.hid (HBW.out.trans (hbl8.mono HBW.out.size))
    have HK := Lib.hid (step_any15 E M B d HN4.out hh l HFL.out w8 (HM4.out.far hbl8) (HLS.out.call hbl8) (HR.out.of_below HB8.out))
    have HC8 := Lib.hid (HC4.out.below hbl8 HC4.out.lt)
    have HO8 := Lib.hid (HO4.out.below hbl8 HO4.out.lt)
    have HG10 : Hid (g7 < wr.heap.size) := Lib.hid HC4.out.lt
    have lc := HC8.out.l_cf
    have ll := hb8.ld_lk
    clear hb8 hbl8 hlt HBW HO4 HC4 HM4 HN4 HLS
    generalize hs : stepN E M hh l.x = s at *
    clear hs
    generalize wr.heap.size = g10 at *
    by_cases hs : s = 0
    rotate_left
    · have es : (s != 0) = true := by simpa using hs
      have HRS : Hid (res = ((0, []), k, s)) := Lib.hid (by rw [HST.out, if_neg hs])
      clear HST hs
      go_wp2_with (go_at_call 9; (with_reducible refine (HK.out).mono ?_); rintro e w9 ⟨rfl, hb⟩; have HB9 := Lib.hid (HB8.out.trans (hb.mono HB8.out.size)); obtain ⟨w3, hst, hb3, hg3⟩ := (HO8.out.below hb HO8.out.lt).s_cf rfl 0 none 0 0; have HB3 := Lib.hid hb3; have HG3 := Lib.hid hg3; clear hb hb3 hg3)
      exact ret_cf3 (b := .int .i64 (k : Int)) (c := .int .i64 s) rfl rfl rfl rfl rfl HB3.out (ChkIs.stop (k := k) HRS.out (HB9.out.trans (below_only HG3.out (by omega) HB9.out.size)))
    subst hs
    have es : ((0 : Int) != 0) = false := rfl
    have HRS : Hid (res = walkN l.ep l.ms l.b.x.height (k + 1) ((ls.map LkM.x).drop (k + 1))) := Lib.hid (by rw [HST.out, if_pos rfl])
    clear HST
    go_upto_region 12 with (go_at_call 9; (with_reducible refine (HK.out).mono ?_); rintro e w9 ⟨rfl, hb⟩; have HB9 := Lib.hid (HB8.out.trans (hb.mono HB8.out.size)); have HX9 := Lib.hid (HX8.out.below hb HX8.out.lt); have HC9 := Lib.hid (HC8.out.below hb HC8.out.lt); have HO9 := Lib.hid (HO8.out.below hb HO8.out.lt); clear hb)
    clear hst8 hav lc ll lk es HB8 HX8 HC8 HO8 HK
    obtain ⟨wd, hwd⟩ : ∃ wd, wd = w9.drew := ⟨_, rfl⟩
    have hbd : Below w9.heap.size w9 wd := by rw [hwd]; exact (Below.refl _ _).drew
    have HD := Lib.hid (HB9.out.trans (hbd.mono HB9.out.size))
    have HOD := Lib.hid (HO9.out.below hbd HO9.out.lt)
    have HCD := Lib.hid (HC9.out.below hbd HC9.out.lt)
    have HXD := Lib.hid (HX9.out.below hbd HX9.out.lt)
    obtain ⟨w11, hst, hb11, hg11⟩ := HCD.out.s_cf rfl l.ep l.M l.ms.length l.m
    refine wp_region_held_drew (S := fun w' => Box w' g10 40 (lkL l.b.cells l.r (.slice l.A l.vs.length l.c) l.ep (.slice l.M l.ms.length l.m)).toArray) (by kernel_rfl) (by rw [← hwd]; exact HXD.out) (fun hS => ?_)
    rw [← hwd] at hS ⊢
    clear hwd hbd HB9 HX9 HC9 HO9
    (refine wpAnyH_take (i := 0) (v := .pointer (some ⟨g10, 101, none⟩)) rfl (by kernel_rfl) (by kernel_rfl) (by kernel_rfl) (fun _ _ _ h => h) (Or.inl ⟨by kernel_rfl, fun w hSw => by go_simp⟩) hS ?_)
    (try simp only [Act.put])
    (refine wpAnyH_take (i := 1) (v := .agg (cfgV l.ep l.M l.ms.length l.m)) rfl (by kernel_rfl) (by kernel_rfl) (by kernel_rfl) (fun _ _ _ h => h) (Or.inl ⟨by kernel_rfl, fun w hSw => by have hc := Box.lk_cf l.b.cells_len hSw; go_simp⟩) hS ?_)
    (try simp only [Act.put])
    (refine wpAnyH_take (i := 2) (v := .pointer (some ⟨g10, 0, none⟩)) rfl (by kernel_rfl) (by kernel_rfl) (by kernel_rfl) (fun _ _ _ h => h) (Or.inl ⟨by kernel_rfl, fun w hSw => by go_simp⟩) hS ?_)
    (try simp only [Act.put])
    (refine wpAnyH_take (i := 3) (v := .pointer (some ⟨g10, 1, none⟩)) rfl (by kernel_rfl) (by kernel_rfl) (by kernel_rfl) (fun _ _ _ h => h) (Or.inl ⟨by kernel_rfl, fun w hSw => by go_simp⟩) hS ?_)
    (try simp only [Act.put])
    (refine wpAnyH_take (i := 4) (v := .int .i64 l.b.x.height) rfl (by kernel_rfl) (by kernel_rfl) (by kernel_rfl) (fun _ _ _ h => h) (Or.inl ⟨by kernel_rfl, fun w hSw => by have hc := Box.lk_1 hSw; go_simp⟩) hS ?_)
    (try simp only [Act.put])
    refine wpAnyH_ready (rs := [5]) (by decide +kernel) (by simp) (AllReadyH.cons rfl (fun K hK => ?_) AllReadyH.nil)
    go_simp
    refine hK.out _ _ (hS.grown hg11 (by intro e; injection e with e; have := HG10.out; omega)) (fun hS => ?_)
    clear hK K
    (try simp only [Act.put])
    (refine wpAnyH_take (i := 6) (v := .int .i64 l.b.x.height) rfl (by kernel_rfl) (by kernel_rfl) (by kernel_rfl) (fun _ _ _ h => h) (Or.inl ⟨by kernel_rfl, fun w hSw => by go_simp⟩) hS ?_)
    (try simp only [Act.put])
    refine wpAnyH_done (by kernel_rfl) ?_ _
    have HCE := Lib.hid hb11
    have HBE := Lib.hid (HD.out.trans (below_only hg11 (by have := HG7.out; have := HS1.out; omega) HD.out.size))
    have HOE : Hid (Box w11 (w.heap.size + 1) 24 (cfgV 0 none 0 0)) := Lib.hid (HOD.out.grown hg11 (by intro e; injection e with e; have := HG7.out; have := HS1.out; omega))
    have HME := Lib.hid (HL0.out w11 HBE.out)
    have HNE : Hid (l.ms.length ≤ 1099511627776) := Lib.hid (by have := HFL.out.mem; omega)
    clear hb11 hg11 hst hS
    go_simp
    go_wp2
    go_roundw
    case rel => exact ⟨k + 1, l.ep, l.ms, l.M, l.m, l.b.x.height, HLT.out, rfl, by go_num, HBE, HOE, HCE, HME, HNE, HRS⟩
    case measure => have := HLT.out; simp [intOf]; omega
end Go.Proofs.YtbclepdcngaonaaDoor
