/-
  A configuration's bytes and digest, by the document: wapentakeref08.Bytes, wapentakeref08.Digest.
  Whether a link leads, by the document: wapentakeref15.Step. Written by gen_lkrstep.py.
  Where a chain leads, by the document: wapentakeref15.Check.
-/
import Derived.Test.YtbclepdcngaonaaGreatDoorMA
import Derived.Test.YtbclepdcngaonaaGreatDoorEJ
import Derived.Test.YtbclepdcngaonaaGreatDoorTG
import Derived.Test.YtbclepdcngaonaaGreatDoorOB
import Derived.Lib.QuietBelow
import Derived.BigQuiet
import Derived.Test.YtbclepdcngaonaaGreatDoorEG
namespace Go.Proofs.YtbclepdcngaonaaGreatDoor
open Go.RowKit Go.Maps Go.Sort

attribute [local go_sem ↓] ldMem_def stMem_def ldDigest_def
set_option maxRecDepth 100000 in
set_option maxHeartbeats 8000000 in
theorem rcfgbytes_any (ep : Int) (hE : R64 ep) (ms : List MemX) (hN : ∀ m ∈ ms, R64 m.id ∧ R64 m.high) (A : Option Addr) (c : Nat) (hn : ms.length ≤ 1000000) (w : World) (hS : Mems w w.heap.size A ms) :
    Calls Tryz.prog 36 #[.agg (cfgV ep A ms.length c)] w fun e w' => e = .returned (str (cfgB ep ms)) ∧ Below w.heap.size w w' := by
  obtain ⟨w1, hw1⟩ : ∃ w1, w1 = w.alloc (.cells (cfgV ep A ms.length c) 24) := ⟨_, rfl⟩
  have HX : Hid (Box w1 w.heap.size 24 (cfgV ep A ms.length c)) := by rw [hw1]; exact Box.made w _ _
  have HF : Hid (Below w.heap.size w w1) := by rw [hw1]; exact (Below.refl _ _).alloc (Nat.le_refl _) _
  have HS := Lib.hid (hS.far HF.out)
  have HNM := Lib.hid hN
  have HL := Lib.hid hn
  have HC : Hid (∀ w', Below w1.heap.size w1 w' → w'.cell? ⟨w.heap.size, 0, none⟩ = some (.int .i64 ep) ∧ w'.cell? ⟨w.heap.size, 1, none⟩ = some (.slice A ms.length c)) := Lib.hid (fun w' hb => by
    have h := HX.out.below hb HX.out.lt
    exact ⟨h.cell 0, h.cell 1⟩)
  have K0 : Hid (∀ d os, Calls Tryz.prog 66 #[.int .i64 ep] (grow (redrawn w1 d) os) fun e w'' => e = .returned (str (numBytes ep)) ∧ ∃ p : Regrown, w'' = grow (redrawn w1 p.d) p.os) := Lib.hid (fun d os => Calls.regrown_of (refnum_any _ hE.1 hE.2 _))
  have K1 : Hid (∀ d os, Calls Tryz.prog 66 #[.int .i64 (ms.length : Int)] (grow (redrawn w1 d) os) fun e w'' => e = .returned (str (numBytes (ms.length : Int))) ∧ ∃ p : Regrown, w'' = grow (redrawn w1 p.d) p.os) := Lib.hid (fun d os => Calls.regrown_of (refnum_any _ (by omega) (by omega) _))
  obtain ⟨q5, hq5⟩ : ∃ q5, q5 = numBytes ep ++ numBytes (ms.length : Int) := ⟨_, rfl⟩
  have HB5 : Hid (cfgB ep ms = q5 ++ ms.flatMap memB) := Lib.hid (by
    rw [hq5]
    unfold cfgB
    simp)
  have HQ5 : Hid (q5.length = 16) := Lib.hid (by
    rw [hq5]
    simp only [List.length_append, numBytes_len])
  obtain ⟨s5, t5, u5⟩ := cat14c hq5.symm (k := 1000) (by rw [numBytes_len]; omega) (by rw [numBytes_len]; omega)
  have Q0 : ∀ d os, (grow (redrawn w1 d) os).cell? ⟨w.heap.size, 0, none⟩ = some (.int .i64 ep) := fun d os => (HC.out _ (below_regrown w1 d os)).1
  have Q1 : ∀ d os, (grow (redrawn w1 d) os).cell? ⟨w.heap.size, 1, none⟩ = some (.slice A ms.length c) := fun d os => (HC.out _ (below_regrown w1 d os)).2
  have HC1 : Hid (∀ w', Below w1.heap.size w1 w' → w'.cell? ⟨w.heap.size, 1, none⟩ = some (.slice A ms.length c)) := Lib.hid (fun w' hb => (HC.out w' hb).2)
  clear HC HX hS hN hn hE hq5
  obtain ⟨RES, hRES⟩ : ∃ R, R = str (cfgB ep ms) := ⟨_, rfl⟩
  have HRS := Lib.hid hRES
  rw [← hRES]
  clear hRES
  generalize hCF : cfgV ep A ms.length c = CF at *
  clear hCF
  generalize numBytes ep = p0 at *
  generalize numBytes (ms.length : Int) = p1 at *
  go_enter Tryz.func36, Tryz.ntmps36
  go_upto_region 1 with fail
  change Code.wp _ _ _ _ (w.alloc (.cells CF 24))
  rw [← hw1]
  clear hw1
  refine wp_region_quiet_below (by kernel_rfl) (by kernel_rfl) ?_
  repeat (go_big_quiet_step (first
    | (go_at_call 66; with_reducible exact K0.out _ _)
    | (go_at_call 66; with_reducible exact K1.out _ _)))
  refine wpQuiet_nil ?_
  intro _ hw'
  obtain ⟨⟨dq, osq⟩, hw''⟩ := hw'
  subst hw''
  have HB7 := Lib.hid (below_regrown w1 dq osq)
  clear Q0 Q1 K0 K1 s5 t5 u5
  generalize grow (redrawn w1 dq) osq = w7 at *
  have c98 := HC1.out w7 HB7.out
  go_wp2
  clear c98 HC1
  have HF7 := Lib.hid (HF.out.trans (HB7.out.mono HF.out.size))
  have HS7 := Lib.hid (HS.out.far HB7.out)
  have HSA : Hid (q5 = q5 ++ (ms.take 0).flatMap memB) := Lib.hid (by simp)
  clear HS HB7 HF
  go_loopw [3, 17] (fun s i wr => ∃ (k : Nat) (T : List UInt8), k ≤ ms.length ∧ s = .string ⟨T.toArray⟩ ∧ Hid (T = q5 ++ (ms.take k).flatMap memB) ∧ i = .int .i64 (k : Int) ∧ Hid (Below w7.heap.size w7 wr)) (fun _ i _ => ms.length - (intOf i).toNat)
  case atStart => exact ⟨0, _, Nat.zero_le _, rfl, HSA, rfl, Lib.hid (Below.refl _ _)⟩
  case round =>
    clear HSA
    obtain ⟨k, T, hk, rfl, HT', rfl, HW⟩ := hrel
    by_cases hlt : k < ms.length
    · have HLT := Lib.hid hlt
      obtain ⟨g, o, hA, _, hr⟩ := (HS7.out.far HW.out).range hlt
      have lk : (ldMem (.pointer (some ⟨g, o + k * 34, none⟩))).run Tryz.prog wr = .ok (.agg (ms[k]'hlt).cells.toArray) wr := range_ldm (hr k hlt)
      have i1 : (k : Int) < (ms.length : Int) := by omega
      have i0 : (0 : Int) ≤ (k : Int) := by omega
      have wk : IntKind.i64.wrap ((k : Int) + 1) = ((k + 1 : Nat) : Int) := by rw [IntKind.wrap_i64]; have := HL.out; omega
      obtain ⟨w4, hst0, hb4, hbl4⟩ := laid_mem wr (ms[k]'hlt)
      have hst := hst0
      unfold MemX.enc zmemV at hst
      have HB4 := Lib.hid (HW.out.trans (hbl4.mono HW.out.size))
      have HX4 := Lib.hid hb4
      have HM := Lib.hid (HNM.out _ (List.getElem_mem hlt))
      have HM2 : Hid (memB (ms[k]'hlt) = (numBytes (ms[k]'hlt).id ++ numBytes (ms[k]'hlt).high) ++ (ms[k]'hlt).root) := Lib.hid (by unfold memB; simp)
      have ht1 : T.length ≤ 48000016 := by
        rw [HT'.out, List.length_append, HQ5.out, mems_len, List.length_take]
        have := HL.out
        omega
      have HT2 : Hid (((T ++ numBytes (ms[k]'hlt).id) ++ numBytes (ms[k]'hlt).high) ++ (ms[k]'hlt).root = q5 ++ (ms.take (k + 1)).flatMap memB) := Lib.hid (by
        rw [flat_snoc memB ms k hlt, HM2.out, HT'.out]
        simp only [List.append_assoc])
      clear hr hk HM2 HT' hst0 hb4 hbl4
      rw [hA]
      have HRL : Hid ((ms[k]'hlt).root.length = 32) := Lib.hid (ms[k]'hlt).len
      generalize ms[k]'hlt = m at *
      have R0 : ∀ d os, (grow (redrawn w4 d) os).cell? ⟨wr.heap.size, 0, none⟩ = some (.int .i64 m.id) := fun d os => by rw [(HX4.out.below (below_regrown w4 d os) HX4.out.lt).cell, List.getElem?_toArray, MemX.cell0]
      have R1 : ∀ d os, (grow (redrawn w4 d) os).cell? ⟨wr.heap.size, 33, none⟩ = some (.int .i64 m.high) := fun d os => by rw [(HX4.out.below (below_regrown w4 d os) HX4.out.lt).cell, List.getElem?_toArray, MemX.cell33]
      have R2 : ∀ d os, (ldDigest (.pointer (some ⟨wr.heap.size, 1, none⟩))).run Tryz.prog (grow (redrawn w4 d) os) = .ok (.agg (m.root.map bv).toArray) (grow (redrawn w4 d) os) := fun d os => range_load (m.root_at (HX4.out.below (below_regrown w4 d os) HX4.out.lt)) m.len
      have K2 : Hid (∀ d os, Calls Tryz.prog 66 #[.int .i64 m.id] (grow (redrawn w4 d) os) fun e w'' => e = .returned (str (numBytes m.id)) ∧ ∃ p : Regrown, w'' = grow (redrawn w4 p.d) p.os) := Lib.hid (fun d os => Calls.regrown_of (refnum_any _ HM.out.1.1 HM.out.1.2 _))
      have K3 : Hid (∀ d os, Calls Tryz.prog 66 #[.int .i64 m.high] (grow (redrawn w4 d) os) fun e w'' => e = .returned (str (numBytes m.high)) ∧ ∃ p : Regrown, w'' = grow (redrawn w4 p.d) p.os) := Lib.hid (fun d os => Calls.regrown_of (refnum_any _ HM.out.2.1 HM.out.2.2 _))
      have K4 : Hid (∀ d os, Calls Tryz.prog 68 #[.agg (m.root.map bv).toArray] (grow (redrawn w4 d) os) fun e w'' => e = .returned (str m.root) ∧ ∃ p : Regrown, w'' = grow (redrawn w4 p.d) p.os) := Lib.hid (fun d os => Calls.regrown_of (digstr_any _ m.len _))
      obtain ⟨U1, hU1⟩ : ∃ U, T ++ numBytes m.id = U := ⟨_, rfl⟩
      obtain ⟨U2, hU2⟩ : ∃ U, U1 ++ numBytes m.high = U := ⟨_, rfl⟩
      obtain ⟨U3, hU3⟩ : ∃ U, U2 ++ m.root = U := ⟨_, rfl⟩
      rw [hU1, hU2, hU3] at HT2
      have hu1 : U1.length ≤ 48000024 := by rw [← hU1, List.length_append, numBytes_len]; omega
      have hu2 : U2.length ≤ 48000032 := by rw [← hU2, List.length_append, numBytes_len]; omega
      obtain ⟨s1, t1, v1⟩ := cat14c hU1 (k := 5000000000) (by omega) (by rw [numBytes_len]; omega)
      obtain ⟨s2, t2, v2⟩ := cat14c hU2 (k := 5000000000) (by omega) (by rw [numBytes_len]; omega)
      obtain ⟨s3, t3, v3⟩ := cat14c hU3 (k := 5000000000) (by omega) (by rw [m.len]; omega)
      clear hU1 hU2 hU3 hu1 hu2 ht1 HM HX4
      generalize numBytes m.id = n0 at *
      generalize numBytes m.high = n1 at *
      generalize (m.root.map bv).toArray = RV at *
      generalize m.root = rt at *
      go_upto_region 5 with fail
      clear hst lk
      refine wp_region_quiet_below (by kernel_rfl) (by kernel_rfl) ?_
      repeat (go_big_quiet_step (first
        | (go_at_call 66; with_reducible exact K2.out _ _)
        | (go_at_call 66; with_reducible exact K3.out _ _)
        | (go_at_call 68; with_reducible exact K4.out _ _)))
      refine wpQuiet_nil ?_
      intro _ hw'
      obtain ⟨⟨dq, osq⟩, hw''⟩ := hw'
      subst hw''
      have HW5 := Lib.hid (HB4.out.trans ((below_regrown w4 dq osq).mono HB4.out.size))
      clear R0 R1 R2 K2 K3 K4 s1 t1 v1 s2 t2 v2 s3 t3 v3
      generalize grow (redrawn w4 dq) osq = w5 at *
      go_wp2
      go_roundw
      case rel => exact ⟨k + 1, U3, HLT.out, rfl, HT2, by go_num, HW5⟩
      case measure => have := HLT.out; simp [intOf]; omega
    · have i1 : ¬ (k : Int) < (ms.length : Int) := by omega
      have hE : cfgB ep ms = T := by
        rw [HB5.out, HT'.out, List.take_of_length_le (by omega)]
      go_wp2
      go_ret
      exact ⟨ret_val (by rw [HRS.out, hE]; rfl), HF7.out.trans (HW.out.mono HF7.out.size)⟩

attribute [local go_sem ↓] ldCf_def stDigest_def
set_option maxRecDepth 100000 in
set_option maxHeartbeats 4000000 in
theorem rcfgdgt_any (ep : Int) (hE : R64 ep) (ms : List MemX) (hN : ∀ m ∈ ms, R64 m.id ∧ R64 m.high) (A : Option Addr) (c : Nat) (hn : ms.length ≤ 1000000) (w : World) (hS : Mems w w.heap.size A ms) :
    Calls Tryz.prog 29 #[.agg (cfgV ep A ms.length c)] w fun e w' => e = .returned (.agg ((cfgD ep ms).map bv).toArray) ∧ Below w.heap.size w w' := by
  obtain ⟨w1, hw1⟩ : ∃ w1, w1 = (w.alloc (.cells (cfgV ep A ms.length c) 24)).alloc (.cells zs32 29) := ⟨_, rfl⟩
  have hX : Box w1 w.heap.size 24 (cfgV ep A ms.length c) := by rw [hw1]; exact (Box.made w _ _).alloc _
  have HO : Hid (Box w1 (w.heap.size + 1) 29 zs32) := by rw [hw1]; exact Box.made_at (by simp) _ _
  have HF : Hid (Below w.heap.size w w1) := by rw [hw1]; exact ((Below.refl _ _).alloc (Nat.le_refl _) _).alloc (by simp) _
  have lb := hX.l_cf
  have HB := Lib.hid (rcfgbytes_any ep hE ms hN A c hn w1 (hS.far HF.out))
  have hbl : (cfgB ep ms).length ≤ 48000016 := by rw [cfgB_len15]; omega
  obtain ⟨X, hX'⟩ : ∃ X, cfMark ++ cfgB ep ms = X := ⟨_, rfl⟩
  have HT : Hid (∀ w', Calls Tryz.prog 59 #[.string ⟨X.toArray⟩] w' fun e w'' => e = .returned (.agg ((cfgD ep ms).map bv).toArray) ∧ Below w'.heap.size w' w'') := Lib.hid (fun w' => by
    have h := text_any X (by rw [← hX', List.length_append]; simp only [cfMark, List.length_cons, List.length_nil]; omega) w'
    rw [← hX'] at h ⊢
    exact h)
  obtain ⟨s1, t1, u1⟩ := cat14c hX' (k := 5000000000) (by simp only [cfMark, List.length_cons, List.length_nil]; omega) (by omega)
  have hs1 := Nat.add_le_add t1 u1
  simp only [cfMark, List.length_cons, List.length_nil] at s1 t1 hs1
  have HDL := Lib.hid (cfgD_len ep ms)
  clear hX hE hN hn hS hX' hbl
  generalize cfgB ep ms = bs at *
  generalize cfgD ep ms = d at *
  generalize cfgV ep A ms.length c = cs at *
  go_enter Tryz.func29, Tryz.ntmps29
  go_upto_region 1 with fail
  change Code.wp _ _ _ _ ((w.alloc (.cells cs 24)).alloc (.cells zs32 29))
  rw [← hw1]
  clear hw1
  go_wp2_with (first | (go_at_call 36; (with_reducible refine (HB.out).mono ?_); rintro e w2 ⟨rfl, hb2⟩; have HB2 := Lib.hid hb2; clear hb2) | (go_at_call 59; (with_reducible refine (HT.out _).mono ?_); rintro e w3 ⟨rfl, hb3⟩; have HB3 := Lib.hid (HB2.out.trans (hb3.mono HB2.out.size)); clear hb3; have hst := (HO.out.below HB3.out HO.out.lt).store_digest rfl d HDL.out))
  have HF3 := HF.out.trans (HB3.out.mono HF.out.size)
  exact ret_dig rfl rfl rfl ((HO.out.below HB3.out HO.out.lt).cells_dig rfl HDL.out) HDL.out ⟨rfl, below_cells HF3 (by omega) HF3.size 0 _⟩
end Go.Proofs.YtbclepdcngaonaaGreatDoor

namespace Go.Proofs.YtbclepdcngaonaaGreatDoor
open Go.RowKit Go.Maps Go.Sort

/-- A link whose numbers are such that memory can hold. -/
structure LkNum (l : LkM) : Prop where
  epoch : R64 l.b.x.epoch
  height : R64 l.b.x.height
  reqs : ∀ q ∈ l.b.x.reqs, R64 q.client ∧ R64 q.num ∧ R64 q.kind ∧ R64 q.ck ∧ R64 q.cid ∧ R64 q.cn ∧ R64 q.high
  votes : ∀ m ∈ l.vs, VtNum m.x ∧ R64 m.x.leaf
  ep : R64 l.ep
  mem : ∀ m ∈ l.ms, R64 m.id ∧ R64 m.high

attribute [local go_sem ↓] ldCf_def ldBlk_def ldCt_def ldLk_def ldDigest_def eqDigest_def
set_option maxRecDepth 100000 in
set_option maxHeartbeats 8000000 in
theorem rstep_any15 (ep : Int) (ms : List MemX) (AM : Option Addr) (cM : Nat) (hn : ms.length ≤ 1099511627776) (h : Int) (l : LkM) (hf : LkFew l) (hnum : LkNum l) (w : World) (hM : Mems w w.heap.size AM ms) (hL : LkSee w l) :
    Calls Tryz.prog 8 #[.agg (cfgV ep AM ms.length cM), .int .i64 h, .agg l.cells.toArray] w fun e w' => e = .returned (.int .i64 (stepN ep ms h l.x)) ∧ Below w.heap.size w w' := by
  obtain ⟨w1, hw1⟩ : ∃ w1, w1 = (w.alloc (.cells (cfgV ep AM ms.length cM) 24)).alloc (.cells l.cells.toArray 37) := ⟨_, rfl⟩
  have hX : Box w1 w.heap.size 24 (cfgV ep AM ms.length cM) := by rw [hw1]; exact (Box.made w _ _).alloc _
  have hY : Box w1 (w.heap.size + 1) 37 (lkL l.b.cells l.r (.slice l.A l.vs.length l.c) l.ep (.slice l.M l.ms.length l.m)).toArray := by rw [hw1]; exact Box.made_at (by simp) _ _
  have HF : Hid (Below w.heap.size w w1) := by rw [hw1]; exact ((Below.refl _ _).alloc (Nat.le_refl _) _).alloc (by simp) _
  have HC : Hid (∀ w', Below w1.heap.size w1 w' → (ldCf (.pointer (some ⟨w.heap.size, 0, none⟩))).run Tryz.prog w' = .ok (.agg (cfgV ep AM ms.length cM)) w' ∧ w'.cell? ⟨w.heap.size, 0, none⟩ = some (.int .i64 ep) ∧ w'.cell? ⟨w.heap.size + 1, 1, none⟩ = some (.int .i64 l.b.x.height) ∧ (ldCf (.pointer (some ⟨w.heap.size + 1, 101, none⟩))).run Tryz.prog w' = .ok (.agg (cfgV l.ep l.M l.ms.length l.m)) w' ∧ w'.cell? ⟨w.heap.size + 1, 101, none⟩ = some (.int .i64 l.ep) ∧ (ldBlk (.pointer (some ⟨w.heap.size + 1, 0, none⟩))).run Tryz.prog w' = .ok (.agg l.b.cells.toArray) w' ∧ (ldCt (.pointer (some ⟨w.heap.size + 1, 99, none⟩))).run Tryz.prog w' = .ok (.agg (crtV l.r l.A l.vs.length l.c)) w' ∧ (ldDigest (.pointer (some ⟨w.heap.size + 1, 66, none⟩))).run Tryz.prog w' = .ok (.agg (l.b.x.next.map bv).toArray) w') := Lib.hid (fun w' hb => by
    have hx := hX.below hb hX.lt
    have hy := hY.below hb hY.lt
    exact ⟨hx.l_cf, hx.cell 0, hy.lk_1, hy.lk_cf l.b.cells_len, hy.lk_101 l.b.cells_len, hy.lk_blk, hy.lk_ct l.b.cells_len, range_load hy.lk_next l.b.x.ln⟩)
  have HL1 := Lib.hid (hL.call HF.out)
  have HM1 := Lib.hid (hM.far HF.out)
  have HGC : Hid (∀ w', Below w1.heap.size w1 w' → Calls Tryz.prog 27 #[.agg (cfgV l.ep l.M l.ms.length l.m)] w' fun e w'' => e = .returned (.bool (goodB l.ep l.ms)) ∧ Below w'.heap.size w' w'') := Lib.hid (fun w' hb => rgood_any8 l.ms l.ep l.M l.m (Nat.le_trans hf.mem (by simp [maxLen])) w' (HL1.out.mem.far hb))
  have HCK : Hid (∀ w', Below w1.heap.size w1 w' → Calls Tryz.prog 28 #[.agg (cfgV ep AM ms.length cM), .agg l.b.cells.toArray, .agg (crtV l.r l.A l.vs.length l.c)] w' fun e w'' => e = .returned (.bool (certB ep ms l.b.x l.r (l.vs.map VtM.x))) ∧ Below w'.heap.size w' w'') := Lib.hid (fun w' hb =>
    rcheck_any14 ms ep AM cM hn l.b hf.blk hnum.epoch hnum.height hnum.reqs l.r l.vs l.A l.c hf.len (fun m hm => (hnum.votes m hm).1) w' (HM1.out.far hb) (HL1.out.call hb).blk (HL1.out.call hb).vts (HL1.out.call hb).sgs)
  have HDG : Hid (∀ w', Below w1.heap.size w1 w' → Calls Tryz.prog 29 #[.agg (cfgV l.ep l.M l.ms.length l.m)] w' fun e w'' => e = .returned (.agg ((cfgD l.ep l.ms).map bv).toArray) ∧ Below w'.heap.size w' w'') := Lib.hid (fun w' hb => rcfgdgt_any l.ep hnum.ep l.ms hnum.mem l.M l.m hf.mem w' (HL1.out.call hb).mem)
  have ed := eq_digest (cfgD l.ep l.ms) l.b.x.next (cfgD_len _ _) l.b.x.ln
  have HE : Hid (stepN ep ms h l.x = if (decide (l.b.x.height ≤ h) || (!goodB l.ep l.ms || decide (l.ep ≤ ep))) = true then 12 else if certB ep ms l.b.x l.r (l.vs.map VtM.x) = false then 10 else if decide (cfgD l.ep l.ms = l.b.x.next) = true then 0 else 13) := Lib.hid (by
    unfold stepN LkM.x
    simp only [decide_eq_true_eq])
  clear hX hY hn hf hnum hM hL HL1 HM1
  generalize stepN ep ms h l.x = res at *
  generalize decide (cfgD l.ep l.ms = l.b.x.next) = dq at *
  generalize ((cfgD l.ep l.ms).map bv).toArray = P1 at *
  generalize (l.b.x.next.map bv).toArray = Q1 at *
  generalize goodB l.ep l.ms = g0 at *
  generalize certB ep ms l.b.x l.r (l.vs.map VtM.x) = g1 at *
  generalize cfgV ep AM ms.length cM = CF at *
  generalize cfgV l.ep l.M l.ms.length l.m = CL at *
  generalize crtV l.r l.A l.vs.length l.c = CT at *
  generalize l.b.cells.toArray = BC at *
  generalize l.b.x.height = hh at *
  generalize l.ep = el at *
  generalize l.cells.toArray = LC at *
  go_enter Tryz.func8, Tryz.ntmps8
  go_upto_region 1 with fail
  change Code.wp _ _ _ _ ((w.alloc (.cells CF 24)).alloc (.cells LC 37))
  rw [← hw1]
  clear hw1
  obtain ⟨_, k1, k2, k3, k4, _⟩ := HC.out w1 (Below.refl _ _)
  by_cases hh0 : hh ≤ h
  · have e1 : decide (hh ≤ h) = true := decide_eq_true hh0
    have HRS : Hid (res = 12) := Lib.hid (by rw [HE.out, e1]; rfl)
    clear HE
    go_wp2
    go_ret
    exact ⟨ret_val (congrArg (Value.int .i64) HRS.out.symm), HF.out⟩
  have e1 : decide (hh ≤ h) = false := decide_eq_false hh0
  have HG1 := Lib.hid (HGC.out w1 (Below.refl _ _))
  cases g0 with
  | false =>
    have HRS : Hid (res = 12) := Lib.hid (by rw [HE.out, e1]; rfl)
    clear HE
    go_wp2_with (go_at_call 27; (with_reducible refine (HG1.out).mono ?_); rintro e w2 ⟨rfl, hb⟩; have HB2 := Lib.hid hb; clear hb)
    go_ret
    exact ⟨ret_val (congrArg (Value.int .i64) HRS.out.symm), HF.out.trans (HB2.out.mono HF.out.size)⟩
  | true =>
  by_cases hep : el ≤ ep
  · have e2 : decide (el ≤ ep) = true := decide_eq_true hep
    have HRS : Hid (res = 12) := Lib.hid (by rw [HE.out, e1, e2]; rfl)
    clear HE
    go_wp2_with (go_at_call 27; (with_reducible refine (HG1.out).mono ?_); rintro e w2 ⟨rfl, hb⟩; have HB2 := Lib.hid hb; obtain ⟨_, j1, _, _, j4, _⟩ := HC.out w2 hb; clear hb)
    go_ret
    exact ⟨ret_val (congrArg (Value.int .i64) HRS.out.symm), HF.out.trans (HB2.out.mono HF.out.size)⟩
  have e2 : decide (el ≤ ep) = false := decide_eq_false hep
  cases g1 with
  | false =>
    have HRS : Hid (res = 10) := Lib.hid (by rw [HE.out, e1, e2]; rfl)
    clear HE
    go_wp2_with (first
      | (go_at_call 27; (with_reducible refine (HG1.out).mono ?_); rintro e w2 ⟨rfl, hb⟩; have HB2 := Lib.hid hb; obtain ⟨j0, j1, _, _, j4, j5, j6, _⟩ := HC.out w2 hb; have HK2 := Lib.hid (HCK.out w2 hb); clear hb)
      | (go_at_call 28; (with_reducible refine (HK2.out).mono ?_); rintro e w3 ⟨rfl, hb⟩; have HB3 := Lib.hid (HB2.out.trans (hb.mono HB2.out.size)); clear hb))
    go_ret
    exact ⟨ret_val (congrArg (Value.int .i64) HRS.out.symm), HF.out.trans (HB3.out.mono HF.out.size)⟩
  | true =>
  have HRS : Hid (res = if dq = true then 0 else 13) := Lib.hid (by rw [HE.out, e1, e2]; rfl)
  clear HE hh0 hep
  go_upto_region 5 with (first
    | (go_at_call 27; (with_reducible refine (HG1.out).mono ?_); rintro e w2 ⟨rfl, hb⟩; have HB2 := Lib.hid hb; obtain ⟨j0, j1, _, _, j4, j5, j6, _⟩ := HC.out w2 hb; have HK2 := Lib.hid (HCK.out w2 hb); clear hb)
    | (go_at_call 28; (with_reducible refine (HK2.out).mono ?_); rintro e w3 ⟨rfl, hb⟩; have HB3 := Lib.hid (HB2.out.trans (hb.mono HB2.out.size)); clear hb))
  clear k1 k2 k3 k4 j0 j1 j4 j5 j6 HK2 HG1 HCK HGC HB2
  obtain ⟨wd, hwd⟩ : ∃ wd, wd = w3.drew := ⟨_, rfl⟩
  have hbd : Below w1.heap.size w1 wd := by rw [hwd]; exact HB3.out.trans (((Below.refl _ _).drew).mono HB3.out.size)
  refine wp_region_held_drew (S := fun w' => Below w1.heap.size w1 w') (by kernel_rfl) (by rw [← hwd]; exact hbd) (fun hS => ?_)
  rw [← hwd] at hS ⊢
  clear hwd hbd
  (refine wpAnyH_take (i := 0) (v := .pointer (some ⟨w.heap.size + 1, 101, none⟩)) rfl (by kernel_rfl) (by kernel_rfl) (by kernel_rfl) (fun _ _ _ h => h) (Or.inl ⟨by kernel_rfl, fun w hSw => by go_simp⟩) hS ?_)
  (try simp only [Act.put])
  (refine wpAnyH_take (i := 1) (v := .agg CL) rfl (by kernel_rfl) (by kernel_rfl) (by kernel_rfl) (fun _ _ _ h => h) (Or.inl ⟨by kernel_rfl, fun w hSw => by have hc := (HC.out w hSw).2.2.2.1; go_simp⟩) hS ?_)
  (try simp only [Act.put])
  (refine wpAnyH_take (i := 3) (v := .pointer (some ⟨w.heap.size + 1, 0, none⟩)) rfl (by kernel_rfl) (by kernel_rfl) (by kernel_rfl) (fun _ _ _ h => h) (Or.inl ⟨by kernel_rfl, fun w hSw => by go_simp⟩) hS ?_)
  (try simp only [Act.put])
  (refine wpAnyH_take (i := 4) (v := .pointer (some ⟨w.heap.size + 1, 66, none⟩)) rfl (by kernel_rfl) (by kernel_rfl) (by kernel_rfl) (fun _ _ _ h => h) (Or.inl ⟨by kernel_rfl, fun w hSw => by go_simp⟩) hS ?_)
  (try simp only [Act.put])
  (refine wpAnyH_take (i := 5) (v := .agg Q1) rfl (by kernel_rfl) (by kernel_rfl) (by kernel_rfl) (fun _ _ _ h => h) (Or.inl ⟨by kernel_rfl, fun w hSw => by have hc := (HC.out w hSw).2.2.2.2.2.2.2; go_simp⟩) hS ?_)
  (try simp only [Act.put])
  refine wpAnyH_ready (rs := [2]) (by decide +kernel) (by simp) (AllReadyH.cons rfl (fun K hK => ?_) AllReadyH.nil)
  go_simp
  (go_at_call 29; (with_reducible refine (HDG.out _ hS).mono ?_); rintro e w4 ⟨rfl, hb⟩)
  refine hK.out _ _ (hS.trans (hb.mono hS.size)) (fun hS => ?_)
  clear hK K
  (try simp only [Act.put])
  clear hb
  (refine wpAnyH_take (i := 6) (v := .bool (!dq)) rfl (by kernel_rfl) (by kernel_rfl) (by kernel_rfl) (fun _ _ _ h => h) (Or.inl ⟨by kernel_rfl, fun w hSw => by have hc := ed w; go_simp⟩) hS ?_)
  (try simp only [Act.put])
  refine wpAnyH_done (by kernel_rfl) ?_ _
  have HB9 := Lib.hid hS
  clear hS HDG ed
  go_simp
  cases dq with
  | true =>
    go_wp2
    go_ret
    exact ⟨ret_val (congrArg (Value.int .i64) HRS.out.symm), HF.out.trans (HB9.out.mono HF.out.size)⟩
  | false =>
    go_wp2
    go_ret
    exact ⟨ret_val (congrArg (Value.int .i64) HRS.out.symm), HF.out.trans (HB9.out.mono HF.out.size)⟩
end Go.Proofs.YtbclepdcngaonaaGreatDoor

namespace Go.Proofs.YtbclepdcngaonaaGreatDoor
open Go.RowKit Go.Maps Go.Sort

/-- What a chain is answered by the document: the members may lie anywhere. -/
def RChkIs (w : World) (r : (Int × List MemX) × Nat × Int) (e : Ending) (w' : World) : Prop :=
  ∃ A c, e = .returned (.tuple #[.agg (cfgV r.1.1 A r.1.2.length c), .int .i64 (r.2.1 : Int), .int .i64 r.2.2]) ∧ Mems w' w'.heap.size A r.1.2 ∧ Below w.heap.size w w'
set_option maxRecDepth 100000 in
theorem RChkIs.stop {w w' : World} {k : Nat} {x : Int} {r : (Int × List MemX) × Nat × Int} (hr : r = ((0, []), k, x)) (h : Below w.heap.size w w') : RChkIs w r (.returned (.tuple #[.agg (cfgV 0 none 0 0), .int .i64 (k : Int), .int .i64 x])) w' := by
  subst hr
  exact ⟨none, 0, rfl, .inl rfl, h⟩

attribute [local go_sem ↓] ldCf_def stCf_def ldLk_def stLk_def alLk_def bdCf15_def
set_option maxRecDepth 100000 in
set_option maxHeartbeats 16000000 in
theorem rlcheck_any15 (ep : Int) (ms : List MemX) (AM : Option Addr) (cM : Nat) (hn : ms.length ≤ 1000000) (ls : List LkM) (A : Option Addr) (c : Nat) (hl : ls.length ≤ 1000000) (hf : ∀ l ∈ ls, LkFew l) (hnum : ∀ l ∈ ls, LkNum l) (w : World) (hM : Mems w w.heap.size AM ms) (hL : LksSee w A ls) :
    Calls Tryz.prog 10 #[.agg (cfgV ep AM ms.length cM), .slice A ls.length c] w (RChkIs w (checkN ep ms (ls.map LkM.x))) := by
  obtain ⟨w1, hw1⟩ : ∃ w1, w1 = (w.alloc (.cells (cfgV ep AM ms.length cM) 24)).alloc (.cells (cfgV 0 none 0 0) 24) := ⟨_, rfl⟩
  have HX : Hid (Box w1 w.heap.size 24 (cfgV ep AM ms.length cM)) := by rw [hw1]; exact (Box.made w _ _).alloc _
  have HO : Hid (Box w1 (w.heap.size + 1) 24 (cfgV 0 none 0 0)) := by rw [hw1]; exact Box.made_at (by simp) _ _
  have HF : Hid (Below w.heap.size w w1) := by rw [hw1]; exact ((Below.refl _ _).alloc (Nat.le_refl _) _).alloc (by simp) _
  have HM := Lib.hid (hM.far HF.out)
  have HM0 := Lib.hid hM
  have HL := Lib.hid hL
  have HGC := Lib.hid (rgood_any8 ms ep AM cM (Nat.le_trans hn (by simp [maxLen])) w1 HM.out)
  have HFW := Lib.hid hf
  have HNU := Lib.hid hnum
  have HN := Lib.hid hn
  have HLN := Lib.hid hl
  have lc := HX.out.l_cf
  have HE : Hid (checkN ep ms (ls.map LkM.x) = if goodB ep ms = false then ((0, []), 0, 1) else if 1024 < ls.length then ((0, []), 0, 11) else walkN ep ms 0 0 (ls.map LkM.x)) := Lib.hid (by
    unfold checkN
    rw [List.length_map])
  clear hM hL hf hl hn hnum
  generalize checkN ep ms (ls.map LkM.x) = res at *
  generalize goodB ep ms = g0 at *
  have bz := bd_cf150
  go_enter Tryz.func10, Tryz.ntmps10
  go_upto_region 1 with fail
  change Code.wp _ _ _ _ ((w.alloc (.cells (cfgV ep AM ms.length cM) 24)).alloc (.cells (cfgV 0 none 0 0) 24))
  rw [← hw1]
  clear hw1
  cases g0 with
  | false =>
    have HRS : Hid (res = ((0, []), 0, 1)) := Lib.hid (by rw [HE.out]; rfl)
    clear HE
    go_wp2_with (go_at_call 27; (with_reducible refine (HGC.out).mono ?_); rintro e w2 ⟨rfl, hb⟩; have HB2 := Lib.hid hb; obtain ⟨w3, hst, hb3, hg3⟩ := (HO.out.below hb HO.out.lt).s_cf rfl 0 none 0 0; have HB3 := Lib.hid hb3; have HG3 := Lib.hid hg3; clear hb hb3 hg3)
    have HF2 := HF.out.trans (HB2.out.mono HF.out.size)
    exact ret_cf3 (b := .int .i64 0) (c := .int .i64 1) rfl rfl rfl rfl rfl HB3.out (RChkIs.stop (k := 0) HRS.out (HF2.trans (below_only HG3.out (by omega) HF2.size)))
  | true =>
  by_cases hmany : 1024 < ls.length
  · have HRS : Hid (res = ((0, []), 0, 11)) := Lib.hid (by rw [HE.out, if_neg (by simp), if_pos hmany])
    have e1 : decide ((1024 : Int) < (ls.length : Int)) = true := decide_eq_true (by omega)
    clear HE
    go_wp2_with (go_at_call 27; (with_reducible refine (HGC.out).mono ?_); rintro e w2 ⟨rfl, hb⟩; have HB2 := Lib.hid hb; obtain ⟨w3, hst, hb3, hg3⟩ := (HO.out.below hb HO.out.lt).s_cf rfl 0 none 0 0; have HB3 := Lib.hid hb3; have HG3 := Lib.hid hg3; clear hb hb3 hg3)
    have HF2 := HF.out.trans (HB2.out.mono HF.out.size)
    exact ret_cf3 (b := .int .i64 0) (c := .int .i64 11) rfl rfl rfl rfl rfl HB3.out (RChkIs.stop (k := 0) HRS.out (HF2.trans (below_only HG3.out (by omega) HF2.size)))
  have HW0 : Hid (res = walkN ep ms 0 0 (ls.map LkM.x)) := Lib.hid (by rw [HE.out, if_neg (by simp), if_neg hmany])
  have e1 : decide ((1024 : Int) < (ls.length : Int)) = false := decide_eq_false (by omega)
  clear HE hmany
  go_upto_region 5 with (go_at_call 27; (with_reducible refine (HGC.out).mono ?_); rintro e w4 ⟨rfl, hb⟩; have HB4 := Lib.hid hb; clear hb)
  clear lc e1 HGC
  have HC4 := Lib.hid (HX.out.below HB4.out HX.out.lt)
  have HBW : Hid (Below w.heap.size w w4) := Lib.hid (HF.out.trans (HB4.out.mono HF.out.size))
  have HO4 : Hid (Box w4 (w.heap.size + 1) 24 (cfgV 0 none 0 0)) := Lib.hid (HO.out.below HB4.out HO.out.lt)
  have HM4 := Lib.hid HM0.out
  have HN4 : Hid (ms.length ≤ 1099511627776) := Lib.hid (by have := HN.out; omega)
  have HW4 : Hid (res = walkN ep ms 0 0 ((ls.map LkM.x).drop 0)) := Lib.hid HW0.out
  clear HM HM0 HN HO HW0 HB4 HX HF
  go_wp2
  go_loopw [7, 21] (fun hv i wr => ∃ (k : Nat) (E : Int) (M : List MemX) (B : Option Addr) (d : Nat) (hh : Int), k ≤ ls.length ∧ hv = .int .i64 hh ∧ i = .int .i64 (k : Int) ∧ Hid (Below w.heap.size w wr) ∧ Hid (Box wr (w.heap.size + 1) 24 (cfgV 0 none 0 0)) ∧ Hid (Box wr w.heap.size 24 (cfgV E B M.length d)) ∧ Hid (Mems w w.heap.size B M) ∧ Hid (M.length ≤ 1099511627776) ∧ Hid (res = walkN E M hh k ((ls.map LkM.x).drop k))) (fun _ i _ => ls.length - (intOf i).toNat)
  case atStart => exact ⟨0, ep, ms, AM, cM, 0, Nat.zero_le _, rfl, rfl, HBW, HO4, HC4, HM4, HN4, HW4⟩
  case round =>
    clear HBW HO4 HC4 HM4 HN4 HW4
    obtain ⟨k, E, M, B, d, hh, hk, rfl, rfl, HBW, HO4, HC4, HM4, HN4, HW4⟩ := hrel
    by_cases hlt : k < ls.length
    rotate_left
    · have i1 : ¬ (k : Int) < (ls.length : Int) := by omega
      have HRS : Hid (res = ((E, M), ls.length, 0)) := Lib.hid (by
        have e : k = ls.length := by omega
        subst e
        rw [HW4.out, List.drop_of_length_le (by rw [List.length_map]; exact Nat.le_refl _)]
        rfl)
      have lc := HC4.out.l_cf
      obtain ⟨w6, hst, hb6, hg6⟩ := HO4.out.s_cf rfl E B M.length d
      have HB6 := Lib.hid hb6
      have HF6 := Lib.hid (HBW.out.trans (below_only hg6 (by omega) HBW.out.size))
      have HM6 : Hid (RChkIs w res (.returned (.tuple #[.agg (cfgV E B M.length d), .int .i64 (ls.length : Int), .int .i64 0])) w6) := Lib.hid ⟨B, d, by rw [HRS.out], by rw [HRS.out]; exact HM4.out.far HF6.out, HF6.out⟩
      clear hk hlt HW4 bz hb6 hg6
      go_wp2
      exact ret_cf3 (b := .int .i64 (ls.length : Int)) (c := .int .i64 0) rfl rfl rfl rfl rfl HB6.out HM6.out
    have HLT := Lib.hid hlt
    have HLW := Lib.hid (HL.out.call HBW.out)
    obtain ⟨g, o, hA, hrl⟩ := row_link HLW.out.row hlt
    have lk := hrl wr (Below.refl _ _)
    have HST : Hid (res = if stepN E M hh (ls[k]'hlt).x = 0 then walkN (ls[k]'hlt).ep (ls[k]'hlt).ms (ls[k]'hlt).b.x.height (k + 1) ((ls.map LkM.x).drop (k + 1)) else ((0, []), k, stepN E M hh (ls[k]'hlt).x)) := Lib.hid (by
      rw [HW4.out, List.drop_eq_getElem_cons (by rw [List.length_map]; exact hlt), walkN_cons, List.getElem_map]
      rfl)
    have HFL := Lib.hid (HFW.out _ (List.getElem_mem hlt))
    have HNL := Lib.hid (HNU.out _ (List.getElem_mem hlt))
    have HLS := Lib.hid (HLW.out.each _ (List.getElem_mem hlt))
    have HL0 : Hid (Mems w w.heap.size (ls[k]'hlt).M (ls[k]'hlt).ms) := Lib.hid (HL.out.each _ (List.getElem_mem hlt)).mem
    have i1 : (k : Int) < (ls.length : Int) := by omega
    have i0 : (0 : Int) ≤ (k : Int) := by omega
    have wk : IntKind.i64.wrap ((k : Int) + 1) = ((k + 1 : Nat) : Int) := by rw [IntKind.wrap_i64]; have := HLN.out; omega
    clear hrl HW4 HLW hk
    rw [hA]
    generalize ls[k]'hlt = l at *
    obtain ⟨w8, hst8, hb8, hbl8⟩ := laid_lk wr l
    have hav := al_lk wr
    have HX8 := Lib.hid hb8
    have HB8 := Lib.hid (HBW.out.trans (hbl8.mono HBW.out.size))
    have HK := Lib.hid (rstep_any15 E M B d HN4.out hh l HFL.out HNL.out w8 (HM4.out.far HB8.out) (HLS.out.call hbl8))
    have HC8 := Lib.hid (HC4.out.below hbl8 HC4.out.lt)
    have HO8 := Lib.hid (HO4.out.below hbl8 HO4.out.lt)
    have HG10 : Hid (w.heap.size + 1 < wr.heap.size) := Lib.hid HO4.out.lt
    have lc := HC8.out.l_cf
    have ll := hb8.ld_lk
    clear hb8 hbl8 hlt HBW HO4 HC4 HM4 HN4 HLS
    generalize hs : stepN E M hh l.x = s at *
    clear hs
    generalize wr.heap.size = g10 at *
    by_cases hs : s = 0
    rotate_left
    · have es : (s != 0) = true := by simpa using hs
      have HRS : Hid (res = ((0, []), k, s)) := Lib.hid (by rw [HST.out, if_neg hs])
      clear HST hs
      go_wp2_with (go_at_call 8; (with_reducible refine (HK.out).mono ?_); rintro e w9 ⟨rfl, hb⟩; have HB9 := Lib.hid (HB8.out.trans (hb.mono HB8.out.size)); obtain ⟨w3, hst, hb3, hg3⟩ := (HO8.out.below hb HO8.out.lt).s_cf rfl 0 none 0 0; have HB3 := Lib.hid hb3; have HG3 := Lib.hid hg3; clear hb hb3 hg3)
      exact ret_cf3 (b := .int .i64 (k : Int)) (c := .int .i64 s) rfl rfl rfl rfl rfl HB3.out (RChkIs.stop (k := k) HRS.out (HB9.out.trans (below_only HG3.out (by omega) HB9.out.size)))
    subst hs
    have es : ((0 : Int) != 0) = false := rfl
    have HRS : Hid (res = walkN l.ep l.ms l.b.x.height (k + 1) ((ls.map LkM.x).drop (k + 1))) := Lib.hid (by rw [HST.out, if_pos rfl])
    clear HST
    go_upto_region 12 with (go_at_call 8; (with_reducible refine (HK.out).mono ?_); rintro e w9 ⟨rfl, hb⟩; have HB9 := Lib.hid (HB8.out.trans (hb.mono HB8.out.size)); have HX9 := Lib.hid (HX8.out.below hb HX8.out.lt); have HC9 := Lib.hid (HC8.out.below hb HC8.out.lt); have HO9 := Lib.hid (HO8.out.below hb HO8.out.lt); clear hb)
    clear hst8 hav lc ll lk es HB8 HX8 HC8 HO8 HK
    obtain ⟨w11, hst, hb11, hg11⟩ := HC9.out.s_cf rfl l.ep l.M l.ms.length l.m
    have ll : (ldCf (.pointer (some ⟨g10, 101, none⟩))).run Tryz.prog w9 = .ok (.agg (cfgV l.ep l.M l.ms.length l.m)) w9 := Box.lk_cf l.b.cells_len HX9.out
    have lh : w11.cell? ⟨g10, 1, none⟩ = some (.int .i64 l.b.x.height) := Box.lk_1 (HX9.out.grown hg11 (by intro e; injection e with e; have := HG10.out; omega))
    have HCE := Lib.hid hb11
    have HBE := Lib.hid (HB9.out.trans (below_only hg11 (Nat.le_refl _) HB9.out.size))
    have HOE : Hid (Box w11 (w.heap.size + 1) 24 (cfgV 0 none 0 0)) := Lib.hid (HO9.out.grown hg11 (by intro e; injection e with e; omega))
    have HME := HL0
    have HNE : Hid (l.ms.length ≤ 1099511627776) := Lib.hid (by have := HFL.out.mem; omega)
    clear hb11 hg11 HB9 HX9 HC9 HO9
    go_wp2
    go_roundw
    case rel => exact ⟨k + 1, l.ep, l.ms, l.M, l.m, l.b.x.height, HLT.out, rfl, by go_num, HBE, HOE, HCE, HME, HNE, HRS⟩
    case measure => have := HLT.out; simp [intOf]; omega
end Go.Proofs.YtbclepdcngaonaaGreatDoor
