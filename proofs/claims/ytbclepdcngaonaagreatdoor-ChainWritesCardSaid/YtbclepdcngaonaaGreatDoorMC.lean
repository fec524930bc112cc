/-
  A configuration's bytes and digest, by the document: wapentakeref08.Bytes, wapentakeref08.Digest.
  Whether a link leads, by the document: wapentakeref15.Step. Written by gen_lkrstep.py.
-/
import Derived.Test.YtbclepdcngaonaaGreatDoorMA
import Derived.Test.YtbclepdcngaonaaGreatDoorEJ
import Derived.Test.YtbclepdcngaonaaGreatDoorTG
import Derived.Test.YtbclepdcngaonaaGreatDoorOB
import Derived.Lib.QuietBelow
import Derived.BigQuiet
import Derived.Test.YtbclepdcngaonaaGreatDoorEB
import Derived.Test.YtbclepdcngaonaaGreatDoorKD
import Derived.Test.YtbclepdcngaonaaGreatDoorOD
import Derived.Test.YtbclepdcngaonaaGreatDoorOX
import Derived.Test.YtbclepdcngaonaaGreatDoorTR
import Derived.Test.YtbclepdcngaonaaGreatDoorTV
import Derived.Deep.RegionHeld3
import Derived.Test.YtbclepdcngaonaaGreatDoorVD
import Derived.Test.YtbclepdcngaonaaGreatDoorEC
import Derived.Test.YtbclepdcngaonaaGreatDoorBA
namespace Go.Proofs.YtbclepdcngaonaaGreatDoor
open Go.RowKit Go.Maps Go.Sort

attribute [local go_sem ↓] ldMem_def stMem_def ldDigest_def
set_option maxRecDepth 100000 in
set_option maxHeartbeats 8000000 in
theorem rcfgbytes_any (ep : Int) (hE : R64 ep) (ms : List MemX) (hN : ∀ m ∈ ms, R64 m.id ∧ R64 m.high) (A : Option Addr) (c : Nat) (hn : ms.length ≤ 1000000) (w : World) (hS : Mems w w.heap.size A ms) :
    Calls Tryz.prog 36 #[.agg (cfgV ep A ms.length c)] w fun e w' => e = .returned (str (cfgB ep ms)) ∧ Below w.heap.size w w' := by
  obtain ⟨w1, hw1⟩ : ∃ w1, w1 = w.alloc (.cells (cfgV ep A ms.length c) 24) := ⟨_, rfl⟩
  have HX : Hid (Box w1 w.heap.size 24 (cfgV ep A ms.length c)) := by rw [hw1]; exact Box.made w _ _
  have HF : Hid (Below w.heap.size w w1) := by rw [hw1]; exact (Below.refl _ _).alloc (Nat.le_refl _) _
  have HS := Lib.hid (hS.far HF.out)
  have HNM := Lib.hid hN
  have HL := Lib.hid hn
  have HC : Hid (∀ w', Below w1.heap.size w1 w' → w'.cell? ⟨w.heap.size, 0, none⟩ = some (.int .i64 ep) ∧ w'.cell? ⟨w.heap.size, 1, none⟩ = some (.slice A ms.length c)) := Lib.hid (fun w' hb => by
    have h := HX.out.below hb HX.out.lt
    exact ⟨h.cell 0, h.cell 1⟩)
  have K0 : Hid (∀ d os, Calls Tryz.prog 66 #[.int .i64 ep] (grow (redrawn w1 d) os) fun e w'' => e = .returned (str (numBytes ep)) ∧ ∃ p : Regrown, w'' = grow (redrawn w1 p.d) p.os) := Lib.hid (fun d os => Calls.regrown_of (refnum_any _ hE.1 hE.2 _))
  have K1 : Hid (∀ d os, Calls Tryz.prog 66 #[.int .i64 (ms.length : Int)] (grow (redrawn w1 d) os) fun e w'' => e = .returned (str (numBytes (ms.length : Int))) ∧ ∃ p : Regrown, w'' = grow (redrawn w1 p.d) p.os) := Lib.hid (fun d os => Calls.regrown_of (refnum_any _ (by omega) (by omega) _))
  obtain ⟨q5, hq5⟩ : ∃ q5, q5 = numBytes ep ++ numBytes (ms.length : Int) := ⟨_, rfl⟩
  have HB5 : Hid (cfgB ep ms = q5 ++ ms.flatMap memB) := Lib.hid (by
    rw [hq5]
    unfold cfgB
    simp)
  have HQ5 : Hid (q5.length = 16) := Lib.hid (by
    rw [hq5]
    simp only [List.length_append, numBytes_len])
  obtain ⟨s5, t5, u5⟩ := cat14c hq5.symm (k := 1000) (by rw [numBytes_len]; omega) (by rw [numBytes_len]; omega)
  have Q0 : ∀ d os, (grow (redrawn w1 d) os).cell? ⟨w.heap.size, 0, none⟩ = some (.int .i64 ep) := fun d os => (HC.out _ (below_regrown w1 d os)).1
  have Q1 : ∀ d os, (grow (redrawn w1 d) os).cell? ⟨w.heap.size, 1, none⟩ = some (.slice A ms.length c) := fun d os => (HC.out _ (below_regrown w1 d os)).2
  have HC1 : Hid (∀ w', Below w1.heap.size w1 w' → w'.cell? ⟨w.heap.size, 1, none⟩ = some (.slice A ms.length c)) := Lib.hid (fun w' hb => (HC.out w' hb).2)
  clear HC HX hS hN hn hE hq5
  obtain ⟨RES, hRES⟩ : ∃ R, R = str (cfgB ep ms) := ⟨_, rfl⟩
  have HRS := Lib.hid hRES
  rw [← hRES]
  clear hRES
  generalize hCF : cfgV ep A ms.length c = CF at *
  clear hCF
  generalize numBytes ep = p0 at *
  generalize numBytes (ms.length : Int) = p1 at *
  go_enter Tryz.func36, Tryz.ntmps36
  go_upto_region 1 with fail
  change Code.wp _ _ _ _ (w.alloc (.cells CF 24))
  rw [← hw1]
  clear hw1
  refine wp_region_quiet_below (by kernel_rfl) (by kernel_rfl) ?_
  repeat (go_big_quiet_step (first
    | (go_at_call 66; with_reducible exact K0.out _ _)
    | (go_at_call 66; with_reducible exact K1.out _ _)))
  refine wpQuiet_nil ?_
  intro _ hw'
  obtain ⟨⟨dq, osq⟩, hw''⟩ := hw'
  subst hw''
  have HB7 := Lib.hid (below_regrown w1 dq osq)
  clear Q0 Q1 K0 K1 s5 t5 u5
  generalize grow (redrawn w1 dq) osq = w7 at *
  have c98 := HC1.out w7 HB7.out
  go_wp2
  clear c98 HC1
  have HF7 := Lib.hid (HF.out.trans (HB7.out.mono HF.out.size))
  have HS7 := Lib.hid (HS.out.far HB7.out)
  have HSA : Hid (q5 = q5 ++ (ms.take 0).flatMap memB) := Lib.hid (by simp)
  clear HS HB7 HF
  go_loopw [3, 17] (fun s i wr => ∃ (k : Nat) (T : List UInt8), k ≤ ms.length ∧ s = .string ⟨T.toArray⟩ ∧ Hid (T = q5 ++ (ms.take k).flatMap memB) ∧ i = .int .i64 (k : Int) ∧ Hid (Below w7.heap.size w7 wr)) (fun _ i _ => ms.length - (intOf i).toNat)
  case atStart => exact ⟨0, _, Nat.zero_le _, rfl, HSA, rfl, Lib.hid (Below.refl _ _)⟩
  case round =>
    clear HSA
    obtain ⟨k, T, hk, rfl, HT', rfl, HW⟩ := hrel
    by_cases hlt : k < ms.length
    · have HLT := Lib.hid hlt
      obtain ⟨g, o, hA, _, hr⟩ := (HS7.out.far HW.out).range hlt
      have lk : (ldMem (.pointer (some ⟨g, o + k * 34, none⟩))).run Tryz.prog wr = .ok (.agg (ms[k]'hlt).cells.toArray) wr := range_ldm (hr k hlt)
      have i1 : (k : Int) < (ms.length : Int) := by omega
      have i0 : (0 : Int) ≤ (k : Int) := by omega
      have wk : IntKind.i64.wrap ((k : Int) + 1) = ((k + 1 : Nat) : Int) := by rw [IntKind.wrap_i64]; have := HL.out; omega
      obtain ⟨w4, hst0, hb4, hbl4⟩ := laid_mem wr (ms[k]'hlt)
      have hst := hst0
      unfold MemX.enc zmemV at hst
      have HB4 := Lib.hid (HW.out.trans (hbl4.mono HW.out.size))
      have HX4 := Lib.hid hb4
      have HM := Lib.hid (HNM.out _ (List.getElem_mem hlt))
      have HM2 : Hid (memB (ms[k]'hlt) = (numBytes (ms[k]'hlt).id ++ numBytes (ms[k]'hlt).high) ++ (ms[k]'hlt).root) := Lib.hid (by unfold memB; simp)
      have ht1 : T.length ≤ 48000016 := by
        rw [HT'.out, List.length_append, HQ5.out, mems_len, List.length_take]
        have := HL.out
        omega
      have HT2 : Hid (((T ++ numBytes (ms[k]'hlt).id) ++ numBytes (ms[k]'hlt).high) ++ (ms[k]'hlt).root = q5 ++ (ms.take (k + 1)).flatMap memB) := Lib.hid (by
        rw [flat_snoc memB ms k hlt, HM2.out, HT'.out]
        simp only [List.append_assoc])
      clear hr hk HM2 HT' hst0 hb4 hbl4
      rw [hA]
      have HRL : Hid ((ms[k]'hlt).root.length = 32) := Lib.hid (ms[k]'hlt).len
      generalize ms[k]'hlt = m at *
      have R0 : ∀ d os, (grow (redrawn w4 d) os).cell? ⟨wr.heap.size, 0, none⟩ = some (.int .i64 m.id) := fun d os => by rw [(HX4.out.below (below_regrown w4 d os) HX4.out.lt).cell, List.getElem?_toArray, MemX.cell0]
      have R1 : ∀ d os, (grow (redrawn w4 d) os).cell? ⟨wr.heap.size, 33, none⟩ = some (.int .i64 m.high) := fun d os => by rw [(HX4.out.below (below_regrown w4 d os) HX4.out.lt).cell, List.getElem?_toArray, MemX.cell33]
      have R2 : ∀ d os, (ldDigest (.pointer (some ⟨wr.heap.size, 1, none⟩))).run Tryz.prog (grow (redrawn w4 d) os) = .ok (.agg (m.root.map bv).toArray) (grow (redrawn w4 d) os) := fun d os => range_load (m.root_at (HX4.out.below (below_regrown w4 d os) HX4.out.lt)) m.len
      have K2 : Hid (∀ d os, Calls Tryz.prog 66 #[.int .i64 m.id] (grow (redrawn w4 d) os) fun e w'' => e = .returned (str (numBytes m.id)) ∧ ∃ p : Regrown, w'' = grow (redrawn w4 p.d) p.os) := Lib.hid (fun d os => Calls.regrown_of (refnum_any _ HM.out.1.1 HM.out.1.2 _))
      have K3 : Hid (∀ d os, Calls Tryz.prog 66 #[.int .i64 m.high] (grow (redrawn w4 d) os) fun e w'' => e = .returned (str (numBytes m.high)) ∧ ∃ p : Regrown, w'' = grow (redrawn w4 p.d) p.os) := Lib.hid (fun d os => Calls.regrown_of (refnum_any _ HM.out.2.1 HM.out.2.2 _))
      have K4 : Hid (∀ d os, Calls Tryz.prog 68 #[.agg (m.root.map bv).toArray] (grow (redrawn w4 d) os) fun e w'' => e = .returned (str m.root) ∧ ∃ p : Regrown, w'' = grow (redrawn w4 p.d) p.os) := Lib.hid (fun d os => Calls.regrown_of (digstr_any _ m.len _))
      obtain ⟨U1, hU1⟩ : ∃ U, T ++ numBytes m.id = U := ⟨_, rfl⟩
      obtain ⟨U2, hU2⟩ : ∃ U, U1 ++ numBytes m.high = U := ⟨_, rfl⟩
      obtain ⟨U3, hU3⟩ : ∃ U, U2 ++ m.root = U := ⟨_, rfl⟩
      rw [hU1, hU2, hU3] at HT2
      have hu1 : U1.length ≤ 48000024 := by rw [← hU1, List.length_append, numBytes_len]; omega
      have hu2 : U2.length ≤ 48000032 := by rw [← hU2, List.length_append, numBytes_len]; omega
      obtain ⟨s1, t1, v1⟩ := cat14c hU1 (k := 5000000000) (by omega) (by rw [numBytes_len]; omega)
      obtain ⟨s2, t2, v2⟩ := cat14c hU2 (k := 5000000000) (by omega) (by rw [numBytes_len]; omega)
      obtain ⟨s3, t3, v3⟩ := cat14c hU3 (k := 5000000000) (by omega) (by rw [m.len]; omega)
      clear hU1 hU2 hU3 hu1 hu2 ht1 HM HX4
      generalize numBytes m.id = n0 at *
      generalize numBytes m.high = n1 at *
      generalize (m.root.map bv).toArray = RV at *
      generalize m.root = rt at *
      go_upto_region 5 with fail
      clear hst lk
      refine wp_region_quiet_below (by kernel_rfl) (by kernel_rfl) ?_
      repeat (go_big_quiet_step (first
        | (go_at_call 66; with_reducible exact K2.out _ _)
        | (go_at_call 66; with_reducible exact K3.out _ _)
        | (go_at_call 68; with_reducible exact K4.out _ _)))
      refine wpQuiet_nil ?_
      intro _ hw'
      obtain ⟨⟨dq, osq⟩, hw''⟩ := hw'
      subst hw''
      have HW5 := Lib.hid (HB4.out.trans ((below_regrown w4 dq osq).mono HB4.out.size))
      clear R0 R1 R2 K2 K3 K4 s1 t1 v1 s2 t2 v2 s3 t3 v3
      generalize grow (redrawn w4 dq) osq = w5 at *
      go_wp2
      go_roundw
      case rel => exact ⟨k + 1, U3, HLT.out, rfl, HT2, by go_num, HW5⟩
      case measure => have := HLT.out; simp [intOf]; omega
    · have i1 : ¬ (k : Int) < (ms.length : Int) := by omega
      have hE : cfgB ep ms = T := by
        rw [HB5.out, HT'.out, List.take_of_length_le (by omega)]
      go_wp2
      go_ret
      exact ⟨ret_val (by rw [HRS.out, hE]; rfl), HF7.out.trans (HW.out.mono HF7.out.size)⟩

attribute [local go_sem ↓] ldCf_def stDigest_def
end Go.Proofs.YtbclepdcngaonaaGreatDoor

namespace Go.Proofs.YtbclepdcngaonaaGreatDoor
open Go.RowKit Go.Maps Go.Sort

/-- A link whose numbers are such that memory can hold. -/
structure LkNum (l : LkM) : Prop where
  epoch : R64 l.b.x.epoch
  height : R64 l.b.x.height
  reqs : ∀ q ∈ l.b.x.reqs, R64 q.client ∧ R64 q.num ∧ R64 q.kind ∧ R64 q.ck ∧ R64 q.cid ∧ R64 q.cn ∧ R64 q.high
  votes : ∀ m ∈ l.vs, VtNum m.x ∧ R64 m.x.leaf
  ep : R64 l.ep
  mem : ∀ m ∈ l.ms, R64 m.id ∧ R64 m.high

attribute [local go_sem ↓] ldCf_def ldBlk_def ldCt_def ldLk_def ldDigest_def eqDigest_def
end Go.Proofs.YtbclepdcngaonaaGreatDoor
