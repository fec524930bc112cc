/-
  A piece checked, by the document: wapentakeref11.Check.
  Pieces put together, by the document: wapentakeref11.Join.
  Two joins of the same pieces answer the same.
  The walk of ChunkChecks.
-/
import Derived.Test.YtlogceoeodjeoaaDoorHF
import Derived.Test.YtlogceoeodjeoaaDoorChRState
import Derived.Test.YtlogceoeodjeoaaDoorHI
import Derived.BigQuiet
namespace Go.Proofs.YtlogceoeodjeoaaDoor
open Go.RowKit Go.Sort

attribute [local go_sem ↓] ldDigest_def stDigest_def eqDigest_def ldPc_def stPc_def

set_option maxRecDepth 100000 in
set_option maxHeartbeats 4000000 in
theorem rpcheck_any (root : List UInt8) (hr : root.length = 32) (p : PcM) (hc : R64 p.x.cnt) (hd : p.x.data.size ≤ 1073741824) (w : World) (hP : Digs w w.heap.size p.A p.x.path) (hz : p.x.path.length ≤ p.z):
    Calls Tryd.prog 8 #[.agg (root.map bv).toArray, .agg p.cells.toArray] w fun e w' => e = .returned (.bool (pcB root p.x)) ∧ Below w.heap.size w w' := by
  obtain ⟨w1, hw1⟩ : ∃ w1, w1 = (w.alloc (.cells (root.map bv).toArray 23)).alloc (.cells p.cells.toArray 29) := ⟨_, rfl⟩
  have HS : Hid (Box w1 w.heap.size 23 (root.map bv).toArray) := by rw [hw1]; exact (Box.made w _ _).alloc _
  have HO : Hid (Box w1 (w.heap.size + 1) 29 p.cells.toArray) := by rw [hw1]; exact Box.made_at (by simp) _ _
  have HF : Hid (Below w.heap.size w w1) := by rw [hw1]; exact ((Below.refl _ _).alloc (Nat.le_refl _) _).alloc (by simp) _
  have HD1 : Hid (∀ w', Below w1.heap.size w1 w' → Digs w' w'.heap.size p.A p.x.path) := Lib.hid (fun w' hb => (hP.far HF.out).far hb)
  have HB : Hid (pcB root p.x = (decide (stD p.x.cnt p.x.tree = root) && ((decide (0 ≤ p.x.pos) && decide (p.x.pos < p.x.cnt)) && checkT p.x.tree (shaOf (0 :: p.x.data.data.toList)) p.x.pos.toNat p.x.cnt.toNat p.x.path))) := Lib.hid (by unfold pcB pinB; rfl)
  have HDL := Lib.hid (stD_len p.x.cnt p.x.tree)
  have HTL := Lib.hid p.x.len
  have HRL := Lib.hid hr
  have HZ := Lib.hid hz
  have HCN := Lib.hid hc
  have H0 : Hid (∀ w', Below w1.heap.size w1 w' → Box w' (w.heap.size + 1) 29 p.cells.toArray) := Lib.hid (fun w' hb => HO.out.below hb HO.out.lt)
  have HC0 : Hid (∀ w', Below w1.heap.size w1 w' → w'.cell? ⟨w.heap.size + 1, 0, none⟩ = some (.int .i64 p.x.pos)) := Lib.hid (fun w' hb => (H0.out w' hb).pc0)
  have HC1 : Hid (∀ w', Below w1.heap.size w1 w' → w'.cell? ⟨w.heap.size + 1, 1, none⟩ = some (.int .i64 p.x.cnt)) := Lib.hid (fun w' hb => (H0.out w' hb).pc1)
  have HC34 : Hid (∀ w', Below w1.heap.size w1 w' → w'.cell? ⟨w.heap.size + 1, 34, none⟩ = some (.string p.x.data)) := Lib.hid (fun w' hb => (H0.out w' hb).pc34)
  have HC35 : Hid (∀ w', Below w1.heap.size w1 w' → w'.cell? ⟨w.heap.size + 1, 35, none⟩ = some (.slice p.A p.x.path.length p.z)) := Lib.hid (fun w' hb => (H0.out w' hb).pc35)
  have HT2 : Hid (∀ w', Below w1.heap.size w1 w' → w'.rangeAt (w.heap.size + 1) 2 (p.x.tree.map bv)) := Lib.hid (fun w' hb => (H0.out w' hb).pc_tree)
  have HR0 : Hid (∀ w', Below w1.heap.size w1 w' → w'.rangeAt w.heap.size 0 (root.map bv)) := Lib.hid (fun w' hb => Box.range (HS.out.below hb HS.out.lt))
  obtain ⟨dl, hdl⟩ : ∃ dl : List UInt8, p.x.data = ⟨dl.toArray⟩ := ⟨p.x.data.data.toList, by cases p.x.data; simp⟩
  have hdl2 : p.x.data.data.toList = dl := by rw [hdl]
  rw [hdl2] at HB
  rw [hdl] at HC34 hd
  have HDS : Hid (dl.length ≤ 1073741824) := Lib.hid (by have : (ByteArray.mk dl.toArray).size = dl.length := (by show dl.toArray.size = _; rw [List.size_toArray]); omega)
  have hund := Tryd.underlying23
  have hone : (Tryd.prog.info? 23).map (·.size) = some (p.x.tree.map bv).length := by rw [List.length_map, HTL.out]; kernel_rfl
  have honr : (Tryd.prog.info? 23).map (·.size) = some (root.map bv).length := by rw [List.length_map, HRL.out]; kernel_rfl
  have HQ : Hid (∀ w', (eqDigest (.agg ((stD p.x.cnt p.x.tree).map bv).toArray) (.agg (root.map bv).toArray)).run Tryd.prog w' = .ok (decide (stD p.x.cnt p.x.tree = root)) w') := Lib.hid (fun w' => eq_digest _ _ HDL.out HRL.out w')
  have HDG : Hid (∀ w', Calls Tryd.prog 20 #[.int .i64 p.x.cnt, .agg (p.x.tree.map bv).toArray] w' fun e w'' => e = .returned (.agg ((stD p.x.cnt p.x.tree).map bv).toArray) ∧ Below w'.heap.size w' w'') := Lib.hid (fun w' => rtop_any p.x.cnt HCN.out HTL.out w')
  have HLF : Hid (∀ w', Calls Tryd.prog 22 #[.string ⟨dl.toArray⟩] w' fun e w'' => e = .returned (.agg ((shaOf (0 :: dl)).map bv).toArray) ∧ Below w'.heap.size w' w'') := Lib.hid (fun w' => rleaf_any dl (by have := HDS.out; omega) w')
  have HSL : Hid ((shaOf (0 :: dl)).length = 32) := Lib.hid (sha_len (0 :: dl))
  generalize shaOf (0 :: dl) = lf at *
  have HCK : Hid (∀ w', 0 ≤ p.x.pos → p.x.pos < p.x.cnt → Below w1.heap.size w1 w' → Calls Tryd.prog 21 #[.agg (p.x.tree.map bv).toArray, .agg (lf.map bv).toArray, .int .i64 p.x.pos, .int .i64 p.x.cnt, .slice p.A p.x.path.length p.z] w' fun e w'' => e = .returned (.bool (checkT p.x.tree lf p.x.pos.toNat p.x.cnt.toNat p.x.path)) ∧ Below w'.heap.size w' w'') := Lib.hid (fun w' h1 h2 hb => by
    have hc2 := HCN.out.2
    have h3 := rcheck_any p.x.tree lf p.x.pos.toNat p.x.cnt.toNat p.x.path p.A p.z w' HTL.out HSL.out (by omega) (by omega) (HD1.out w' hb) HZ.out
    rw [show ((p.x.pos.toNat : Nat) : Int) = p.x.pos by omega, show ((p.x.cnt.toNat : Nat) : Int) = p.x.cnt by omega] at h3
    exact h3)
  generalize checkT p.x.tree lf p.x.pos.toNat p.x.cnt.toNat p.x.path = ck at *
  generalize pcB root p.x = res at *
  generalize stD p.x.cnt p.x.tree = dg at *
  clear hr hc hd hP hz hdl hdl2 HS HO HD1
  go_enter Tryd.func8, Tryd.ntmps8
  go_upto_region 1 with fail
  change Code.wp _ _ _ _ ((w.alloc (.cells (root.map bv).toArray 23)).alloc (.cells p.cells.toArray 29))
  rw [← hw1]
  clear hw1 H0
  have HBW : Hid (Below w1.heap.size w1 w1) := Lib.hid (Below.refl _ _)
  have q0 : ∀ d os, (grow (redrawn w1 d) os).cell? ⟨w.heap.size + 1, 0, none⟩ = some (.int .i64 p.x.pos) := fun d os => HC0.out _ (HBW.out.trans ((below_regrown w1 d os).mono HBW.out.size))
  have q1 : ∀ d os, (grow (redrawn w1 d) os).cell? ⟨w.heap.size + 1, 1, none⟩ = some (.int .i64 p.x.cnt) := fun d os => HC1.out _ (HBW.out.trans ((below_regrown w1 d os).mono HBW.out.size))
  have q2 : ∀ d os, (ldDigest (.pointer (some ⟨w.heap.size + 1, 2, none⟩))).run Tryd.prog (grow (redrawn w1 d) os) = .ok (.agg (p.x.tree.map bv).toArray) (grow (redrawn w1 d) os) := fun d os => range_load (HT2.out _ (HBW.out.trans ((below_regrown w1 d os).mono HBW.out.size))) HTL.out
  have q3 : ∀ d os, (ldDigest (.pointer (some ⟨w.heap.size, 0, none⟩))).run Tryd.prog (grow (redrawn w1 d) os) = .ok (.agg (root.map bv).toArray) (grow (redrawn w1 d) os) := fun d os => range_load (HR0.out _ (below_regrown w1 d os)) HRL.out
  have HG1 : Hid (∀ d os, Calls Tryd.prog 20 #[.int .i64 p.x.cnt, .agg (p.x.tree.map bv).toArray] (grow (redrawn w1 d) os) fun e w'' => e = .returned (.agg (dg.map bv).toArray) ∧ ∃ p : Regrown, w'' = grow (redrawn w1 p.d) p.os) := Lib.hid (fun d os => Calls.regrown_of (HDG.out (grow (redrawn w1 d) os)))
  clear HBW
  cases hb : decide (dg = root)
  · have hq : ∀ w', (eqDigest (.agg (dg.map bv).toArray) (.agg (root.map bv).toArray)).run Tryd.prog w' = .ok false w' := fun w' => by rw [HQ.out w', hb]
    have HRS : Hid (res = false) := Lib.hid (by rw [HB.out, hb]; rfl)
    clear HQ hb HB
    refine wp_region_quiet_below (by kernel_rfl) (by kernel_rfl) ?_
    repeat (go_big_quiet_step ((go_at_call 20; with_reducible exact HG1.out _ _)))
    refine wpQuiet_nil ?_
    intro _ hw'
    obtain ⟨⟨dq, osq⟩, hw''⟩ := hw'
    subst hw''
    have HW2 := Lib.hid (HF.out.trans ((below_regrown w1 dq osq).mono HF.out.size))
    clear q0 q1 q2 q3 HG1 hq
    generalize grow (redrawn w1 dq) osq = w6 at *
    go_wp2
    go_ret
    exact ⟨by rw [HRS.out]; rfl, HW2.out⟩
  have hq : ∀ w', (eqDigest (.agg (dg.map bv).toArray) (.agg (root.map bv).toArray)).run Tryd.prog w' = .ok true w' := fun w' => by rw [HQ.out w', hb]
  rw [hb, Bool.true_and] at HB
  clear HQ hb
  by_cases h0 : p.x.pos < 0
  · have h0d : decide (p.x.pos < 0) = true := decide_eq_true h0
    have HRS : Hid (res = false) := Lib.hid (by rw [HB.out, decide_eq_false (by omega)]; rfl)
    clear HB
    refine wp_region_quiet_below (by kernel_rfl) (by kernel_rfl) ?_
    repeat (go_big_quiet_step ((go_at_call 20; with_reducible exact HG1.out _ _)))
    refine wpQuiet_nil ?_
    intro _ hw'
    obtain ⟨⟨dq, osq⟩, hw''⟩ := hw'
    subst hw''
    have HW2 := Lib.hid (HF.out.trans ((below_regrown w1 dq osq).mono HF.out.size))
    clear q0 q1 q2 q3 HG1 hq
    generalize grow (redrawn w1 dq) osq = w6 at *
    go_wp2
    go_ret
    exact ⟨by rw [HRS.out]; rfl, HW2.out⟩
  have h0d : decide (p.x.pos < 0) = false := decide_eq_false h0
  by_cases h1 : p.x.cnt ≤ p.x.pos
  · have h1d : decide (p.x.cnt ≤ p.x.pos) = true := decide_eq_true h1
    have HRS : Hid (res = false) := Lib.hid (by rw [HB.out, decide_eq_false (show ¬ p.x.pos < p.x.cnt by omega)]; simp)
    clear HB
    refine wp_region_quiet_below (by kernel_rfl) (by kernel_rfl) ?_
    repeat (go_big_quiet_step ((go_at_call 20; with_reducible exact HG1.out _ _)))
    refine wpQuiet_nil ?_
    intro _ hw'
    obtain ⟨⟨dq, osq⟩, hw''⟩ := hw'
    subst hw''
    have HW2 := Lib.hid (HF.out.trans ((below_regrown w1 dq osq).mono HF.out.size))
    clear q0 q1 q2 q3 HG1 hq
    generalize grow (redrawn w1 dq) osq = w6 at *
    go_wp2
    go_ret
    exact ⟨by rw [HRS.out]; rfl, HW2.out⟩
  have h1d : decide (p.x.cnt ≤ p.x.pos) = false := decide_eq_false h1
  have HRS : Hid (res = ck) := Lib.hid (by rw [HB.out, decide_eq_true (show 0 ≤ p.x.pos by omega), decide_eq_true (show p.x.pos < p.x.cnt by omega)]; rfl)
  clear HB
  refine wp_region_quiet_below (by kernel_rfl) (by kernel_rfl) ?_
  repeat (go_big_quiet_step ((go_at_call 20; with_reducible exact HG1.out _ _)))
  refine wpQuiet_nil ?_
  intro _ hw'
  obtain ⟨⟨dq, osq⟩, hw''⟩ := hw'
  subst hw''
  have HW2 := Lib.hid (below_regrown w1 dq osq)
  clear q0 q1 q2 q3 HG1 hq
  generalize grow (redrawn w1 dq) osq = w6 at *
  go_upto_region 3 with fail
  have HBW : Hid (Below w1.heap.size w1 w6) := HW2
  have q0 : ∀ d os, (grow (redrawn w6 d) os).cell? ⟨w.heap.size + 1, 0, none⟩ = some (.int .i64 p.x.pos) := fun d os => HC0.out _ (HBW.out.trans ((below_regrown w6 d os).mono HBW.out.size))
  have q1 : ∀ d os, (grow (redrawn w6 d) os).cell? ⟨w.heap.size + 1, 1, none⟩ = some (.int .i64 p.x.cnt) := fun d os => HC1.out _ (HBW.out.trans ((below_regrown w6 d os).mono HBW.out.size))
  have q2 : ∀ d os, (ldDigest (.pointer (some ⟨w.heap.size + 1, 2, none⟩))).run Tryd.prog (grow (redrawn w6 d) os) = .ok (.agg (p.x.tree.map bv).toArray) (grow (redrawn w6 d) os) := fun d os => range_load (HT2.out _ (HBW.out.trans ((below_regrown w6 d os).mono HBW.out.size))) HTL.out
  have q4 : ∀ d os, (grow (redrawn w6 d) os).cell? ⟨w.heap.size + 1, 34, none⟩ = some (.string ⟨dl.toArray⟩) := fun d os => HC34.out _ (HBW.out.trans ((below_regrown w6 d os).mono HBW.out.size))
  have q5 : ∀ d os, (grow (redrawn w6 d) os).cell? ⟨w.heap.size + 1, 35, none⟩ = some (.slice p.A p.x.path.length p.z) := fun d os => HC35.out _ (HBW.out.trans ((below_regrown w6 d os).mono HBW.out.size))
  have HG2 : Hid (∀ d os, Calls Tryd.prog 22 #[.string ⟨dl.toArray⟩] (grow (redrawn w6 d) os) fun e w'' => e = .returned (.agg (lf.map bv).toArray) ∧ ∃ p : Regrown, w'' = grow (redrawn w6 p.d) p.os) := Lib.hid (fun d os => Calls.regrown_of (HLF.out (grow (redrawn w6 d) os)))
  have HG3 : Hid (∀ d os, Calls Tryd.prog 21 #[.agg (p.x.tree.map bv).toArray, .agg (lf.map bv).toArray, .int .i64 p.x.pos, .int .i64 p.x.cnt, .slice p.A p.x.path.length p.z] (grow (redrawn w6 d) os) fun e w'' => e = .returned (.bool ck) ∧ ∃ p : Regrown, w'' = grow (redrawn w6 p.d) p.os) := Lib.hid (fun d os => Calls.regrown_of (HCK.out _ (by omega) (by omega) (HBW.out.trans ((below_regrown w6 d os).mono HBW.out.size))))
  clear h0 h0d h1 h1d HCK HLF HDG
  refine wp_region_quiet_below (by kernel_rfl) (by kernel_rfl) ?_
  repeat (go_big_quiet_step ((first | (go_at_call 22; with_reducible exact HG2.out _ _) | (go_at_call 21; with_reducible exact HG3.out _ _))))
  refine wpQuiet_nil ?_
  intro _ hw'
  obtain ⟨⟨dq, osq⟩, hw''⟩ := hw'
  subst hw''
  have HW3 := Lib.hid (HBW.out.trans ((below_regrown w6 dq osq).mono HBW.out.size))
  clear q0 q1 q2 q4 q5 HG2 HG3
  generalize grow (redrawn w6 dq) osq = w7 at *
  go_wp2
  go_ret
  exact ⟨by rw [HRS.out]; rfl, HF.out.trans (HW3.out.mono HF.out.size)⟩
end Go.Proofs.YtlogceoeodjeoaaDoor

namespace Go.Proofs.YtlogceoeodjeoaaDoor
open Go.RowKit Go.Maps

/-- What the walk carries of memory. -/
structure RJnW (w0 : World) (r : Nat) (w : World) : Prop where
  out : Box w r 37 (stV none 0 0 none 0 0 0 none 0 0)
  far : Below w0.heap.size w0 w
  hr : w0.heap.size ≤ r
set_option maxRecDepth 100000 in
theorem RJnW.call {w0 w w' : World} {r : Nat} (h : RJnW w0 r w) (hb : Below w.heap.size w w') : RJnW w0 r w' :=
  ⟨h.out.below hb h.out.lt, h.far.trans (hb.mono h.far.size), h.hr⟩
set_option maxRecDepth 100000 in
theorem RJnW.zero {w0 w : World} {r : Nat} (h : RJnW w0 r w) : ∃ wz, (stSt (.pointer (some ⟨r, 0, none⟩)) (.agg (stV none 0 0 none 0 0 0 none 0 0))).run Tryd.prog w = .ok () wz ∧ Box wz r 37 (stV none 0 0 none 0 0 0 none 0 0) ∧ Below w0.heap.size w0 wz := by
  obtain ⟨wz, hst, hb, hg⟩ := h.out.s_st rfl none 0 0 none 0 0 0 none 0 0
  exact ⟨wz, hst, hb, h.far.trans (below_only hg h.hr h.far.size)⟩
/-- The bytes that count at a place, as a string. -/
def datB (o : Option PcM) : ByteArray := (o.map (fun p => p.x.data)).getD ⟨#[]⟩
set_option maxRecDepth 100000 in
theorem datB_list (root : List UInt8) (L : List PcM) (k : Nat) : (datB (lastM root L (k : Int))).data.toList = datF root L k := by
  unfold datB datF
  cases lastM root L (k : Int) <;> rfl
set_option maxRecDepth 100000 in
theorem cat_dat (root : List UInt8) (L : List PcM) (k : Nat) {a s : ByteArray} (ha : a = ⟨(catF root L k).toArray⟩) (hs : s = datB (lastM root L (k : Int))) : a ++ s = ⟨(catF root L (k + 1)).toArray⟩ := by
  subst ha
  subst hs
  rw [catF_succ, ← datB_list]
  apply ByteArray.ext
  rw [ByteArray.data_append]
  simp
set_option maxRecDepth 100000 in
theorem dat_size (root : List UInt8) (L : List PcM) (k : Nat) {a s : ByteArray} (ha : a = ⟨(catF root L k).toArray⟩) (hs : s = datB (lastM root L (k : Int))) : a.size + s.size = (catF root L (k + 1)).length := by
  have h := cat_dat root L k ha hs
  have h2 : (a ++ s).size = a.size + s.size := ByteArray.size_append
  rw [← h2, h]
  show (catF root L (k + 1)).toArray.size = _
  simp

attribute [local go_sem ↓] ldDigest_def stDigest_def ldPc_def stPc_def ldSt_def stSt_def
set_option maxRecDepth 100000 in
set_option maxHeartbeats 4000000 in
theorem rjoin_any (root : List UInt8) (hr : root.length = 32) (ps : List PcM) (A : Option Addr) (c : Nat) (hn : ps.length ≤ 1073741824) (ht : totL ps ≤ 1073741824) (w : World) (hP : PcsSee w w.heap.size A ps) (hok : ∀ p ∈ ps, PcOk p)
    {E : Int} {V : List MemX} (hE : E = crE (catF root ps (cntF root ps).toNat) false) (hV : V = crMs (catF root ps (cntF root ps).toNat) false)
    {F : List UInt8 × Bool} {P Q : Nat} {g0 g1 : Int × List UInt8 × Bool} {S : Nat → List UInt8 × Bool} {T : Nat → List PairX} {S2 : Nat → List UInt8 × Bool} {T2 : Nat → List RepX} (hf : SfFacts (catF root ps (cntF root ps).toNat) F P Q g0 g1 S T S2 T2) :
    Calls Tryd.prog 10 #[.agg (root.map bv).toArray, .slice A ps.length c] w (JnIs root ps E V P Q T S2 T2 w) := by
  obtain ⟨w1, hw1⟩ : ∃ w1, w1 = (w.alloc (.cells (root.map bv).toArray 23)).alloc (.cells (stV none 0 0 none 0 0 0 none 0 0) 37) := ⟨_, rfl⟩
  have HS : Hid (Box w1 w.heap.size 23 (root.map bv).toArray) := by rw [hw1]; exact (Box.made w _ _).alloc _
  have HO : Hid (Box w1 (w.heap.size + 1) 37 (stV none 0 0 none 0 0 0 none 0 0)) := by rw [hw1]; exact Box.made_at (by simp) _ _
  have HF : Hid (Below w.heap.size w w1) := by rw [hw1]; exact ((Below.refl _ _).alloc (Nat.le_refl _) _).alloc (by simp) _
  have HP := Lib.hid (hP.far HF.out)
  have HOK := Lib.hid hok
  have HRL := Lib.hid hr
  have HN := Lib.hid hn
  have HRJ : Hid (RJnW w (w.heap.size + 1) w1) := Lib.hid ⟨HO.out, HF.out, by omega⟩
  have HST : Hid (∀ (s : ByteArray) (w' : World), s = ⟨(catF root ps (cntF root ps).toNat).toArray⟩ → Calls Tryd.prog 25 #[.string s] w' (SfIs E V P Q T S2 T2 w')) := Lib.hid (fun s w' e => by subst e; exact rstate_gen _ w' hE hV hf)
  have HCN := Lib.hid (cntF_in root ps (fun p hp => (hok p hp).cnt))
  have HCL : Hid (∀ k, (catF root ps k).length ≤ 1073741824) := Lib.hid (fun k => by have := (cat_le root ps k).1; omega)
  have HQ : Hid (∀ (w' : World) (q k : Nat) (hk : k < ps.length), Below w1.heap.size w1 w' → Box w' q 29 (ps[k]'hk).cells.toArray → Calls Tryd.prog 8 #[.agg (root.map bv).toArray, .agg (ps[k]'hk).cells.toArray] w' fun e w'' => e = .returned (.bool (pcB root (ps[k]'hk).x)) ∧ Below w'.heap.size w' w'' ∧ Box w'' q 29 (ps[k]'hk).cells.toArray) := Lib.hid (fun w' q k hk hb hq => (rpcheck_any root HRL.out _ (HOK.out _ (List.getElem_mem hk)).cnt (HOK.out _ (List.getElem_mem hk)).size w' ((HP.out.paths _ (List.getElem_mem hk)).far hb) (HOK.out _ (List.getElem_mem hk)).cap).mono (fun e w'' h => ⟨h.1, h.2, hq.below h.2 hq.lt⟩))
  clear hr hn ht hP hok hE hV hf HO
  go_enter Tryd.func10, Tryd.ntmps10
  go_upto_region 1 with fail
  change Code.wp _ _ _ _ ((w.alloc (.cells (root.map bv).toArray 23)).alloc (.cells (stV none 0 0 none 0 0 0 none 0 0) 37))
  rw [← hw1]
  clear hw1
  go_upto_region 3 with fail
  go_loopw [6, 17] (fun n i wr => ∃ (k : Nat) (x : Int), k ≤ ps.length ∧ n = .int .i64 x ∧ i = .int .i64 (k : Int) ∧ Hid (x = cntF root (ps.take k)) ∧ Hid (RJnW w (w.heap.size + 1) wr) ∧ Hid (Below w1.heap.size w1 wr)) (fun _ i _ => ps.length - (intOf i).toNat)
  case atStart => exact ⟨0, 0, Nat.zero_le _, rfl, rfl, Lib.hid rfl, HRJ, Lib.hid (Below.refl _ _)⟩
  case round =>
    clear HRJ
    obtain ⟨k, x, hk, rfl, rfl, HX, HM, HB⟩ := hrel
    by_cases hlt : k < ps.length
    · have HLT := Lib.hid hlt
      obtain ⟨g, o, hA, _, hr⟩ := EK.See.range (EK.See.far HP.out.see HB.out) hlt
      have lk : (ldPc (.pointer (some ⟨g, o + k * 36, none⟩))).run Tryd.prog wr = .ok (.agg (ps[k]'hlt).cells.toArray) wr := range_pc (hr k hlt)
      obtain ⟨w3, hst0, hb3, hbl3⟩ := laid_pc wr (ps[k]'hlt)
      have hst := hst0
      unfold zpcV at hst
      have HM3 := Lib.hid (HM.out.call hbl3)
      have HB3 := Lib.hid (HB.out.trans (hbl3.mono HB.out.size))
      have ls : (ldDigest (.pointer (some ⟨w.heap.size, 0, none⟩))).run Tryd.prog w3 = .ok (.agg (root.map bv).toArray) w3 := range_load (HS.out.below HB3.out HS.out.lt).range HRL.out
      have lp : (ldPc (.pointer (some ⟨wr.heap.size, 0, none⟩))).run Tryd.prog w3 = .ok (.agg (ps[k]'hlt).cells.toArray) w3 := hb3.ld_pc
      have HCK := Lib.hid (HQ.out w3 wr.heap.size k hlt HB3.out hb3)
      have HTK : Hid (ps.take (k + 1) = ps.take k ++ [ps[k]'hlt]) := Lib.hid (List.take_succ_eq_append_getElem hlt)
      rw [hA]
      have i1 : (k : Int) < (ps.length : Int) := by omega
      have i0 : (0 : Int) ≤ (k : Int) := by omega
      have wk : IntKind.i64.wrap ((k : Int) + 1) = ((k + 1 : Nat) : Int) := by rw [IntKind.wrap_i64]; have := HN.out; omega
      generalize ps[k]'hlt = m at *
      obtain ⟨b, hb⟩ : ∃ b, pcB root m.x = b := ⟨_, rfl⟩
      rw [hb] at HCK
      have HPB := Lib.hid hb
      clear hr hst0 hb3 hbl3 hb HQ HST HCN HCL
      cases b with
      | false =>
        have HX2 : Hid (x = cntF root (ps.take (k + 1))) := Lib.hid (by rw [HTK.out, cntF_snoc, HPB.out, HX.out]; rfl)
        go_wp2_with (go_at_call 8; (with_reducible refine (HCK.out).mono ?_); rintro e w4 ⟨rfl, hb4, _⟩; have HM4 := Lib.hid (HM3.out.call hb4); have HB4 := Lib.hid (HB3.out.trans (hb4.mono HB3.out.size)); clear hb4)
        go_roundw
        case rel => exact ⟨k + 1, _, HLT.out, rfl, by go_num, HX2, HM4, HB4⟩
        case measure => have := HLT.out; simp [intOf]; omega
      | true =>
        have HX2 : Hid (m.x.cnt = cntF root (ps.take (k + 1))) := Lib.hid (by rw [HTK.out, cntF_snoc, HPB.out]; rfl)
        go_wp2_with (go_at_call 8; (with_reducible refine (HCK.out).mono ?_); rintro e w4 ⟨rfl, hb4, hq4⟩; have HM4 := Lib.hid (HM3.out.call hb4); have HB4 := Lib.hid (HB3.out.trans (hb4.mono HB3.out.size)); have c1 := hq4.pc1; clear hb4 hq4)
        go_roundw
        case rel => exact ⟨k + 1, _, HLT.out, rfl, by go_num, HX2, HM4, HB4⟩
        case measure => have := HLT.out; simp [intOf]; omega
    · have i1 : ¬ (k : Int) < (ps.length : Int) := by omega
      have hke : k = ps.length := by omega
      subst hke
      rw [List.take_length] at HX
      have hbd0 := fun w' => bd_state0 w'
      obtain ⟨n, hn⟩ : ∃ n : Nat, (cntF root ps) = (n : Int) := ⟨(cntF root ps).toNat, by have := HCN.out; omega⟩
      have HNE := Lib.hid hn
      have HNT : Hid ((cntF root ps).toNat = n) := Lib.hid (by rw [hn]; rfl)
      have HJ1 : Hid (n ≠ 0 → allF root ps n → JnOk root ps) := Lib.hid (fun h1 h2 => ⟨by rw [hn]; omega, by rw [HNT.out]; exact h2⟩)
      have HJ2 : Hid (JnOk root ps → n ≠ 0 ∧ allF root ps n) := Lib.hid (fun h => ⟨fun e => h.1 (by rw [hn, e]; rfl), by rw [← HNT.out]; exact h.2⟩)
      rw [HNT.out] at HST
      have HNB : Hid (n ≤ 9223372036854775807) := Lib.hid (by have := HCN.out; omega)
      have hx : x = (n : Int) := HX.out.trans hn
      subst hx
      clear hn HCN HNE HNT HX hk hlt
      have HZ := Lib.hid HM.out.zero
      by_cases hz : n = 0
      · have z1 : ((n : Int) == 0) = true := by rw [hz]; rfl
        have HNO : Hid (¬ JnOk root ps) := Lib.hid (fun h => (HJ2.out h).1 hz)
        obtain ⟨wz, hst, hb, hbz⟩ := HZ.out
        have HBZ := Lib.hid hb
        have HFZ := Lib.hid hbz
        clear hb hbz HJ1 HJ2 HST HCL HNB hz HZ HM HB HQ
        go_wp2
        exact ret_st2 rfl rfl rfl rfl HBZ.out ⟨⟨[], none, 0, [], none, 0, 0, [], none, 0⟩, 10, rfl, .inr ⟨HNO.out, rfl, rfl⟩, ⟨.inl rfl, .inl rfl, fun m hm => (by cases hm), .inl rfl⟩, HFZ.out⟩
      have z1 : ((n : Int) == 0) = false := by simp; omega
      have HNZ := Lib.hid hz
      clear hz
      by_cases hg : ps.length < n
      · have g1 : (ps.length : Int) < (n : Int) := by omega
        have HNO : Hid (¬ JnOk root ps) := Lib.hid (fun h => by have := all_le (HJ2.out h).2; omega)
        obtain ⟨wz, hst, hb, hbz⟩ := HZ.out
        have HBZ := Lib.hid hb
        have HFZ := Lib.hid hbz
        clear hb hbz HJ1 HJ2 HST HCL HNB hg HZ HM HB HQ
        go_wp2
        exact ret_st2 rfl rfl rfl rfl HBZ.out ⟨⟨[], none, 0, [], none, 0, 0, [], none, 0⟩, 10, rfl, .inr ⟨HNO.out, rfl, rfl⟩, ⟨.inl rfl, .inl rfl, fun m hm => (by cases hm), .inl rfl⟩, HFZ.out⟩
      have g1 : ¬ (ps.length : Int) < (n : Int) := by omega
      clear HZ hg
      go_upto_region 12 with fail
      clear z1 g1 i1
      go_loopw [9, 10] (fun a0 i wr => ∃ (k : Nat) (a : ByteArray), k ≤ n ∧ a0 = .string a ∧ i = .int .i64 (k : Int) ∧ Hid (a = ⟨(catF root ps k).toArray⟩) ∧ Hid (allF root ps k) ∧ Hid (RJnW w (w.heap.size + 1) wr) ∧ Hid (Below w1.heap.size w1 wr)) (fun _ i _ => n - (intOf i).toNat)
      case atStart => exact ⟨0, _, Nat.zero_le _, rfl, rfl, Lib.hid (by rw [catF_zero]), Lib.hid (fun i h => absurd h (by omega)), HM, HB⟩
      case round =>
        clear HM HB
        obtain ⟨k, a, hk, rfl, rfl, HA, HAL, HM, HB⟩ := hrel
        by_cases hlt : k < n
        · have HLT := Lib.hid hlt
          have i1 : (k : Int) < (n : Int) := by omega
          have wk : IntKind.i64.wrap ((k : Int) + 1) = ((k + 1 : Nat) : Int) := by rw [IntKind.wrap_i64]; have := HNB.out; omega
          go_upto_region 17 with fail
          clear i1
          go_loopw [11, 12, 43] (fun d f i wr => ∃ (j : Nat) (s : ByteArray) (b : Bool), j ≤ ps.length ∧ d = .string s ∧ f = .bool b ∧ i = .int .i64 (j : Int) ∧ Hid (s = datB (lastM root (ps.take j) (k : Int))) ∧ Hid (b = (lastM root (ps.take j) (k : Int)).isSome) ∧ Hid (RJnW w (w.heap.size + 1) wr) ∧ Hid (Below w1.heap.size w1 wr)) (fun _ _ i _ => ps.length - (intOf i).toNat)
          case atStart => exact ⟨0, _, _, Nat.zero_le _, rfl, rfl, rfl, Lib.hid rfl, Lib.hid rfl, HM, HB⟩
          case round =>
            clear HM HB
            obtain ⟨j, s, b, hj, rfl, rfl, rfl, HS2, HB2, HM, HB⟩ := hrel
            by_cases hjl : j < ps.length
            · have HJL := Lib.hid hjl
              obtain ⟨g, o, hA, _, hr⟩ := EK.See.range (EK.See.far HP.out.see HB.out) hjl
              have lk : (ldPc (.pointer (some ⟨g, o + j * 36, none⟩))).run Tryd.prog wr = .ok (.agg (ps[j]'hjl).cells.toArray) wr := range_pc (hr j hjl)
              obtain ⟨w3, hst0, hb3, hbl3⟩ := laid_pc wr (ps[j]'hjl)
              have hst := hst0
              unfold zpcV at hst
              have HM3 := Lib.hid (HM.out.call hbl3)
              have HB3 := Lib.hid (HB.out.trans (hbl3.mono HB.out.size))
              have ls : (ldDigest (.pointer (some ⟨w.heap.size, 0, none⟩))).run Tryd.prog w3 = .ok (.agg (root.map bv).toArray) w3 := range_load (HS.out.below HB3.out HS.out.lt).range HRL.out
              have lp : (ldPc (.pointer (some ⟨wr.heap.size, 0, none⟩))).run Tryd.prog w3 = .ok (.agg (ps[j]'hjl).cells.toArray) w3 := hb3.ld_pc
              have c0 := hb3.pc0
              have HCK := Lib.hid (HQ.out w3 wr.heap.size j hjl HB3.out hb3)
              have HTK : Hid (ps.take (j + 1) = ps.take j ++ [ps[j]'hjl]) := Lib.hid (List.take_succ_eq_append_getElem hjl)
              rw [hA]
              have j1 : (j : Int) < (ps.length : Int) := by omega
              have j0 : (0 : Int) ≤ (j : Int) := by omega
              have wj : IntKind.i64.wrap ((j : Int) + 1) = ((j + 1 : Nat) : Int) := by rw [IntKind.wrap_i64]; have := HN.out; omega
              generalize ps[j]'hjl = m at *
              clear hr hst0 hb3 hbl3 HQ HST HCL wk HJ1 HJ2
              by_cases he : m.x.pos = (k : Int)
              · have e1 : (m.x.pos == (k : Int)) = true := by rw [he]; simp
                have HPO := Lib.hid he
                obtain ⟨b2, hb⟩ : ∃ b, pcB root m.x = b := ⟨_, rfl⟩
                rw [hb] at HCK
                have HPB := Lib.hid hb
                clear hb he
                cases b2 with
                | false =>
                  have HL : Hid (lastM root (ps.take (j + 1)) (k : Int) = lastM root (ps.take j) (k : Int)) := Lib.hid (by rw [HTK.out, lastM_snoc, HPB.out]; rfl)
                  have HS3 : Hid (s = datB (lastM root (ps.take (j + 1)) (k : Int))) := Lib.hid (by rw [HL.out]; exact HS2.out)
                  have HB5 : Hid (b = (lastM root (ps.take (j + 1)) (k : Int)).isSome) := Lib.hid (by rw [HL.out]; exact HB2.out)
                  go_wp2_with (go_at_call 8; (with_reducible refine (HCK.out).mono ?_); rintro e w4 ⟨rfl, hb4, _⟩; have HM4 := Lib.hid (HM3.out.call hb4); have HB4 := Lib.hid (HB3.out.trans (hb4.mono HB3.out.size)); clear hb4)
                  go_roundw
                  case rel => exact ⟨j + 1, s, b, HJL.out, rfl, rfl, by go_num, HS3, HB5, HM4, HB4⟩
                  case measure => have := HJL.out; simp [intOf]; omega
                | true =>
                  have HL : Hid (lastM root (ps.take (j + 1)) (k : Int) = some m) := Lib.hid (by rw [HTK.out, lastM_snoc, HPB.out, HPO.out]; simp)
                  have HS3 : Hid (m.x.data = datB (lastM root (ps.take (j + 1)) (k : Int))) := Lib.hid (by rw [HL.out]; rfl)
                  have HB5 : Hid (true = (lastM root (ps.take (j + 1)) (k : Int)).isSome) := Lib.hid (by rw [HL.out]; rfl)
                  go_wp2_with (go_at_call 8; (with_reducible refine (HCK.out).mono ?_); rintro e w4 ⟨rfl, hb4, hq4⟩; have HM4 := Lib.hid (HM3.out.call hb4); have HB4 := Lib.hid (HB3.out.trans (hb4.mono HB3.out.size)); have c34 := hq4.pc34; clear hb4 hq4)
                  go_roundw
                  case rel => exact ⟨j + 1, _, _, HJL.out, rfl, rfl, by go_num, HS3, HB5, HM4, HB4⟩
                  case measure => have := HJL.out; simp [intOf]; omega
              · have e1 : (m.x.pos == (k : Int)) = false := by simp [he]
                have HL : Hid (lastM root (ps.take (j + 1)) (k : Int) = lastM root (ps.take j) (k : Int)) := Lib.hid (by rw [HTK.out]; exact lastM_other he)
                have HS3 : Hid (s = datB (lastM root (ps.take (j + 1)) (k : Int))) := Lib.hid (by rw [HL.out]; exact HS2.out)
                have HB5 : Hid (b = (lastM root (ps.take (j + 1)) (k : Int)).isSome) := Lib.hid (by rw [HL.out]; exact HB2.out)
                clear he HCK
                go_wp2
                go_roundw
                case rel => exact ⟨j + 1, s, b, HJL.out, rfl, rfl, by go_num, HS3, HB5, HM3, HB3⟩
                case measure => have := HJL.out; simp [intOf]; omega
            · have j1 : ¬ (j : Int) < (ps.length : Int) := by omega
              have hje : j = ps.length := by omega
              subst hje
              rw [List.take_length] at HS2 HB2
              clear hj hjl
              cases b with
              | false =>
                have HNO : Hid (¬ JnOk root ps) := Lib.hid (fun h => by
                  have h1 := (HJ2.out h).2 k HLT.out
                  unfold hasF at h1
                  rw [← HB2.out] at h1
                  cases h1)
                obtain ⟨wz, hst, hb, hbz⟩ := HM.out.zero
                have HBZ := Lib.hid hb
                have HFZ := Lib.hid hbz
                clear hb hbz HJ1 HJ2 HST HCL HNB HM HB HQ HS2 HB2 HA HAL
                go_wp2
                exact ret_st2 rfl rfl rfl rfl HBZ.out ⟨⟨[], none, 0, [], none, 0, 0, [], none, 0⟩, 10, rfl, .inr ⟨HNO.out, rfl, rfl⟩, ⟨.inl rfl, .inl rfl, fun m hm => (by cases hm), .inl rfl⟩, HFZ.out⟩
              | true =>
                have HA2 : Hid (allF root ps (k + 1)) := Lib.hid (fun i hi => by
                  by_cases e : i = k
                  · subst e
                    unfold hasF
                    exact HB2.out.symm
                  · exact HAL.out i (by omega))
                have HC2 : Hid (a ++ s = ⟨(catF root ps (k + 1)).toArray⟩) := Lib.hid (cat_dat root ps k HA.out HS2.out)
                have hsz : ¬ (a.size + s.size > 9223372036854775807) := by
                  rw [dat_size root ps k HA.out HS2.out]
                  have := HCL.out (k + 1)
                  omega
                clear HJ1 HJ2 HST HCL HQ HS2 HB2 HA HAL
                go_wp2
                go_roundw
                case rel => exact ⟨k + 1, _, HLT.out, rfl, by go_num, HC2, HA2, HM, HB⟩
                case measure => have := HLT.out; simp [intOf]; omega
        · have i1 : ¬ (k : Int) < (n : Int) := by omega
          have hke : k = n := by omega
          subst hke
          have HOK : Hid (JnOk root ps) := Lib.hid (HJ1.out HNZ.out HAL.out)
          have HSA := Lib.hid (HST.out a wr HA.out)
          clear HJ1 HJ2 HAL HST HCL hk hlt HQ HB
          unfold SfIs at HSA
          have HRS : Hid (∀ (w5 : World) (m : StM), RJnW w (w.heap.size + 1) w5 → m.See w5 w5.heap.size → ∃ wz, (stSt (.pointer (some ⟨w.heap.size + 1, 0, none⟩)) (.agg (stV m.pA m.ps.length m.pc m.rA m.rs.length m.rc m.ep m.mA m.ms.length m.mc))).run Tryd.prog w5 = .ok () wz ∧ Box wz (w.heap.size + 1) 37 (stV m.pA m.ps.length m.pc m.rA m.rs.length m.rc m.ep m.mA m.ms.length m.mc) ∧ m.See wz wz.heap.size ∧ Below w.heap.size w wz) := Lib.hid (fun w5 m hw hse => by
            obtain ⟨wz, h1, h2, h3⟩ := hw.out.s_st rfl m.pA m.ps.length m.pc m.rA m.rs.length m.rc m.ep m.mA m.ms.length m.mc
            exact ⟨wz, h1, h2, hse.off hw.out h3, hw.far.trans (below_only h3 hw.hr hw.far.size)⟩)
          go_wp2_with (go_at_call 25; (with_reducible refine (HSA.out).mono ?_); rintro e w5 ⟨m, x, rfl, hmx, hse, hb5⟩; obtain ⟨mps, mpA, mpc, mrs, mrA, mrc, mep, mms, mmA, mmc⟩ := m; have HMX := Lib.hid hmx; obtain ⟨wz, hstz, hbz, hsz, hfz⟩ := HRS.out w5 _ (HM.out.call hb5) hse; have HBZ := Lib.hid hbz; have HSZ := Lib.hid hsz; have HFZ := Lib.hid hfz; clear hmx hse hb5 hbz hsz hfz)
          refine ret_st2 rfl rfl rfl rfl HBZ.out ⟨⟨mps, mpA, mpc, mrs, mrA, mrc, mep, mms, mmA, mmc⟩, x, rfl, .inl ⟨HOK.out, HMX.out⟩, HSZ.out, HFZ.out⟩
end Go.Proofs.YtlogceoeodjeoaaDoor

namespace Go.Proofs.YtlogceoeodjeoaaDoor
open Go.RowKit

set_option maxRecDepth 100000 in
theorem rep_vals {l : List UInt8} {F : List UInt8 × Bool} {P Q : Nat} {g0 g1 : Int × List UInt8 × Bool} {S : Nat → List UInt8 × Bool} {T : Nat → List PairX} {S2 : Nat → List UInt8 × Bool} {T2 : Nat → List RepX} (hf : SfFacts l F P Q g0 g1 S T S2 T2) : ∀ k, ∀ r ∈ T2 k, r.vals.length ≤ 256
  | 0, r, h => by rw [hf.t02] at h; cases h
  | k + 1, r, h => by
    rw [(hf.step2 k).1] at h
    rcases List.mem_append.1 h with h | h
    · exact rep_vals hf k r h
    · obtain rfl := List.mem_singleton.1 h
      exact rpV_len _ _
set_option maxRecDepth 100000 in
theorem read_fits {l : List UInt8} {F : List UInt8 × Bool} {P Q : Nat} {g0 g1 : Int × List UInt8 × Bool} {S : Nat → List UInt8 × Bool} {T : Nat → List PairX} {S2 : Nat → List UInt8 × Bool} {T2 : Nat → List RepX} (hf : SfFacts l F P Q g0 g1 S T S2 T2) {E : Int} {V : List MemX} (hE : E = crE l false) (hV : V = crMs l false) : (⟨T P, T2 Q, E, V⟩ : StX).Fits 100000 := by
  obtain ⟨h1, h2, h3⟩ := crMs_ok l false
  rw [← hV] at h1 h2
  rw [← hE] at h3
  refine ⟨?_, ?_, fun r hr => ?_, ?_, ⟨h3, h2⟩⟩
  · show (T P).length ≤ _
    rw [hf.len]
    have := hf.p256
    omega
  · show (T2 Q).length ≤ _
    rw [hf.len2]
    have := hf.q64
    omega
  · have := rep_vals hf Q r hr
    omega
  · show V.length ≤ 20
    omega
set_option maxRecDepth 100000 in
theorem none_fits : (⟨[], [], 0, []⟩ : StX).Fits 100000 :=
  ⟨Nat.zero_le _, Nat.zero_le _, fun _ h => (by cases h), Nat.zero_le _, ⟨by show R64 0; unfold R64; omega, fun _ h => (by cases h)⟩⟩
/-- What is told of a join, without memory. -/
def JnTold (root : List UInt8) (L : List PcM) (E : Int) (V : List MemX) (P Q : Nat) (T : Nat → List PairX) (S2 : Nat → List UInt8 × Bool) (T2 : Nat → List RepX) (m : StX) (x : Int) : Prop :=
  (JnOk root L ∧ ((StOk P Q T S2 T2 ∧ x = 0 ∧ m = ⟨T P, T2 Q, E, V⟩) ∨ (¬ StOk P Q T S2 T2 ∧ x = 4 ∧ m = ⟨[], [], 0, []⟩))) ∨ (¬ JnOk root L ∧ x = 10 ∧ m = ⟨[], [], 0, []⟩)
set_option maxRecDepth 100000 in
theorem JnTold.two {root : List UInt8} {L : List PcM} {E : Int} {V : List MemX} {P Q : Nat} {T : Nat → List PairX} {S2 : Nat → List UInt8 × Bool} {T2 : Nat → List RepX} {m m' : StX} {x x' : Int} (h : JnTold root L E V P Q T S2 T2 m x) (h' : JnTold root L E V P Q T S2 T2 m' x') : x' = x ∧ m' = m := by
  rcases h with ⟨hj, ⟨hs, rfl, rfl⟩ | ⟨hs, rfl, rfl⟩⟩ | ⟨hj, rfl, rfl⟩
  · rcases h' with ⟨_, ⟨_, rfl, rfl⟩ | ⟨ht, _⟩⟩ | ⟨hk, _⟩
    · exact ⟨rfl, rfl⟩
    · exact absurd hs ht
    · exact absurd hj hk
  · rcases h' with ⟨_, ⟨ht, _⟩ | ⟨_, rfl, rfl⟩⟩ | ⟨hk, _⟩
    · exact absurd ht hs
    · exact ⟨rfl, rfl⟩
    · exact absurd hj hk
  · rcases h' with ⟨hk, _⟩ | ⟨_, rfl, rfl⟩
    · exact absurd hk hj
    · exact ⟨rfl, rfl⟩
set_option maxRecDepth 100000 in
theorem JnTold.fits {root : List UInt8} {L : List PcM} {E : Int} {V : List MemX} {P Q : Nat} {T : Nat → List PairX} {S2 : Nat → List UInt8 × Bool} {T2 : Nat → List RepX} {m : StX} {x : Int} (h : JnTold root L E V P Q T S2 T2 m x) (hf : (⟨T P, T2 Q, E, V⟩ : StX).Fits 100000) : m.Fits 100000 := by
  rcases h with ⟨_, ⟨_, _, rfl⟩ | ⟨_, _, rfl⟩⟩ | ⟨_, _, rfl⟩
  · exact hf
  · exact none_fits
  · exact none_fits
/-- What both joins answer of pieces. -/
def BothJn (told : StX → Int → Prop) (w : World) (e : Ending) (w' : World) : Prop :=
  ∃ (m : StM) (x : Int), e = .returned (.tuple #[.agg m.cells, .int .i64 x]) ∧ told m.pl x ∧ m.See w' w'.heap.size ∧ Below w.heap.size w w'
set_option maxRecDepth 100000 in
theorem joins_any (root : List UInt8) (hr : root.length = 32) (ps : List PcM) (A : Option Addr) (c : Nat) (hn : ps.length ≤ 1073741824) (ht : totL ps ≤ 1073741824) (hok : ∀ p ∈ ps, PcOk p) :
    ∃ told : StX → Int → Prop, (∀ m x m' x', told m x → told m' x' → x' = x ∧ m' = m) ∧ (∀ m x, told m x → m.Fits 100000)
      ∧ (∀ w, PcsSee w w.heap.size A ps → Roots w → Calls Tryd.prog 9 #[.agg (root.map bv).toArray, .slice A ps.length c] w (BothJn told w))
      ∧ (∀ w, PcsSee w w.heap.size A ps → Calls Tryd.prog 10 #[.agg (root.map bv).toArray, .slice A ps.length c] w (BothJn told w)) := by
  obtain ⟨F, P, Q, g0, g1, S, T, S2, T2, hf⟩ := sf_facts (catF root ps (cntF root ps).toNat)
  obtain ⟨E, hE⟩ : ∃ E, E = crE (catF root ps (cntF root ps).toNat) false := ⟨_, rfl⟩
  obtain ⟨V, hV⟩ : ∃ V, V = crMs (catF root ps (cntF root ps).toNat) false := ⟨_, rfl⟩
  have hfit := read_fits hf hE hV
  refine ⟨JnTold root ps E V P Q T S2 T2, fun m x m' x' h h' => h.two h', fun m x h => h.fits hfit, fun w hP hR => ?_, fun w hP => ?_⟩
  · exact pjoin_any root hr ps A c hn ht w hP hok hR hE hV hf
  · exact rjoin_any root hr ps A c hn ht w hP hok hE hV hf
end Go.Proofs.YtlogceoeodjeoaaDoor

namespace Go.Proofs.YtlogceoeodjeoaaDoor
open Go.RowKit Go.Sort

attribute [local go_sem ↓] ldDigest_def stDigest_def ldPc_def stPc_def ldSt_def stSt_def
set_option maxRecDepth 100000 in
set_option maxHeartbeats 4000000 in
theorem checks_walk (root : List UInt8) (hr : root.length = 32) (ps : List PcM) (A : Option Addr) (c : Nat) (hn : ps.length ≤ 140737488355328) (hin : ∀ p ∈ ps, (R64 p.x.pos ∧ R64 p.x.cnt) ∧ p.x.data.size ≤ 140737488355328 ∧ p.x.path.length ≤ 140737488355328 ∧ p.x.path.length ≤ p.z) (w : World) (hP : PcsSee w w.heap.size A ps) (hR : Roots w) :
    Calls Tryd.prog 3 #[.agg (root.map bv).toArray, .slice A ps.length c] w fun e w' => e = .returned (.bool true) ∧ Below w.heap.size w w' := by
  obtain ⟨w1, hw1⟩ : ∃ w1, w1 = w.alloc (.cells (root.map bv).toArray 23) := ⟨_, rfl⟩
  have HS : Hid (Box w1 w.heap.size 23 (root.map bv).toArray) := by rw [hw1]; exact Box.made w _ _
  have HF : Hid (Below w.heap.size w w1) := by rw [hw1]; exact (Below.refl _ _).alloc (Nat.le_refl _) _
  have HP := Lib.hid (hP.far HF.out)
  have HR1 := Lib.hid (hR.of_below HF.out)
  have HRL := Lib.hid hr
  have HAL := Lib.hid (alive11 w1 HR1.out)
  have HLG : Hid (∀ w', Below w1.heap.size w1 w' → Calls Tryd.prog 6 #[.slice A ps.length c] w' fun e w'' => e = .returned (.bool (decide (16384 < longN ps))) ∧ Below w'.heap.size w' w'') := Lib.hid (fun w' hb => long_any ps A c hn (fun p hp => ⟨(hin p hp).2.1, (hin p hp).2.2.1⟩) w' (HP.out.far hb).see)
  have HLS : Hid (∀ w', Below w1.heap.size w1 w' → (ldDigest (.pointer (some ⟨w.heap.size, 0, none⟩))).run Tryd.prog w' = .ok (.agg (root.map bv).toArray) w') := Lib.hid (fun w' hb => range_load (HS.out.below hb HS.out.lt).range HRL.out)
  by_cases hlg : 16384 < longN ps
  · rw [decide_eq_true hlg] at HLG
    clear hr hn hin hP hR hlg HS HP HR1 HRL HLS
    go_enter Tryd.func3, Tryd.ntmps3
    go_upto_region 1 with fail
    change Code.wp _ _ _ _ (w.alloc (.cells (root.map bv).toArray 23))
    rw [← hw1]
    clear hw1
    go_wp2_with (first
      | (go_at_call 5; (with_reducible refine (HAL.out).mono ?_); rintro e w2 ⟨rfl, hb2⟩; have HB2 := Lib.hid hb2; have HG := Lib.hid (HLG.out w2 hb2); clear hb2)
      | (go_at_call 6; (with_reducible refine (HG.out).mono ?_); rintro e w3 ⟨rfl, hb3⟩; have HB3 := Lib.hid (HB2.out.trans (hb3.mono HB2.out.size)); clear hb3))
    go_ret
    exact ⟨rfl, HF.out.trans (HB3.out.mono HF.out.size)⟩
  · rw [decide_eq_false hlg] at HLG
    have hlen : ps.length ≤ 16384 := by have := (longN_le ps).1; omega
    have htot : totL ps ≤ 16384 := by have := (longN_le ps).2; omega
    have hok : ∀ p ∈ ps, PcOk p := fun p hp => ⟨(hin p hp).1.1, (hin p hp).1.2, by have h := longN_mem hp; unfold pcN at h; omega, (hin p hp).2.2.2⟩
    obtain ⟨told, htwo, hfit, hj, hj2⟩ := joins_any root hr ps A c (by omega) (by omega) hok
    have HTW := Lib.hid htwo
    have HFT := Lib.hid hfit
    have HJ : Hid (∀ w', Below w1.heap.size w1 w' → Calls Tryd.prog 9 #[.agg (root.map bv).toArray, .slice A ps.length c] w' (BothJn told w')) := Lib.hid (fun w' hb => hj w' (HP.out.far hb) (HR1.out.of_below hb))
    have HJ2 : Hid (∀ w', Below w1.heap.size w1 w' → Calls Tryd.prog 10 #[.agg (root.map bv).toArray, .slice A ps.length c] w' (BothJn told w')) := Lib.hid (fun w' hb => hj2 w' (HP.out.far hb))
    have HQ : Hid (∀ (w' : World) (k : Nat) (hk : k < ps.length), Below w1.heap.size w1 w' → Calls Tryd.prog 7 #[.agg (root.map bv).toArray, .agg (ps[k]'hk).cells.toArray] w' fun e w'' => e = .returned (.bool (pcB root (ps[k]'hk).x)) ∧ Below w'.heap.size w' w'') := Lib.hid (fun w' k hk hb => pcheck_any root HRL.out _ (hok _ (List.getElem_mem hk)).cnt (hok _ (List.getElem_mem hk)).size w' ((HP.out.paths _ (List.getElem_mem hk)).far hb) (hok _ (List.getElem_mem hk)).cap (HR1.out.of_below hb))
    have HQ2 : Hid (∀ (w' : World) (k : Nat) (hk : k < ps.length), Below w1.heap.size w1 w' → Calls Tryd.prog 8 #[.agg (root.map bv).toArray, .agg (ps[k]'hk).cells.toArray] w' fun e w'' => e = .returned (.bool (pcB root (ps[k]'hk).x)) ∧ Below w'.heap.size w' w'') := Lib.hid (fun w' k hk hb => rpcheck_any root HRL.out _ (hok _ (List.getElem_mem hk)).cnt (hok _ (List.getElem_mem hk)).size w' ((HP.out.paths _ (List.getElem_mem hk)).far hb) (hok _ (List.getElem_mem hk)).cap)
    have HN := Lib.hid hlen
    clear hr hn hin hP hR hlg hok hj hj2 htwo hfit hlen htot HS HR1
    go_enter Tryd.func3, Tryd.ntmps3
    go_upto_region 1 with fail
    change Code.wp _ _ _ _ (w.alloc (.cells (root.map bv).toArray 23))
    rw [← hw1]
    clear hw1
    go_upto_region 6 with (first
      | (go_at_call 5; (with_reducible refine (HAL.out).mono ?_); rintro e w2 ⟨rfl, hb2⟩; have HB2 := Lib.hid hb2; have HG := Lib.hid (HLG.out w2 hb2); clear hb2)
      | (go_at_call 6; (with_reducible refine (HG.out).mono ?_); rintro e w3 ⟨rfl, hb3⟩; have HB3 := Lib.hid (HB2.out.trans (hb3.mono HB2.out.size)); clear hb3))
    clear HAL HLG HG
    go_loopw [17] (fun i wr => ∃ (k : Nat), k ≤ ps.length ∧ i = .int .i64 (k : Int) ∧ Hid (Below w1.heap.size w1 wr)) (fun i _ => ps.length - (intOf i).toNat)
    case atStart => exact ⟨0, Nat.zero_le _, rfl, HB3⟩
    case round =>
      clear HB2 HB3
      obtain ⟨k, hk, rfl, HB⟩ := hrel
      by_cases hlt : k < ps.length
      · have HLT := Lib.hid hlt
        obtain ⟨g, o, hA, _, hr⟩ := EK.See.range (EK.See.far HP.out.see HB.out) hlt
        have lk : (ldPc (.pointer (some ⟨g, o + k * 36, none⟩))).run Tryd.prog wr = .ok (.agg (ps[k]'hlt).cells.toArray) wr := range_pc (hr k hlt)
        obtain ⟨w3, hst0, hb3, hbl3⟩ := laid_pc wr (ps[k]'hlt)
        have hst := hst0
        unfold zpcV at hst
        have HB3 := Lib.hid (HB.out.trans (hbl3.mono HB.out.size))
        have HX3 := Lib.hid hb3
        have q1 : ∀ d os, (ldDigest (.pointer (some ⟨w.heap.size, 0, none⟩))).run Tryd.prog (grow (redrawn w3 d) os) = .ok (.agg (root.map bv).toArray) (grow (redrawn w3 d) os) := fun d os => HLS.out _ (HB3.out.trans ((below_regrown w3 d os).mono HB3.out.size))
        have q2 : ∀ d os, (ldPc (.pointer (some ⟨wr.heap.size, 0, none⟩))).run Tryd.prog (grow (redrawn w3 d) os) = .ok (.agg (ps[k]'hlt).cells.toArray) (grow (redrawn w3 d) os) := fun d os => (HX3.out.below (below_regrown w3 d os) HX3.out.lt).ld_pc
        have HC1 : Hid (∀ d os, Calls Tryd.prog 7 #[.agg (root.map bv).toArray, .agg (ps[k]'hlt).cells.toArray] (grow (redrawn w3 d) os) fun e w'' => e = .returned (.bool (pcB root (ps[k]'hlt).x)) ∧ ∃ p : Regrown, w'' = grow (redrawn w3 p.d) p.os) := Lib.hid (fun d os => Calls.regrown_of (HQ.out _ k hlt (HB3.out.trans ((below_regrown w3 d os).mono HB3.out.size))))
        have HC2 : Hid (∀ d os, Calls Tryd.prog 8 #[.agg (root.map bv).toArray, .agg (ps[k]'hlt).cells.toArray] (grow (redrawn w3 d) os) fun e w'' => e = .returned (.bool (pcB root (ps[k]'hlt).x)) ∧ ∃ p : Regrown, w'' = grow (redrawn w3 p.d) p.os) := Lib.hid (fun d os => Calls.regrown_of (HQ2.out _ k hlt (HB3.out.trans ((below_regrown w3 d os).mono HB3.out.size))))
        rw [hA]
        have i1 : (k : Int) < (ps.length : Int) := by omega
        have i0 : (0 : Int) ≤ (k : Int) := by omega
        have wk : IntKind.i64.wrap ((k : Int) + 1) = ((k + 1 : Nat) : Int) := by rw [IntKind.wrap_i64]; have := HN.out; omega
        generalize ps[k]'hlt = m at *
        generalize pcB root m.x = b at *
        clear hr hst0 hb3 hbl3 hlt HQ HQ2 HJ HJ2 HX3
        go_upto_region 8 with fail
        refine wp_region_quiet_below (by kernel_rfl) (by kernel_rfl) ?_
        repeat (go_big_quiet_step ((first | (go_at_call 7; with_reducible exact HC1.out _ _) | (go_at_call 8; with_reducible exact HC2.out _ _))))
        refine wpQuiet_nil ?_
        intro _ hw'
        obtain ⟨⟨dq, osq⟩, hw''⟩ := hw'
        subst hw''
        have HB4 := Lib.hid (HB3.out.trans ((below_regrown w3 dq osq).mono HB3.out.size))
        clear q1 q2 HC1 HC2 HB3
        generalize grow (redrawn w3 dq) osq = w6 at *
        have hbb : (b != b) = false := by cases b <;> rfl
        go_wp2
        go_roundw
        case rel => exact ⟨k + 1, HLT.out, by go_num, HB4⟩
        case measure => have := HLT.out; simp [intOf]; omega
      · have i1 : ¬ (k : Int) < (ps.length : Int) := by omega
        have ls := HLS.out wr HB.out
        have HJA := Lib.hid (HJ.out wr HB.out)
        unfold BothJn at HJA
        clear hk hlt HQ HQ2 HP
        go_upto_region 12 with (go_at_call 9; (with_reducible refine (HJA.out).mono ?_); rintro e w4 ⟨m1, x1, rfl, ht1, hs1, hb4⟩; obtain ⟨w5, hst5, hx5, hb5, _⟩ := laid_st w4 (stV none 0 0 none 0 0 0 none 0 0) rfl m1.pA m1.ps.length m1.pc m1.rA m1.rs.length m1.rc m1.ep m1.mA m1.ms.length m1.mc; have HT1 := Lib.hid ht1; have HS5 := Lib.hid (hs1.far hb5); have HX5 := Lib.hid hx5; have HB4 := HB.out.trans (hb4.mono HB.out.size); have HB5 := Lib.hid (HB4.trans (hb5.mono HB4.size)); have ls5 := HLS.out w5 HB5.out; have HJB := Lib.hid (HJ2.out w5 HB5.out); clear ht1 hs1 hb4 hx5 hb5 HB4)
        unfold BothJn at HJB
        clear HJA ls
        go_upto_region 13 with (go_at_call 10; (with_reducible refine (HJB.out).mono ?_); rintro e w6 ⟨m2, x2, rfl, ht2, hs2, hb6⟩; obtain ⟨rfl, hm⟩ := HTW.out _ _ _ _ HT1.out ht2; obtain ⟨w7, hst7, hx7, hb7, _⟩ := laid_st w6 (stV none 0 0 none 0 0 0 none 0 0) rfl m2.pA m2.ps.length m2.pc m2.rA m2.rs.length m2.rc m2.ep m2.mA m2.ms.length m2.mc; have HM := Lib.hid hm; have HB67 := hb6.trans (hb7.mono hb6.size); have HS7 := Lib.hid (HS5.out.far HB67); have HS27 := Lib.hid (hs2.far hb7); have HX7 := Lib.hid hx7; have HX57 := Lib.hid (HX5.out.below HB67 HX5.out.lt); have HB7 := Lib.hid (HB5.out.trans (HB67.mono HB5.out.size)); have l1 := HX57.out.l_st; have l2 := HX7.out.l_st; have HSM := Lib.hid (ssame_any m1 m2 HM.out (HFT.out _ _ HT1.out) w7 HS7.out HS27.out); clear hm ht2 hs2 hb6 hx7 hb7 HB67)
        clear HJB ls5 HT1 HS5 HX5
        go_wp2_with (go_at_call 11; (with_reducible refine (HSM.out).mono ?_); rintro e w8 ⟨rfl, hb8⟩; have HB8 := Lib.hid (HB7.out.trans (hb8.mono HB7.out.size)); clear hb8)
        go_ret
        exact ⟨rfl, HF.out.trans (HB8.out.mono HF.out.size)⟩
end Go.Proofs.YtlogceoeodjeoaaDoor
