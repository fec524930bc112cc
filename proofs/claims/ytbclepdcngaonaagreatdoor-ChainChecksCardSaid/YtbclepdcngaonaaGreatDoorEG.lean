/-
  Whether a vote is a member's, by the document: wapentakeref13.Right.
  Whether a word is right, by the document: wapentakeref14.Check. Written by gen_cercheck.py.
-/
import Derived.Test.YtbclepdcngaonaaGreatDoorEJ
import Derived.Test.YtbclepdcngaonaaGreatDoorEB
import Derived.Test.YtbclepdcngaonaaGreatDoorKRCheck
import Derived.Test.YtbclepdcngaonaaGreatDoorVD
import Derived.BigQuiet
import Derived.Lib.QuietBelow
import Derived.Test.YtbclepdcngaonaaGreatDoorEC
import Derived.Test.YtbclepdcngaonaaGreatDoorBB
namespace Go.Proofs.YtbclepdcngaonaaGreatDoor
open Go.RowKit Go.Maps Go.Sort

set_option maxRecDepth 100000 in
theorem range_tail14 {w : World} {g o : Nat} {a : Value} {l : List Value} (h : w.rangeAt g o (a :: l)) : w.rangeAt g (o + 1) l := fun j v hv => by
  have h1 := h (j + 1) v (by simpa using hv)
  rwa [show o + (j + 1) = o + 1 + j by omega] at h1
set_option maxRecDepth 100000 in
theorem find_has14 {ms : List MemX} {i : Int} (h : posN ms i < ms.length) : findM ms i = ms[posN ms i]'h ∧ hasB ms i = true ∧ posI ms i = (posN ms i : Int) := by
  refine ⟨?_, decide_eq_true h, if_pos h⟩
  unfold findM
  rw [if_pos h, List.getD_eq_getElem?_getD, List.getElem?_eq_getElem h]
  rfl
set_option maxRecDepth 100000 in
theorem find_not14 {ms : List MemX} {i : Int} (h : ¬ posN ms i < ms.length) : hasB ms i = false ∧ posI ms i = -1 := ⟨decide_eq_false h, if_neg h⟩

attribute [local go_sem ↓] ldVt_def ldDigest_def ldCf_def ldSg_def ldKy13_def
set_option maxRecDepth 100000 in
set_option maxHeartbeats 8000000 in
theorem rright_any (ms : List MemX) (ep : Int) (A : Option Addr) (c : Nat) (hn : ms.length ≤ 1099511627776) (m : VtM) (hN : VtNum m.x) (w : World) (hS : Mems w w.heap.size A ms) (hs : SgSee w m.sg) :
    Calls Tryz.prog 58 #[.agg (cfgV ep A ms.length c), .agg m.cells.toArray] w fun e w' => e = .returned (.bool (rightX14 ms ep m.x)) ∧ Below w.heap.size w w' := by
  obtain ⟨w1, hw1⟩ : ∃ w1, w1 = (w.alloc (.cells (cfgV ep A ms.length c) 24)).alloc (.cells m.cells.toArray 74) := ⟨_, rfl⟩
  have hX : Box w1 w.heap.size 24 (cfgV ep A ms.length c) := by rw [hw1]; exact (Box.made w _ _).alloc _
  have hV : Box w1 (w.heap.size + 1) 74 m.cells.toArray := by rw [hw1]; exact Box.made_at (by simp) _ _
  have HF : Hid (Below w.heap.size w w1) := by rw [hw1]; exact ((Below.refl _ _).alloc (Nat.le_refl _) _).alloc (by simp) _
  have HC : Hid (∀ w', Below w1.heap.size w1 w' → (ldCf (.pointer (some ⟨w.heap.size, 0, none⟩))).run Tryz.prog w' = .ok (.agg (cfgV ep A ms.length c)) w' ∧ w'.cell? ⟨w.heap.size, 0, none⟩ = some (.int .i64 ep) ∧ (ldVt (.pointer (some ⟨w.heap.size + 1, 0, none⟩))).run Tryz.prog w' = .ok (.agg m.cells.toArray) w' ∧ w'.cell? ⟨w.heap.size + 1, 1, none⟩ = some (.int .i64 m.x.epoch) ∧ w'.cell? ⟨w.heap.size + 1, 36, none⟩ = some (.int .i64 m.x.frm) ∧
      (ldSg (.pointer (some ⟨w.heap.size + 1, 37, none⟩))).run Tryz.prog w' = .ok (.agg m.sg.cells) w' ∧ w'.cell? ⟨w.heap.size, 1, none⟩ = some (.slice A ms.length c)) := Lib.hid (fun w' hb => by
    have hx := hX.below hb hX.lt
    have hv := hV.below hb hV.lt
    exact ⟨hx.l_cf, hx.cell 0, hv.ld_vt, hv.vt_1, hv.vt_36 m.x.len, hv.ld_vsg, hx.cell 1⟩)
  have hn2 : ms.length ≤ maxLen := Nat.le_trans hn (by simp [maxLen])
  have HM := Lib.hid (hS.far HF.out)
  have HG := Lib.hid (hs.call HF.out)
  have HPL := Lib.hid (place_any ms ep A c hn2 m.x.frm w1 HM.out)
  have HGD : Hid (∀ w', Calls Tryz.prog 92 #[.agg m.cells.toArray] w' fun e w'' => e = .returned (.bool (vGood m.x)) ∧ Below w'.heap.size w' w'') := Lib.hid (fun w' => rvgood_any m w')
  have HSN : Hid (∀ w', Calls Tryz.prog 94 #[.agg m.cells.toArray] w' fun e w'' => e = .returned (.agg ((voteD m.x).map bv).toArray) ∧ Below w'.heap.size w' w'') := Lib.hid (fun w' => rsigns_any m hN w')
  have HE : Hid (rightX14 ms ep m.x = (vGood m.x && (decide (m.x.epoch = ep) && (hasB ms m.x.frm && sgGood (findM ms m.x.frm) (voteD m.x) m.sg)))) := Lib.hid rfl
  have HCK : Hid (∀ k : MemX, ∀ w', Below w1.heap.size w1 w' → Calls Tryz.prog 93 #[.agg (keyV k.root k.high), .agg ((voteD m.x).map bv).toArray, .agg m.sg.cells] w' fun e w'' => e = .returned (.bool (sgGood k (voteD m.x) m.sg)) ∧ Below w'.heap.size w' w'') := Lib.hid (fun k w' hb => by
    have h := HG.out.call hb
    exact rkcheck_any k.root (voteD m.x) k.len (voteD_len m.x) k.high m.sg.n m.sg.X m.sg.Y m.sg.P m.sg.A m.sg.B m.sg.C m.sg.a m.sg.b m.sg.c h.cap w' h.A h.B h.C)
  have c36 := (HC.out w1 (Below.refl _ _)).2.2.2.2.1
  have lcf := (HC.out w1 (Below.refl _ _)).1
  clear hX hV hS hs hN hn2
  by_cases hpos : posN ms m.x.frm < ms.length
  rotate_left
  · obtain ⟨h1, h2⟩ := find_not14 hpos
    have HR : Hid (rightX14 ms ep m.x = false) := Lib.hid (by rw [HE.out, h1]; simp)
    rw [h2] at HPL
    clear HE HCK HSN HGD h1 h2 hpos HM HG
    generalize rightX14 ms ep m.x = r at *
    generalize cfgV ep A ms.length c = CF at *
    generalize m.cells.toArray = cs at *
    generalize m.x.frm = n1 at *
    go_enter Tryz.func58, Tryz.ntmps58
    go_upto_region 1 with fail
    change Code.wp _ _ _ _ ((w.alloc (.cells CF 24)).alloc (.cells cs 74))
    rw [← hw1]
    clear hw1
    go_upto_region 2 with (go_at_call 91; (with_reducible refine (HPL.out).mono ?_); rintro e w2 ⟨rfl, hb⟩; have HB2 := Lib.hid hb; clear hb)
    have ldv := (HC.out w2 HB2.out).2.2.1
    go_wp2
    go_ret
    exact ⟨ret_val (congrArg Value.bool HR.out.symm), HF.out.trans (HB2.out.mono HF.out.size)⟩
  obtain ⟨hm, h1, h2⟩ := find_has14 hpos
  have HE2 : Hid (rightX14 ms ep m.x = (vGood m.x && (decide (m.x.epoch = ep) && sgGood (findM ms m.x.frm) (voteD m.x) m.sg))) := Lib.hid (by rw [HE.out, h1]; rfl)
  rw [h2] at HPL
  have HP := Lib.hid hpos
  have hp0 : ¬ ((posN ms m.x.frm : Nat) : Int) < 0 := by omega
  have HKY : Hid (∀ w', Below w1.heap.size w1 w' → ∃ g o, A = some ⟨g, o, none⟩ ∧ (ldKy13 (.pointer (some ⟨g, o + posN ms m.x.frm * 34 + 1, none⟩))).run Tryz.prog w' = .ok (.agg (keyV (findM ms m.x.frm).root (findM ms m.x.frm).high)) w') := Lib.hid (fun w' hb => by
    obtain ⟨g, o, hA, _, hr⟩ := (HM.out.far hb).range hpos
    refine ⟨g, o, hA, ?_⟩
    rw [hm]
    exact range_ky (range_tail14 (hr _ hpos)) (ms[posN ms m.x.frm]'hpos).len)
  have HK := Lib.hid (HCK.out (findM ms m.x.frm))
  clear HE HCK h1 h2 hm HM HG hpos
  generalize findM ms m.x.frm = k at *
  generalize posN ms m.x.frm = p at *
  generalize sgGood k (voteD m.x) m.sg = sg at *
  generalize keyV k.root k.high = KV at *
  generalize ((voteD m.x).map bv).toArray = DC at *
  generalize rightX14 ms ep m.x = r at *
  generalize vGood m.x = gd at *
  generalize cfgV ep A ms.length c = CF at *
  generalize m.cells.toArray = cs at *
  generalize m.sg.cells = SC at *
  generalize m.x.epoch = n0 at *
  generalize m.x.frm = n1 at *
  go_enter Tryz.func58, Tryz.ntmps58
  go_upto_region 1 with fail
  change Code.wp _ _ _ _ ((w.alloc (.cells CF 24)).alloc (.cells cs 74))
  rw [← hw1]
  clear hw1
  go_upto_region 2 with (go_at_call 91; (with_reducible refine (HPL.out).mono ?_); rintro e w2 ⟨rfl, hb⟩; have HB2 := Lib.hid hb; clear hb)
  clear c36 lcf HPL
  have ldv := (HC.out w2 HB2.out).2.2.1
  rcases gd with _ | _
  · have HR : Hid (r = false) := Lib.hid (by rw [HE2.out]; rfl)
    clear HE2
    go_wp2_with (go_at_call 92; (with_reducible refine (HGD.out _).mono ?_); rintro e w3 ⟨rfl, hb⟩; have HB3 := Lib.hid (HB2.out.trans (hb.mono HB2.out.size)); clear hb)
    go_ret
    exact ⟨ret_val (congrArg Value.bool HR.out.symm), HF.out.trans (HB3.out.mono HF.out.size)⟩
  by_cases g0 : n0 = ep
  rotate_left
  · have HR : Hid (r = false) := Lib.hid (by rw [HE2.out, decide_eq_false g0]; rfl)
    have m0 : (n0 != ep) = true := by simpa using g0
    clear HE2 g0
    go_wp2_with (go_at_call 92; (with_reducible refine (HGD.out _).mono ?_); rintro e w3 ⟨rfl, hb⟩; have HB3 := Lib.hid (HB2.out.trans (hb.mono HB2.out.size)); clear hb; have e0 := (HC.out w3 HB3.out).2.1; have e1 := (HC.out w3 HB3.out).2.2.2.1)
    go_ret
    exact ⟨ret_val (congrArg Value.bool HR.out.symm), HF.out.trans (HB3.out.mono HF.out.size)⟩
  subst g0
  have HR : Hid (r = sg) := Lib.hid (by rw [HE2.out]; simp)
  have m0 : (n0 != n0) = false := by simp
  clear HE2
  go_upto_region 4 with (go_at_call 92; (with_reducible refine (HGD.out _).mono ?_); rintro e w3 ⟨rfl, hb⟩; have HB3 := Lib.hid (HB2.out.trans (hb.mono HB2.out.size)); clear hb; have e0 := (HC.out w3 HB3.out).2.1; have e1 := (HC.out w3 HB3.out).2.2.2.1)
  clear e0 e1 m0 ldv HB2
  obtain ⟨g, o, rfl, _⟩ := HKY.out w3 HB3.out
  have Q1 : ∀ d os, (grow (redrawn w3 d) os).cell? ⟨w.heap.size, 1, none⟩ = some (.slice (some ⟨g, o, none⟩) ms.length c) := fun d os => (HC.out _ (HB3.out.trans ((below_regrown w3 d os).mono HB3.out.size))).2.2.2.2.2.2
  have Q2 : ∀ d os, (ldVt (.pointer (some ⟨w.heap.size + 1, 0, none⟩))).run Tryz.prog (grow (redrawn w3 d) os) = .ok (.agg cs) (grow (redrawn w3 d) os) := fun d os => (HC.out _ (HB3.out.trans ((below_regrown w3 d os).mono HB3.out.size))).2.2.1
  have Q3 : ∀ d os, (ldSg (.pointer (some ⟨w.heap.size + 1, 37, none⟩))).run Tryz.prog (grow (redrawn w3 d) os) = .ok (.agg SC) (grow (redrawn w3 d) os) := fun d os => (HC.out _ (HB3.out.trans ((below_regrown w3 d os).mono HB3.out.size))).2.2.2.2.2.1
  have Q4 : ∀ d os, (ldKy13 (.pointer (some ⟨g, o + p * 34 + 1, none⟩))).run Tryz.prog (grow (redrawn w3 d) os) = .ok (.agg KV) (grow (redrawn w3 d) os) := fun d os => by
    obtain ⟨g', o', he, hl⟩ := HKY.out _ (HB3.out.trans ((below_regrown w3 d os).mono HB3.out.size))
    cases he
    exact hl
  have i1 : (p : Int) < (ms.length : Int) := by have := HP.out; omega
  have i0 : (0 : Int) ≤ (p : Int) := by omega
  have K1 : Hid (∀ d os, Calls Tryz.prog 94 #[.agg cs] (grow (redrawn w3 d) os) fun e w'' => e = .returned (.agg DC) ∧ ∃ p : Regrown, w'' = grow (redrawn w3 p.d) p.os) := Lib.hid (fun d os => Calls.regrown_of (HSN.out _))
  have K2 : Hid (∀ d os, Calls Tryz.prog 93 #[.agg KV, .agg DC, .agg SC] (grow (redrawn w3 d) os) fun e w'' => e = .returned (.bool sg) ∧ ∃ p : Regrown, w'' = grow (redrawn w3 p.d) p.os) := Lib.hid (fun d os => Calls.regrown_of (HK.out _ (HB3.out.trans ((below_regrown w3 d os).mono HB3.out.size))))
  clear HC HKY HGD HSN HK
  refine wp_region_quiet_below (by kernel_rfl) (by kernel_rfl) ?_
  repeat (go_big_quiet_step (first
    | (go_at_call 94; with_reducible exact K1.out _ _)
    | (go_at_call 93; with_reducible exact K2.out _ _)))
  refine wpQuiet_nil ?_
  intro _ hw'
  obtain ⟨⟨dq, osq⟩, hw''⟩ := hw'
  subst hw''
  have HB7 := Lib.hid (HF.out.trans ((HB3.out.trans ((below_regrown w3 dq osq).mono HB3.out.size)).mono HF.out.size))
  clear Q1 Q2 Q3 Q4 K1 K2
  generalize grow (redrawn w3 dq) osq = w7 at *
  go_wp2
  go_ret
  exact ⟨ret_val (congrArg Value.bool HR.out.symm), HB7.out⟩
end Go.Proofs.YtbclepdcngaonaaGreatDoor

namespace Go.Proofs.YtbclepdcngaonaaGreatDoor
open Go.RowKit Go.Maps Go.Sort

attribute [local go_sem ↓] ldVt_def stVt_def ldDigest_def stDigest_def eqDigest_def ldCf_def ldBlk_def alVt14_def
set_option maxRecDepth 100000 in
set_option maxHeartbeats 16000000 in
theorem rcheck_any14 (ms : List MemX) (ep : Int) (AM : Option Addr) (cM : Nat) (hn : ms.length ≤ 1099511627776) (b : BlkM) (hz : Small12 b.x) (hbE : R64 b.x.epoch) (hbH : R64 b.x.height) (hbN : ∀ q ∈ b.x.reqs, R64 q.client ∧ R64 q.num ∧ R64 q.kind ∧ R64 q.ck ∧ R64 q.cid ∧ R64 q.cn ∧ R64 q.high) (r : Int) (vs : List VtM) (A : Option Addr) (c : Nat) (hl : vs.length ≤ 1000000) (hvN : ∀ m ∈ vs, VtNum m.x) (w : World) (hM : Mems w w.heap.size AM ms) (hB : QSee w w.heap.size b.A b.x.reqs) (hV : VtK.See w w.heap.size A vs) (hS : ∀ m ∈ vs, SgSee w m.sg) :
    Calls Tryz.prog 28 #[.agg (cfgV ep AM ms.length cM), .agg b.cells.toArray, .agg (crtV r A vs.length c)] w fun e w' => e = .returned (.bool (certB ep ms b.x r (vs.map VtM.x))) ∧ Below w.heap.size w w' := by
  obtain ⟨w1, hw1⟩ : ∃ w1, w1 = ((w.alloc (.cells (cfgV ep AM ms.length cM) 24)).alloc (.cells b.cells.toArray 32)).alloc (.cells (crtV r A vs.length c) 35) := ⟨_, rfl⟩
  have hX : Box w1 w.heap.size 24 (cfgV ep AM ms.length cM) := by rw [hw1]; exact ((Box.made w _ _).alloc _).alloc _
  have hY : Box w1 (w.heap.size + 1) 32 b.cells.toArray := by rw [hw1]; exact (Box.made_at (by simp) _ _).alloc _
  have hZ : Box w1 (w.heap.size + 1 + 1) 35 (crtV r A vs.length c) := by rw [hw1]; exact Box.made_at (by simp) _ _
  have HF : Hid (Below w.heap.size w w1) := by rw [hw1]; exact (((Below.refl _ _).alloc (Nat.le_refl _) _).alloc (by simp) _).alloc (by simp; omega) _
  have HC : Hid (∀ w', Below w1.heap.size w1 w' → (ldCf (.pointer (some ⟨w.heap.size, 0, none⟩))).run Tryz.prog w' = .ok (.agg (cfgV ep AM ms.length cM)) w' ∧ w'.cell? ⟨w.heap.size, 0, none⟩ = some (.int .i64 ep) ∧ w'.cell? ⟨w.heap.size, 1, none⟩ = some (.slice AM ms.length cM) ∧ (ldBlk (.pointer (some ⟨w.heap.size + 1, 0, none⟩))).run Tryz.prog w' = .ok (.agg b.cells.toArray) w' ∧ w'.cell? ⟨w.heap.size + 1, 0, none⟩ = some (.int .i64 b.x.epoch) ∧ w'.cell? ⟨w.heap.size + 1, 1, none⟩ = some (.int .i64 b.x.height) ∧
      w'.cell? ⟨w.heap.size + 1 + 1, 0, none⟩ = some (.int .i64 r) ∧ w'.cell? ⟨w.heap.size + 1 + 1, 1, none⟩ = some (.slice A vs.length c)) := Lib.hid (fun w' hb => by
    have hx := hX.below hb hX.lt
    have hy := hY.below hb hY.lt
    have hz := hZ.below hb hZ.lt
    exact ⟨hx.l_cf, hx.cell 0, hx.cell 1, hy.ld_blk, hy.bk_0, hy.bk_1, hz.cell 0, hz.cell 1⟩)
  have hn2 : ms.length ≤ maxLen := Nat.le_trans hn (by simp [maxLen])
  have HM1 := Lib.hid (hM.far HF.out)
  have HB1 := Lib.hid (hB.far HF.out)
  have HV1 := Lib.hid (EK.See.far hV HF.out)
  have HGC : Hid (∀ w', Below w1.heap.size w1 w' → Calls Tryz.prog 27 #[.agg (cfgV ep AM ms.length cM)] w' fun e w'' => e = .returned (.bool (goodB ep ms)) ∧ Below w'.heap.size w' w'') := Lib.hid (fun w' hb => rgood_any8 ms ep AM cM hn2 w' (HM1.out.far hb))
  have HGB : Hid (∀ w', Below w1.heap.size w1 w' → Calls Tryz.prog 55 #[.agg b.cells.toArray] w' fun e w'' => e = .returned (.bool (blkGood b.x)) ∧ Below w'.heap.size w' w'') := Lib.hid (fun w' hb => rgood_any12 b w' (HB1.out.far hb))
  have HGQ : Hid (∀ w', Calls Tryz.prog 56 #[.int .i64 (ms.length : Int)] w' fun e w'' => e = .returned (.int .i64 ((quorumN ms.length : Nat) : Int)) ∧ Below w'.heap.size w' w'') := Lib.hid (fun w' => (rquorum_any ms.length hn w').mono fun e w'' ⟨he, hw⟩ => ⟨he, by rw [← hw]; exact Below.refl _ _⟩)
  have HGD : Hid (∀ w', Below w1.heap.size w1 w' → Calls Tryz.prog 57 #[.agg b.cells.toArray] w' fun e w'' => e = .returned (.agg ((blkD b.x).map bv).toArray) ∧ Below w'.heap.size w' w'') := Lib.hid (fun w' hb => rblkdgt_any b hz hbE hbH hbN w' (HB1.out.far hb))
  have HGI : Hid (∀ w', Below w1.heap.size w1 w' → ∀ m ∈ vs, Calls Tryz.prog 58 #[.agg (cfgV ep AM ms.length cM), .agg m.cells.toArray] w' fun e w'' => e = .returned (.bool (rightX14 ms ep m.x)) ∧ Below w'.heap.size w' w'') := Lib.hid (fun w' hb m hm => rright_any ms ep AM cM hn m (hvN m hm) w' (HM1.out.far hb) (((hS m hm).call HF.out).call hb))
  have HE : Hid (certB ep ms b.x r (vs.map VtM.x) = (goodB ep ms && (blkGood b.x && (decide (b.x.epoch = ep) && (decide (quorumN ms.length ≤ vs.length) && (risB14 (vs.map VtM.x) && (vs.map VtM.x).all (ok14 ms ep b.x.height r (blkD b.x)))))))) := Lib.hid (by
    unfold certB
    rw [List.length_map])
  have HT : Hid ((∀ i (h : i + 1 < vs.length), (vs[i]'(by omega)).x.frm < (vs[i + 1]'h).x.frm) → risB14 (vs.map VtM.x) = true) := Lib.hid (fun h => risB14_iff.2 (fun i hi => by
    rw [List.length_map] at hi
    rw [List.getElem_map, List.getElem_map]
    exact h i hi))
  have HN : Hid (∀ i (h : i + 1 < vs.length), (vs[i + 1]'h).x.frm ≤ (vs[i]'(by omega)).x.frm → risB14 (vs.map VtM.x) = false) := Lib.hid (fun i hi h => by
    cases e : risB14 (vs.map VtM.x) with
    | false => rfl
    | true =>
      have h2 := risB14_iff.1 e i (by rw [List.length_map]; exact hi)
      rw [List.getElem_map, List.getElem_map] at h2
      omega)
  have HDL := Lib.hid (blkD_len b.x)
  have HLN := Lib.hid hl
  clear hX hY hZ hM hB hV hS hn hn2 hz hl hbE hbH hbN hvN HM1 HB1
  generalize goodB ep ms = g0 at *
  generalize blkGood b.x = g1 at *
  generalize risB14 (vs.map VtM.x) = g3 at *
  generalize blkD b.x = d at *
  generalize quorumN ms.length = q at *
  generalize hres : certB ep ms b.x r (vs.map VtM.x) = res at *
  clear hres
  generalize cfgV ep AM ms.length cM = CF at *
  generalize b.cells.toArray = BC at *
  generalize b.x.epoch = n0 at *
  generalize b.x.height = hh at *
  go_enter Tryz.func28, Tryz.ntmps28
  go_upto_region 1 with fail
  change Code.wp _ _ _ _ (((w.alloc (.cells CF 24)).alloc (.cells BC 32)).alloc (.cells (crtV r A vs.length c) 35))
  rw [← hw1]
  clear hw1
  have Q1 : ∀ d os, (ldCf (.pointer (some ⟨w.heap.size, 0, none⟩))).run Tryz.prog (grow (redrawn w1 d) os) = .ok (.agg CF) (grow (redrawn w1 d) os) := fun d os => (HC.out _ (below_regrown w1 d os)).1
  have Q2 : ∀ d os, (grow (redrawn w1 d) os).cell? ⟨w.heap.size, 0, none⟩ = some (.int .i64 ep) := fun d os => (HC.out _ (below_regrown w1 d os)).2.1
  have Q3 : ∀ d os, (grow (redrawn w1 d) os).cell? ⟨w.heap.size, 1, none⟩ = some (.slice AM ms.length cM) := fun d os => (HC.out _ (below_regrown w1 d os)).2.2.1
  have Q4 : ∀ d os, (ldBlk (.pointer (some ⟨w.heap.size + 1, 0, none⟩))).run Tryz.prog (grow (redrawn w1 d) os) = .ok (.agg BC) (grow (redrawn w1 d) os) := fun d os => (HC.out _ (below_regrown w1 d os)).2.2.2.1
  have Q5 : ∀ d os, (grow (redrawn w1 d) os).cell? ⟨w.heap.size + 1, 0, none⟩ = some (.int .i64 n0) := fun d os => (HC.out _ (below_regrown w1 d os)).2.2.2.2.1
  have Q6 : ∀ d os, (grow (redrawn w1 d) os).cell? ⟨w.heap.size + 1 + 1, 1, none⟩ = some (.slice A vs.length c) := fun d os => (HC.out _ (below_regrown w1 d os)).2.2.2.2.2.2.2
  have K1 : Hid (∀ d os, Calls Tryz.prog 27 #[.agg CF] (grow (redrawn w1 d) os) fun e w'' => e = .returned (.bool g0) ∧ ∃ p : Regrown, w'' = grow (redrawn w1 p.d) p.os) := Lib.hid (fun d os => Calls.regrown_of (HGC.out _ (below_regrown w1 d os)))
  have K2 : Hid (∀ d os, Calls Tryz.prog 55 #[.agg BC] (grow (redrawn w1 d) os) fun e w'' => e = .returned (.bool g1) ∧ ∃ p : Regrown, w'' = grow (redrawn w1 p.d) p.os) := Lib.hid (fun d os => Calls.regrown_of (HGB.out _ (below_regrown w1 d os)))
  have K3 : Hid (∀ d os, Calls Tryz.prog 56 #[.int .i64 (ms.length : Int)] (grow (redrawn w1 d) os) fun e w'' => e = .returned (.int .i64 (q : Int)) ∧ ∃ p : Regrown, w'' = grow (redrawn w1 p.d) p.os) := Lib.hid (fun d os => Calls.regrown_of (HGQ.out _))
  clear HGC HGB HGQ
  cases g0 with
  | false =>
    have HRS : Hid (res = false) := Lib.hid (by rw [HE.out]; rfl)
    clear HE
    refine wp_region_quiet_below (by kernel_rfl) (by kernel_rfl) ?_
    repeat (go_big_quiet_step (first
      | (go_at_call 27; with_reducible exact K1.out _ _)
      | (go_at_call 55; with_reducible exact K2.out _ _)
      | (go_at_call 56; with_reducible exact K3.out _ _)))
    refine wpQuiet_nil ?_
    intro _ hw'
    obtain ⟨⟨dq, osq⟩, hw''⟩ := hw'
    subst hw''
    have HB4 := Lib.hid (below_regrown w1 dq osq)
    clear Q1 Q2 Q3 Q4 Q5 Q6 K1 K2 K3
    generalize grow (redrawn w1 dq) osq = w4 at *
    go_wp2
    go_ret
    exact ⟨ret_val (congrArg Value.bool HRS.out.symm), HF.out.trans (HB4.out.mono HF.out.size)⟩
  | true =>
  cases g1 with
  | false =>
    have HRS : Hid (res = false) := Lib.hid (by rw [HE.out]; rfl)
    clear HE
    refine wp_region_quiet_below (by kernel_rfl) (by kernel_rfl) ?_
    repeat (go_big_quiet_step (first
      | (go_at_call 27; with_reducible exact K1.out _ _)
      | (go_at_call 55; with_reducible exact K2.out _ _)
      | (go_at_call 56; with_reducible exact K3.out _ _)))
    refine wpQuiet_nil ?_
    intro _ hw'
    obtain ⟨⟨dq, osq⟩, hw''⟩ := hw'
    subst hw''
    have HB4 := Lib.hid (below_regrown w1 dq osq)
    clear Q1 Q2 Q3 Q4 Q5 Q6 K1 K2 K3
    generalize grow (redrawn w1 dq) osq = w4 at *
    go_wp2
    go_ret
    exact ⟨ret_val (congrArg Value.bool HRS.out.symm), HF.out.trans (HB4.out.mono HF.out.size)⟩
  | true =>
  by_cases e0 : n0 = ep
  rotate_left
  · have HRS : Hid (res = false) := Lib.hid (by rw [HE.out, decide_eq_false e0]; rfl)
    have m0 : (n0 != ep) = true := by simpa using e0
    clear HE e0
    refine wp_region_quiet_below (by kernel_rfl) (by kernel_rfl) ?_
    repeat (go_big_quiet_step (first
      | (go_at_call 27; with_reducible exact K1.out _ _)
      | (go_at_call 55; with_reducible exact K2.out _ _)
      | (go_at_call 56; with_reducible exact K3.out _ _)))
    refine wpQuiet_nil ?_
    intro _ hw'
    obtain ⟨⟨dq, osq⟩, hw''⟩ := hw'
    subst hw''
    have HB4 := Lib.hid (below_regrown w1 dq osq)
    clear Q1 Q2 Q3 Q4 Q5 Q6 K1 K2 K3
    generalize grow (redrawn w1 dq) osq = w4 at *
    go_wp2
    go_ret
    exact ⟨ret_val (congrArg Value.bool HRS.out.symm), HF.out.trans (HB4.out.mono HF.out.size)⟩
  subst e0
  have m0 : (n0 != n0) = false := by simp
  by_cases hq : q ≤ vs.length
  rotate_left
  · have HRS : Hid (res = false) := Lib.hid (by rw [HE.out, decide_eq_false hq]; simp)
    have n2 : decide ((vs.length : Int) < (q : Int)) = true := decide_eq_true (by omega)
    have n3 : (vs.length : Int) < (q : Int) := by omega
    clear HE
    refine wp_region_quiet_below (by kernel_rfl) (by kernel_rfl) ?_
    repeat (go_big_quiet_step (first
      | (go_at_call 27; with_reducible exact K1.out _ _)
      | (go_at_call 55; with_reducible exact K2.out _ _)
      | (go_at_call 56; with_reducible exact K3.out _ _)))
    refine wpQuiet_nil ?_
    intro _ hw'
    obtain ⟨⟨dq, osq⟩, hw''⟩ := hw'
    subst hw''
    have HB4 := Lib.hid (below_regrown w1 dq osq)
    clear Q1 Q2 Q3 Q4 Q5 Q6 K1 K2 K3
    generalize grow (redrawn w1 dq) osq = w4 at *
    clear n2 n3
    go_wp2
    go_ret
    exact ⟨ret_val (congrArg Value.bool HRS.out.symm), HF.out.trans (HB4.out.mono HF.out.size)⟩
  have HRS : Hid (res = (g3 && (vs.map VtM.x).all (ok14 ms n0 hh r d))) := Lib.hid (by rw [HE.out, decide_eq_true hq]; simp)
  have n2 : decide ((vs.length : Int) < (q : Int)) = false := decide_eq_false (by omega)
  have n3 : ¬ (vs.length : Int) < (q : Int) := by omega
  clear HE
  refine wp_region_quiet_below (by kernel_rfl) (by kernel_rfl) ?_
  repeat (go_big_quiet_step (first
    | (go_at_call 27; with_reducible exact K1.out _ _)
    | (go_at_call 55; with_reducible exact K2.out _ _)
    | (go_at_call 56; with_reducible exact K3.out _ _)))
  refine wpQuiet_nil ?_
  intro _ hw'
  obtain ⟨⟨dq, osq⟩, hw''⟩ := hw'
  subst hw''
  have HB4 := Lib.hid (below_regrown w1 dq osq)
  clear Q1 Q2 Q3 Q4 Q5 Q6 K1 K2 K3
  generalize grow (redrawn w1 dq) osq = w4 at *
  clear n2 n3 hq m0
  have k7 := (HC.out w4 HB4.out).2.2.2.2.2.2.2
  go_wp2
  clear k7
  go_loopw [37] (fun i wr => ∃ k : Nat, k ≤ vs.length ∧ i = .int .i64 (k : Int) ∧ Hid (Below w4.heap.size w4 wr) ∧ Hid (∀ j (h : j < vs.length), j < k → ok14 ms n0 hh r d (vs[j]'h).x = true) ∧ Hid (∀ j (h : j + 1 < vs.length), j + 1 < k → (vs[j]'(by omega)).x.frm < (vs[j + 1]'h).x.frm)) (fun i _ => vs.length - (intOf i).toNat)
  case atStart => exact ⟨0, Nat.zero_le _, rfl, Lib.hid (Below.refl _ _), Lib.hid (fun j h h2 => by omega), Lib.hid (fun j h h2 => by omega)⟩
  case round =>
    obtain ⟨k, hk, rfl, HW, HI, HJ⟩ := hrel
    have HBR := Lib.hid (HB4.out.trans (HW.out.mono HB4.out.size))
    by_cases hlt : k < vs.length
    rotate_left
    · have i1 : ¬ (k : Int) < (vs.length : Int) := by omega
      have HR2 : Hid (res = true) := Lib.hid (by
        rw [HRS.out, HT.out (fun i hi => HJ.out i hi (by omega)), Bool.true_and, List.all_eq_true]
        intro x hx
        obtain ⟨m, hm, rfl⟩ := List.mem_map.1 hx
        obtain ⟨j, hj, rfl⟩ := List.getElem_of_mem hm
        exact HI.out j hj (by omega))
      go_wp2
      go_ret
      exact ⟨ret_val (congrArg Value.bool HR2.out.symm), HF.out.trans (HBR.out.mono HF.out.size)⟩
    have i1 : (k : Int) < (vs.length : Int) := by omega
    have i0 : (0 : Int) ≤ (k : Int) := by omega
    obtain ⟨g, o, hA, hrow⟩ : ∃ g o, A = some ⟨g, o, none⟩ ∧ ∀ w', Below wr.heap.size wr w' → ∀ j (hj : j < vs.length), w'.rangeAt g (o + j * 41) (vs[j]'hj).cells := by
      obtain ⟨g, o, hA, _, _⟩ := EK.See.range (EK.See.far HV1.out HBR.out) hlt
      refine ⟨g, o, hA, fun w' hb j hj => ?_⟩
      obtain ⟨g', o', hA', _, hr⟩ := EK.See.range (EK.See.far HV1.out (HBR.out.trans (hb.mono HBR.out.size))) hlt
      rw [hA] at hA'
      injection hA' with e
      injection e with e1 e2
      subst e1
      subst e2
      exact hr j hj
    subst hA
    have lv : (ldVt (.pointer (some ⟨g, o + k * 41, none⟩))).run Tryz.prog wr = .ok (.agg (vs[k]'hlt).cells.toArray) wr := range_vt (vs[k]'hlt).x.len (hrow wr (Below.refl _ _) k hlt)
    have HP : Hid (∀ w', Below wr.heap.size wr w' → ∀ (j : Nat) (hj : j < vs.length), w'.cell? ⟨g, o + j * 41 + 36, none⟩ = some (.int .i64 (vs[j]'hj).x.frm)) := Lib.hid (fun w' hb j hj => range_frm (hrow w' hb j hj))
    have HM : Hid ((vs[k]'hlt) ∈ vs) := Lib.hid (List.getElem_mem hlt)
    have HNO : Hid (ok14 ms n0 hh r d (vs[k]'hlt).x = false → res = false) := Lib.hid (fun h => by
      have h2 : (vs.map VtM.x).all (ok14 ms n0 hh r d) = false := by
        rw [List.all_eq_false]
        exact ⟨(vs[k]'hlt).x, List.mem_map.2 ⟨_, HM.out, rfl⟩, by rw [h]; simp⟩
      rw [HRS.out, h2, Bool.and_false])
    have HYE : Hid (ok14 ms n0 hh r d (vs[k]'hlt).x = true → ∀ j (h : j < vs.length), j < k + 1 → ok14 ms n0 hh r d (vs[j]'h).x = true) := Lib.hid (fun h j hj hjk => by
      by_cases e : j = k
      · subst e
        exact h
      · exact HI.out j hj (by omega))
    have HNJ : Hid (∀ j (hj : j < vs.length), k = j + 1 → (vs[k]'hlt).x.frm ≤ (vs[j]'hj).x.frm → res = false) := Lib.hid (fun j hj e h => by
      subst e
      rw [HRS.out, HN.out j hlt h, Bool.false_and])
    have HYJ : Hid (∀ j (hj : j < vs.length), k = j + 1 → (vs[j]'hj).x.frm < (vs[k]'hlt).x.frm → ∀ i (h : i + 1 < vs.length), i + 1 < k + 1 → (vs[i]'(by omega)).x.frm < (vs[i + 1]'h).x.frm) := Lib.hid (fun j hj e h i hi h3 => by
      by_cases e2 : i = j
      · subst e2
        subst e
        exact h
      · exact HJ.out i hi (by omega))
    have HY0 : Hid (k = 0 → ∀ i (h : i + 1 < vs.length), i + 1 < k + 1 → (vs[i]'(by omega)).x.frm < (vs[i + 1]'h).x.frm) := Lib.hid (fun e i hi h3 => by omega)
    have HLT := Lib.hid hlt
    clear hrow HI HJ
    generalize vs[k]'hlt = m at *
    have HOK : Hid (ok14 ms n0 hh r d m.x = (decide (m.x.kind = 2) && (decide (m.x.height = hh) && (decide (m.x.round = r) && decide (m.x.dig = d))) && rightX14 ms n0 m.x)) := Lib.hid rfl
    generalize ok14 ms n0 hh r d m.x = ok at *
    obtain ⟨w8, hst8, hb8, hbl8⟩ := laid_vt wr m
    have HX8 := Lib.hid hb8
    have HB8 := Lib.hid (HBR.out.trans (hbl8.mono HBR.out.size))
    have HW8 := Lib.hid (HW.out.trans (hbl8.mono HW.out.size))
    have HWR8 := Lib.hid hbl8
    have hav := al_vt14
    have HRX : Hid (∀ w', Below w8.heap.size w8 w' → Calls Tryz.prog 58 #[.agg CF, .agg m.cells.toArray] w' fun e w'' => e = .returned (.bool (rightX14 ms n0 m.x)) ∧ Below w'.heap.size w' w'') := Lib.hid (fun w' hb => HGI.out w' (HB8.out.trans (hb.mono HB8.out.size)) m HM.out)
    have wk : IntKind.i64.wrap ((k : Int) + 1) = ((k + 1 : Nat) : Int) := by rw [IntKind.wrap_i64]; have := HLN.out; omega
    have ed := eq_digest m.x.dig d m.x.len HDL.out
    have HV8 : Hid (∀ w', Below w8.heap.size w8 w' → w'.cell? ⟨wr.heap.size, 0, none⟩ = some (.int .i64 m.x.kind) ∧ w'.cell? ⟨wr.heap.size, 2, none⟩ = some (.int .i64 m.x.height) ∧ w'.cell? ⟨wr.heap.size, 3, none⟩ = some (.int .i64 m.x.round) ∧ (ldDigest (.pointer (some ⟨wr.heap.size, 4, none⟩))).run Tryz.prog w' = .ok (.agg (m.x.dig.map bv).toArray) w' ∧ w'.cell? ⟨wr.heap.size, 36, none⟩ = some (.int .i64 m.x.frm) ∧ (ldVt (.pointer (some ⟨wr.heap.size, 0, none⟩))).run Tryz.prog w' = .ok (.agg m.cells.toArray) w') := Lib.hid (fun w' hb => by
      have h := HX8.out.below hb HX8.out.lt
      exact ⟨h.vt_0, h.vt_2, h.vt_3, range_load h.vt_dig m.x.len, h.vt_36 m.x.len, h.ld_vt⟩)
    generalize hrx : rightX14 ms n0 m.x = rx at *
    clear hb8 hbl8 hrx
    go_upto_region 6 with fail
    clear hst8 hav lv i1 i0
    have HKY := Lib.hid wk
    have R0 : ∀ d' os, (grow (redrawn w8 d') os).cell? ⟨wr.heap.size, 0, none⟩ = some (.int .i64 m.x.kind) := fun d' os => (HV8.out _ (below_regrown w8 d' os)).1
    have R2 : ∀ d' os, (grow (redrawn w8 d') os).cell? ⟨wr.heap.size, 2, none⟩ = some (.int .i64 m.x.height) := fun d' os => (HV8.out _ (below_regrown w8 d' os)).2.1
    have R3 : ∀ d' os, (grow (redrawn w8 d') os).cell? ⟨wr.heap.size, 3, none⟩ = some (.int .i64 m.x.round) := fun d' os => (HV8.out _ (below_regrown w8 d' os)).2.2.1
    have R4 : ∀ d' os, (ldDigest (.pointer (some ⟨wr.heap.size, 4, none⟩))).run Tryz.prog (grow (redrawn w8 d') os) = .ok (.agg (m.x.dig.map bv).toArray) (grow (redrawn w8 d') os) := fun d' os => (HV8.out _ (below_regrown w8 d' os)).2.2.2.1
    have R5 : ∀ d' os, (grow (redrawn w8 d') os).cell? ⟨w.heap.size + 1 + 1, 0, none⟩ = some (.int .i64 r) := fun d' os => (HC.out _ (HB8.out.trans ((below_regrown w8 d' os).mono HB8.out.size))).2.2.2.2.2.2.1
    have R6 : ∀ d' os, (grow (redrawn w8 d') os).cell? ⟨w.heap.size + 1, 1, none⟩ = some (.int .i64 hh) := fun d' os => (HC.out _ (HB8.out.trans ((below_regrown w8 d' os).mono HB8.out.size))).2.2.2.2.2.1
    have R7 : ∀ d' os, (ldBlk (.pointer (some ⟨w.heap.size + 1, 0, none⟩))).run Tryz.prog (grow (redrawn w8 d') os) = .ok (.agg BC) (grow (redrawn w8 d') os) := fun d' os => (HC.out _ (HB8.out.trans ((below_regrown w8 d' os).mono HB8.out.size))).2.2.2.1
    have K6 : Hid (∀ d' os, Calls Tryz.prog 57 #[.agg BC] (grow (redrawn w8 d') os) fun e w'' => e = .returned (.agg (d.map bv).toArray) ∧ ∃ p : Regrown, w'' = grow (redrawn w8 p.d) p.os) := Lib.hid (fun d' os => Calls.regrown_of (HGD.out _ (HB8.out.trans ((below_regrown w8 d' os).mono HB8.out.size))))
    have HC8 : Hid (∀ w', Below w8.heap.size w8 w' → (ldCf (.pointer (some ⟨w.heap.size, 0, none⟩))).run Tryz.prog w' = .ok (.agg CF) w' ∧ w'.cell? ⟨w.heap.size + 1 + 1, 1, none⟩ = some (.slice (some ⟨g, o, none⟩) vs.length c) ∧ w'.cell? ⟨wr.heap.size, 36, none⟩ = some (.int .i64 m.x.frm) ∧ (ldVt (.pointer (some ⟨wr.heap.size, 0, none⟩))).run Tryz.prog w' = .ok (.agg m.cells.toArray) w' ∧ ∀ (j : Nat) (hj : j < vs.length), w'.cell? ⟨g, o + j * 41 + 36, none⟩ = some (.int .i64 (vs[j]'hj).x.frm)) := Lib.hid (fun w' hb => by
      have h1 := HC.out w' (HB8.out.trans (hb.mono HB8.out.size))
      have h2 := HV8.out w' hb
      exact ⟨h1.1, h1.2.2.2.2.2.2.2, h2.2.2.2.2.1, h2.2.2.2.2.2, HP.out w' (HWR8.out.trans (hb.mono HWR8.out.size))⟩)
    clear HC HV8 HGD HGI HP HWR8 HV1 HM HX8 HT HN
    generalize decide (m.x.dig = d) = dd at *
    generalize (m.x.dig.map bv).toArray = P1 at *
    generalize (d.map bv).toArray = DC at *
    generalize m.x.kind = v0 at *
    generalize m.x.height = v2 at *
    generalize m.x.round = v3 at *
    generalize m.x.frm = f1 at *
    generalize m.cells.toArray = MC at *
    by_cases g0 : v0 = 2
    rotate_left
    · have HR2 : Hid (res = false) := Lib.hid (HNO.out (by rw [HOK.out, decide_eq_false g0]; simp))
      have m0 : (v0 != 2) = true := by simpa using g0
      clear HNO HYE HOK g0 HNJ HYJ HY0
      refine wp_region_quiet_below (by kernel_rfl) (by kernel_rfl) ?_
      repeat (go_big_quiet_step (first
        | (go_at_call 57; with_reducible exact K6.out _ _)))
      refine wpQuiet_nil ?_
      intro _ hw'
      obtain ⟨⟨dq, osq⟩, hw''⟩ := hw'
      subst hw''
      have HB9 := Lib.hid (below_regrown w8 dq osq)
      clear R0 R2 R3 R4 R5 R6 R7 K6
      generalize grow (redrawn w8 dq) osq = w9 at *
      go_wp2
      go_ret
      exact ⟨ret_val (congrArg Value.bool HR2.out.symm), HF.out.trans ((HB8.out.trans (HB9.out.mono HB8.out.size)).mono HF.out.size)⟩
    subst g0
    by_cases g1 : v3 = r
    rotate_left
    · have HR2 : Hid (res = false) := Lib.hid (HNO.out (by rw [HOK.out, decide_eq_false g1]; simp))
      have m0 : (v3 != r) = true := by simpa using g1
      clear HNO HYE HOK g1 HNJ HYJ HY0
      refine wp_region_quiet_below (by kernel_rfl) (by kernel_rfl) ?_
      repeat (go_big_quiet_step (first
        | (go_at_call 57; with_reducible exact K6.out _ _)))
      refine wpQuiet_nil ?_
      intro _ hw'
      obtain ⟨⟨dq, osq⟩, hw''⟩ := hw'
      subst hw''
      have HB9 := Lib.hid (below_regrown w8 dq osq)
      clear R0 R2 R3 R4 R5 R6 R7 K6
      generalize grow (redrawn w8 dq) osq = w9 at *
      go_wp2
      go_ret
      exact ⟨ret_val (congrArg Value.bool HR2.out.symm), HF.out.trans ((HB8.out.trans (HB9.out.mono HB8.out.size)).mono HF.out.size)⟩
    subst g1
    have m1 : (v3 != v3) = false := by simp
    by_cases g2 : v2 = hh
    rotate_left
    · have HR2 : Hid (res = false) := Lib.hid (HNO.out (by rw [HOK.out, decide_eq_false g2]; simp))
      have m0 : (v2 != hh) = true := by simpa using g2
      clear HNO HYE HOK g2 HNJ HYJ HY0
      refine wp_region_quiet_below (by kernel_rfl) (by kernel_rfl) ?_
      repeat (go_big_quiet_step (first
        | (go_at_call 57; with_reducible exact K6.out _ _)))
      refine wpQuiet_nil ?_
      intro _ hw'
      obtain ⟨⟨dq, osq⟩, hw''⟩ := hw'
      subst hw''
      have HB9 := Lib.hid (below_regrown w8 dq osq)
      clear R0 R2 R3 R4 R5 R6 R7 K6
      generalize grow (redrawn w8 dq) osq = w9 at *
      go_wp2
      go_ret
      exact ⟨ret_val (congrArg Value.bool HR2.out.symm), HF.out.trans ((HB8.out.trans (HB9.out.mono HB8.out.size)).mono HF.out.size)⟩
    subst g2
    have m2 : (v2 != v2) = false := by simp
    cases dd with
    | false =>
      have HR2 : Hid (res = false) := Lib.hid (HNO.out (by rw [HOK.out]; simp))
      clear HNO HYE HOK HNJ HYJ HY0
      refine wp_region_quiet_below (by kernel_rfl) (by kernel_rfl) ?_
      repeat (go_big_quiet_step (first
        | (go_at_call 57; with_reducible exact K6.out _ _)))
      refine wpQuiet_nil ?_
      intro _ hw'
      obtain ⟨⟨dq, osq⟩, hw''⟩ := hw'
      subst hw''
      have HB9 := Lib.hid (below_regrown w8 dq osq)
      clear R0 R2 R3 R4 R5 R6 R7 K6
      generalize grow (redrawn w8 dq) osq = w9 at *
      go_wp2
      go_ret
      exact ⟨ret_val (congrArg Value.bool HR2.out.symm), HF.out.trans ((HB8.out.trans (HB9.out.mono HB8.out.size)).mono HF.out.size)⟩
    | true =>
    have HOK2 : Hid (ok = rx) := Lib.hid (by rw [HOK.out]; simp)
    clear HOK
    refine wp_region_quiet_below (by kernel_rfl) (by kernel_rfl) ?_
    repeat (go_big_quiet_step (first
      | (go_at_call 57; with_reducible exact K6.out _ _)))
    refine wpQuiet_nil ?_
    intro _ hw'
    obtain ⟨⟨dq, osq⟩, hw''⟩ := hw'
    subst hw''
    have HB9 := Lib.hid (below_regrown w8 dq osq)
    clear R0 R2 R3 R4 R5 R6 R7 K6
    generalize grow (redrawn w8 dq) osq = w9 at *
    clear m1 m2 ed
    go_upto_region 8 with fail
    obtain ⟨q1, q2, q3, q4, q5⟩ := HC8.out w9 HB9.out
    have HRT : Hid (∀ w', Below w9.heap.size w9 w' → Calls Tryz.prog 58 #[.agg CF, .agg MC] w' fun e w'' => e = .returned (.bool rx) ∧ Below w'.heap.size w' w'') := Lib.hid (fun w' hb => HRX.out w' (HB9.out.trans (hb.mono HB9.out.size)))
    have HC9 : Hid (∀ w', Below w9.heap.size w9 w' → (ldCf (.pointer (some ⟨w.heap.size, 0, none⟩))).run Tryz.prog w' = .ok (.agg CF) w' ∧ (ldVt (.pointer (some ⟨wr.heap.size, 0, none⟩))).run Tryz.prog w' = .ok (.agg MC) w') := Lib.hid (fun w' hb => by
      have h := HC8.out w' (HB9.out.trans (hb.mono HB9.out.size))
      exact ⟨h.1, h.2.2.2.1⟩)
    have HFR := Lib.hid (HF.out.trans ((HB8.out.trans (HB9.out.mono HB8.out.size)).mono HF.out.size))
    have HWR := Lib.hid (HW8.out.trans (HB9.out.mono HW8.out.size))
    clear HC8 HRX HB8 HB9 HW8 HBR HW HB4 HF wk
    by_cases hk0 : k = 0
    · have d0 : decide ((0 : Int) < (k : Int)) = false := decide_eq_false (by omega)
      have d1 : ¬ (0 : Int) < (k : Int) := by omega
      have HYJ2 := Lib.hid (HY0.out hk0)
      clear HNJ HYJ HY0 q5
      go_quiet (fail)
      have HD9 := Lib.hid (below_drewN (Below.refl w9.heap.size w9) nq)
      have HF9 := Lib.hid (HFR.out.trans (HD9.out.mono HFR.out.size))
      have HW9 := Lib.hid (HWR.out.trans (HD9.out.mono HWR.out.size))
      have HR9 := Lib.hid (HRT.out _ HD9.out)
      have HKK := Lib.hid (HC9.out _ HD9.out)
      clear q1 q2 q3 q4 d0 d1 HD9 HC9 HRT
      generalize w9.drewN nq = w10 at *
      obtain ⟨p1, p2⟩ := HKK.out
      have wk := HKY.out
      cases rx with
      | false =>
        have HR2 : Hid (res = false) := Lib.hid (HNO.out HOK2.out)
        clear HNO HYE HOK2
        go_wp2_with (go_at_call 58; (with_reducible refine (HR9.out).mono ?_); rintro e w11 ⟨rfl, hb⟩; have HB11 := Lib.hid (HF9.out.trans (hb.mono HF9.out.size)); clear hb)
        go_ret
        exact ⟨ret_val (congrArg Value.bool HR2.out.symm), HB11.out⟩
      | true =>
        have HY2 := Lib.hid (HYE.out HOK2.out)
        clear HNO HYE HOK2
        go_wp2_with (go_at_call 58; (with_reducible refine (HR9.out).mono ?_); rintro e w11 ⟨rfl, hb⟩; have HB11 := Lib.hid (HW9.out.trans (hb.mono HW9.out.size)); clear hb)
        go_roundw
        case rel => exact ⟨k + 1, HLT.out, by go_num, HB11, HY2, HYJ2⟩
        case measure => have := HLT.out; simp [intOf]; omega
    obtain ⟨j, hj⟩ : ∃ j, k = j + 1 := ⟨k - 1, by omega⟩
    have hjl : j < vs.length := by omega
    have d0 : decide ((0 : Int) < (k : Int)) = true := decide_eq_true (by omega)
    have d1 : (0 : Int) < (k : Int) := by omega
    have d2 : 0 < k := by omega
    have d3 : decide (0 < k) = true := decide_eq_true d2
    have c0 := q5 j hjl
    have HNJ2 := Lib.hid (HNJ.out j hjl hj)
    have HYJ3 := Lib.hid (HYJ.out j hjl hj)
    have i2 : (j : Int) < (vs.length : Int) := by omega
    have i3 : (0 : Int) ≤ (j : Int) := by omega
    have w1' : IntKind.i64.wrap ((k : Int) - 1) = (j : Int) := by rw [IntKind.wrap_i64]; have := HLN.out; omega
    clear HNJ HYJ HY0 q5 hj hk0
    generalize (vs[j]'hjl).x.frm = f0 at *
    by_cases hf : f0 < f1
    rotate_left
    · have HR2 : Hid (res = false) := Lib.hid (HNJ2.out (by omega))
      have e1 : decide (f1 ≤ f0) = true := decide_eq_true (by omega)
      clear HNJ2 HYJ3 hf HNO HYE
      go_quiet (fail)
      have HF9 := Lib.hid (HFR.out.trans ((below_drewN (Below.refl w9.heap.size w9) nq).mono HFR.out.size))
      clear c0 q1 q2 q3 q4 d0 d1 d2 d3 w1' i2 i3
      generalize w9.drewN nq = w10 at *
      go_wp2
      go_ret
      exact ⟨ret_val (congrArg Value.bool HR2.out.symm), HF9.out⟩
    have e1 : decide (f1 ≤ f0) = false := decide_eq_false (by omega)
    have HYJ2 := Lib.hid (HYJ3.out hf)
    clear HNJ2 HYJ3 hf
    go_quiet (fail)
    have HD9 := Lib.hid (below_drewN (Below.refl w9.heap.size w9) nq)
    have HF9 := Lib.hid (HFR.out.trans (HD9.out.mono HFR.out.size))
    have HW9 := Lib.hid (HWR.out.trans (HD9.out.mono HWR.out.size))
    have HR9 := Lib.hid (HRT.out _ HD9.out)
    have HKK := Lib.hid (HC9.out _ HD9.out)
    clear c0 w1' i2 i3 e1 d2 d3 q1 q2 q3 q4 d0 d1 HD9 HC9 HRT
    generalize w9.drewN nq = w10 at *
    obtain ⟨p1, p2⟩ := HKK.out
    have wk := HKY.out
    cases rx with
    | false =>
      have HR2 : Hid (res = false) := Lib.hid (HNO.out HOK2.out)
      clear HNO HYE HOK2
      go_wp2_with (go_at_call 58; (with_reducible refine (HR9.out).mono ?_); rintro e w11 ⟨rfl, hb⟩; have HB11 := Lib.hid (HF9.out.trans (hb.mono HF9.out.size)); clear hb)
      go_ret
      exact ⟨ret_val (congrArg Value.bool HR2.out.symm), HB11.out⟩
    | true =>
      have HY2 := Lib.hid (HYE.out HOK2.out)
      clear HNO HYE HOK2
      go_wp2_with (go_at_call 58; (with_reducible refine (HR9.out).mono ?_); rintro e w11 ⟨rfl, hb⟩; have HB11 := Lib.hid (HW9.out.trans (hb.mono HW9.out.size)); clear hb)
      go_roundw
      case rel => exact ⟨k + 1, HLT.out, by go_num, HB11, HY2, HYJ2⟩
      case measure => have := HLT.out; simp [intOf]; omega
end Go.Proofs.YtbclepdcngaonaaGreatDoor
