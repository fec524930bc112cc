/-
  CodeReads: the walk of the law.
-/
import Derived.Test.YtkafpdfjdnklaaaRref
import Derived.Deep.RegionWith
import Derived.Deep.RegionHeld3
import Derived.Deep.DeepCutAuto
import Derived.Deep.CutBlock
namespace Go.Proofs.Ytkafpdfjdnklaaa
open Go.RowKit

/-- The program's Reader stands when the reference's is turned. -/
theorem Rd.aside2 {w w' : World} {a m : Nat} {l l2 : List UInt8} {bad bad2 : Bool} (h : Rd w a l bad) (hr : RRd w m l2 bad2) (hne : a ≠ m) (hb : w.grownBy w' (some m)) : Rd w' a l bad := by
  obtain ⟨A, c, h1, h2, h3, h4⟩ := h
  refine ⟨A, c, h1.grown hb (by simpa using hne), h2, h3, ?_⟩
  rcases h4 with h4 | ⟨g, o, rfl, hg, hc⟩
  · exact .inl h4
  · by_cases hgr : g = m
    · subst hgr
      left
      cases l with
      | nil => rfl
      | cons b t =>
        exfalso
        have h0 := hc 0 (bv b) rfl
        rw [Box.cell hr] at h0
        match o, h0 with
        | 0, h0 => simp [bv] at h0
        | 1, h0 => simp [bv] at h0
        | _ + 2, h0 => simp at h0
    · refine .inr ⟨g, o, rfl, hg, fun j v hj => ?_⟩
      exact hb.cell (hc j v hj) (by simpa using hgr)

/-- Both Readers stand alike. -/
def Both (w : World) (r m : Nat) (wx : World) : Prop := ∃ lr bad, Rd wx r lr bad ∧ RRd wx m lr bad ∧ Below w.heap.size w wx
theorem Both.further {w wx w' : World} {r m : Nat} (h : Both w r m wx) (hb : Below wx.heap.size wx w') : Both w r m w' := by
  obtain ⟨lr, bad, h1, h2, h3⟩ := h
  exact ⟨lr, bad, h1.below hb h1.lt, h2.below hb h2.lt, h3.trans (hb.mono h3.size)⟩
theorem Box.grown_ne {w w' : World} {g r : Nat} {t : TypeId} {cs : Array Value} (h : Box w g t cs) (hb : w.grownBy w' (some r)) (hne : g ≠ r) : Box w' g t cs := h.grown hb (by simpa using hne)
theorem zero_eq3 (w : World) : (Op.equalIn 10000 39 (.agg zcells) (.agg zcells')).run Try.prog w = .ok true w := by kernel_rfl
theorem digest_nil2 (w : World) : Calls Try.prog 24 #[.pointer none] w fun e w' => e = .returned (.agg zcells) ∧ Below w.heap.size w w' := digest_nil w
/-- What Read and the reference's Reader are, whichever is made first. -/
def Made (w : World) (l : List UInt8) (s5 s6 : Value) (wx : World) : Prop :=
  ∃ r m, s5 = .pointer (some ⟨r, 0, none⟩) ∧ s6 = .pointer (some ⟨m, 0, none⟩) ∧ Rd wx r l false ∧ RRd wx m l false ∧ w.heap.size ≤ r ∧ w.heap.size ≤ m ∧ r ≠ m ∧ Below w.heap.size w wx

theorem made_1 {w W w2 : World} {l : List UInt8} {r : Nat} (hR : Rd w2 r l false) (hr : W.heap.size ≤ r) (hB : Below W.heap.size W w2) (hW : Below w.heap.size w W) : Made w l (.pointer (some ⟨r, 0, none⟩)) (.pointer (some ⟨w2.heap.size, 0, none⟩)) (w2.alloc (.cells #[str l, .bool false] 46)) := by
  have h1 := hR.lt
  have h2 := hW.size
  have h3 := hB.size
  refine ⟨r, w2.heap.size, rfl, rfl, hR.alloc _, Box.made _ _ _, by omega, by omega, by omega, (hW.trans (hB.mono h2)).alloc (by omega) _⟩
theorem made_2 {w W w2 : World} {l : List UInt8} {r : Nat} (hR : Rd w2 r l false) (hr : (W.alloc (.cells #[str l, .bool false] 46)).heap.size ≤ r) (hB : Below (W.alloc (.cells #[str l, .bool false] 46)).heap.size (W.alloc (.cells #[str l, .bool false] 46)) w2) (hW : Below w.heap.size w W) :
    Made w l (.pointer (some ⟨r, 0, none⟩)) (.pointer (some ⟨W.heap.size, 0, none⟩)) w2 := by
  have h1 := hR.lt
  have h2 := hW.size
  have h3 : (W.alloc (.cells #[str l, .bool false] 46)).heap.size = W.heap.size + 1 := by simp
  have hb : RRd (W.alloc (.cells #[str l, .bool false] 46)) W.heap.size l false := Box.made _ _ _
  refine ⟨r, W.heap.size, rfl, rfl, hR, hb.below hB (by omega), by omega, by omega, by omega, (hW.alloc (by omega) _).trans (hB.mono (by omega))⟩

/-- Both Readers, turned one after the other. -/
theorem both_turned {w wx w1 w2 : World} {r m : Nat} {l2 l3 : List UInt8} {bad b3 : Bool} (hM : RRd wx m l2 bad) (hne : r ≠ m) (hR1 : Rd w1 r l3 b3) (hG1 : wx.grownBy w1 (some r)) (hM1 : RRd w1 m l2 bad → RRd w2 m l3 b3 ∧ w1.grownBy w2 (some m)) (hB : Below w.heap.size w wx) (hBw : w.heap.size ≤ wx.heap.size) (hr : w.heap.size ≤ r) (hm : w.heap.size ≤ m) : Both w r m w2 := by
  have h1 := hM.other hG1 (fun h => hne h.symm)
  obtain ⟨h2, h3⟩ := hM1 h1
  have hb1 := hB.trans (below_only hG1 hr hBw)
  exact ⟨l3, b3, hR1.aside2 h1 hne h3, h2, hb1.trans (below_only h3 hm (Nat.le_trans hBw hG1.size))⟩

set_option maxRecDepth 100000 in
set_option maxHeartbeats 6400000 in
theorem reads_walk (A C : Option Addr) (l : List UInt8) (ps : List PartV) (c d : Nat) (w : World) (hb : Sees w w.heap.size A (l.map bv)) (hl : l.length ≤ 9223372036854775807) (hp : Sees w w.heap.size C (ps.flatMap partCells)) (hpl : ps.length ≤ 9223372036854775807)
    (hwf : ∀ p ∈ ps, p.d.length = 32) :
    Calls Try.prog 4 #[.slice A l.length c, .slice C ps.length d] w fun e w' => e = .returned (.bool true) ∧ Below w.heap.size w w' := by
  have HA := Lib.hid (alive_any w)
  have HB := Lib.hid hb
  have HP := Lib.hid hp
  have HD := Lib.hid hwf
  clear hb hp hwf
  go_enter Try.func4, Try.ntmps4
  go_wp2_with fail
  refine (HA.out).mono ?_
  rintro e w1 ⟨rfl, hB1⟩
  have HB1 := Lib.hid hB1
  clear hB1 HA
  by_cases h1 : (16384 : Int) < (l.length : Int)
  · go_wp2
    go_ret
    exact ⟨rfl, HB1.out⟩
  have h1' : decide ((16384 : Int) < (l.length : Int)) = false := by simpa using h1
  by_cases h2 : (200 : Int) < (ps.length : Int)
  · go_wp2
    go_ret
    exact ⟨rfl, HB1.out⟩
  have h2' : decide ((200 : Int) < (ps.length : Int)) = false := by simpa using h2
  go_upto_region 5 with fail
  go_cut [5, 6] (fun s5 s6 wx => Made w l s5 s6 wx)
  case first =>
    have hSd : Sees w1.drew w.heap.size A (l.map bv) := HB.out.below HB1.out.drew
    have hs1 : w.heap.size ≤ w1.drew.heap.size := HB1.out.size
    have hBa : Below w.heap.size w (w1.drew.alloc (.cells #[str l, .bool false] 46)) := HB1.out.drew.alloc hs1 _
    have HRa := Lib.hid (read_any w.heap.size A l c w1.drew hSd hs1 (by omega))
    have HRb := Lib.hid (read_any w.heap.size A l c (w1.drew.alloc (.cells #[str l, .bool false] 46)) (HB.out.below hBa) hBa.size (by omega))
    have hconv0 := convert_sees (P := Try.prog) 27 5 9 Try.underlying27 Try.underlying5 Try.underlying9 hSd c
    have HBa := Lib.hid hBa
    have HBd := Lib.hid HB1.out.drew
    clear hSd hBa
    go_region_with (go_at_call 19; (first | refine (HRa.out).mono ?_ | refine (HRb.out).mono ?_); rintro e w2 ⟨r, rfl, hR, hr, hB⟩; have HR := Lib.hid hR; have HB2 := Lib.hid hB; clear hR hB; try (have hconv1 := convert_sees (P := Try.prog) 27 5 9 Try.underlying27 Try.underlying5 Try.underlying9 (HB.out.below (HBd.out.trans (HB2.out.mono hs1))) c))
    all_goals try simp only [List.getElem_toArray, List.getElem_cons_succ, List.getElem_cons_zero, Act.put, List.setIfInBounds_toArray, List.set_cons_succ, List.set_cons_zero]
    all_goals go_wp2_with fail
    all_goals go_meet
    all_goals (first | exact made_1 (W := w1.drew) HR.out hr HB2.out HBd.out | exact made_2 (W := w1.drew) HR.out hr HB2.out HBd.out)
  case rest =>
    obtain ⟨r, m, rfl, rfl, hR, hM, hrw, hmw, hne, hB⟩ := hcut
    have HR := Lib.hid hR
    have HM := Lib.hid hM
    have HB2 := Lib.hid hB
    clear hR hM hB HB1 HB
    go_wp2
    go_loopw [9, 10, 29] (fun _ _ i wr => ∃ j : Nat, j ≤ ps.length ∧ i = .int .i64 j ∧ Hid (Both w r m wr)) (fun _ _ i _ => ps.length - (intOf i).toNat)
    case atStart => exact ⟨0, Nat.zero_le _, rfl, ⟨l, false, HR.out, HM.out, HB2.out⟩⟩
    case round =>
      obtain ⟨j, hj, rfl, hBo⟩ := hrel
      by_cases hjl : j < ps.length
      · obtain ⟨lr, bad, hR, hM, hB⟩ := hBo.out
        obtain ⟨gC, oC, rfl, hg, hr⟩ := (HP.out).part HD.out hjl
        have hpd := HD.out ps[j] (List.getElem_mem hjl)
        generalize ps[j] = p at *
        have hrr : Hid (wr.rangeAt gC (oC + j * 37) (partCells p)) := fun i v hi => (hB.cell (by exact hg)).trans (hr i v hi)
        have hsz : Hid ((Try.prog.info? 48).map (·.size) = some (partCells p).length) := by
          show _ = _
          rw [partCells_len hpd]
          kernel_rfl
        have hsz2 : Hid ((Try.prog.info? 48).map (·.size) = some (partCells p).toArray.size) := hsz
        have hsz3 : Hid ((partCells p).toArray.size = pzero.size) := by
          show _ = _
          rw [List.size_toArray, partCells_len hpd]
          rfl
        have hone2 : Hid (∀ v ∈ (partCells p).toArray.toList, v.oneCell' = true) := partCells_one p
        have hB0 := Lib.hid (Box.made wr 48 pzero)
        have HPD := Lib.hid hpd
        have HR3 := Lib.hid hR
        have HM3 := Lib.hid hM
        have HB3 := Lib.hid hB
        clear hr hpd hR hM hB hBo HR HM HB2
        go_upto_region 10 with (first
          | (with_reducible show wpList _ _ _ ((⟨some 32, _, _, _, _, _⟩ : Oper) :: _) _ _; refine wpList_load_mid rfl 48 (.tmp 31) rfl gC (oC + j * 37) rfl (partCells p) _ hrr.out Try.underlying48 rfl hsz.out ?_)
          | (with_reducible show wpList _ _ _ ((⟨none, .store _ _ _, _, _, _, _⟩ : Oper) :: _) _ _; refine wpList_store_box rfl 48 (.tmp 9) (.tmp 32) rfl wr.heap.size (partCells p).toArray rfl rfl 48 pzero hB0.out hsz3.out hsz2.out hone2.out ?_; intro w4 hb4 hg4))
        have hB4 : Below wr.heap.size wr w4 := ((Below.refl _ _).alloc (Nat.le_refl _) _).trans (below_only hg4 (Nat.le_refl _) (by simp))
        have HB4 := Lib.hid (HB3.out.trans (hB4.mono HB3.out.size))
        have HR4 := Lib.hid (HR3.out.below hB4 HR3.out.lt)
        have HM4 := Lib.hid (HM3.out.below hB4 HM3.out.lt)
        have HX := Lib.hid hb4
        have hrs : r < wr.heap.size := HR3.out.lt
        have hms : m < wr.heap.size := HM3.out.lt
        have c0 := (part_cells HPD.out hb4).1
        generalize hgw : wr.heap.size = G at *
        clear hb4 hg4 hB4 hB0 hsz hsz2 hsz3 hone2 hrr HR3 HM3 HB3 hgw hg
        have hGr : G ≠ r := by omega
        have hGm : G ≠ m := by omega
        have hw4 := HB4.out.size
        go_upto_block 2 with fail
        go_cut [10, 34] (fun s10 _ wx => s10 = .bool true ∧ Both w r m wx)
        case first =>
          by_cases k0 : p.kind = 0
          · have HN := Lib.hid (num_any r lr bad w4 HR4.out)
            go_wp2_with fail
            refine (HN.out).mono ?_
            rintro e w5 ⟨rfl, hR5, hG5⟩
            have HM5 := Lib.hid (HM4.out.other hG5 (fun h => hne h.symm))
            have HN2 := Lib.hid (rnum_any m lr bad w5 HM5.out)
            have HR5 := Lib.hid hR5
            have HG5 := Lib.hid hG5
            clear hR5 hG5 HN
            go_wp2_with fail
            refine (HN2.out).mono ?_
            rintro e w6 ⟨rfl, hM6, hG6⟩
            have HBo := Lib.hid (both_turned HM4.out hne HR5.out HG5.out (fun _ => ⟨hM6, hG6⟩) HB4.out hw4 hrw hmw)
            clear hM6 hG6 HN2 HM5 HR5 HG5
            generalize numV lr bad = nv at *
            go_wp2_with (go_at_call 20; refine (num_nil _).mono ?_; rintro e w' ⟨rfl, rfl⟩)
            go_meet
            exact ⟨rfl, HBo.out⟩
          · have k0' : (p.kind == 0) = false := by simpa using k0
            by_cases k1 : p.kind = 1
            · go_upto_region 15 with fail
              · have HMd : Hid (RRd w4.drew m lr bad) := HM4.out
                have HXd : Hid (Box w4.drew G 48 (partCells p).toArray) := HX.out
                have c4 : w4.drew.cell? ⟨G, 1, none⟩ = some (.int .i64 p.num) := (part_cells HPD.out HXd.out).2.1
                have hT : Calls Try.prog 22 #[.pointer (some ⟨r, 0, none⟩), .int .i64 p.num] w4.drew fun e w' => e = .returned (str (txtV p.num lr bad).1) ∧ Rd w' r (txtV p.num lr bad).2.1 (txtV p.num lr bad).2.2 ∧ w4.drew.grownBy w' (some r) := text_any r p.num lr bad w4.drew HR4.out
                have HT := Lib.hid hT
                clear hT HR4 HM4 HX
                go_region_held3 (fun w' => w'.cell? ⟨G, 1, none⟩ = some (.int .i64 p.num)) (first | assumption | (exact ⟨by assumption, by assumption⟩) | go_keep) ((first
                  | (go_at_call_of 22 (Value.pointer none); refine (text_nil _ _).mono ?_; rintro e w' ⟨rfl, rfl⟩)
                  | (go_at_call_of 22 (Value.pointer (some ⟨r, 0, none⟩)); refine (HT.out).mono ?_; rintro e w5 ⟨rfl, hR5, hG5⟩; have HX5 := Lib.hid (Box.grown_ne HXd.out hG5 hGr); have HM5 := Lib.hid (HMd.out.other hG5 (fun h => hne h.symm)); have HT2 := Lib.hid (rtext_any m p.num lr bad w5 HM5.out); have HR5 := Lib.hid hR5; have HG5 := Lib.hid hG5; have c5 := (part_cells HPD.out HX5.out).2.1; clear hR5 hG5)
                  | (go_at_call 23; refine (HT2.out).mono ?_; rintro e w6 ⟨rfl, hM6, hG6⟩; have HX6 := Lib.hid (Box.grown_ne HX5.out hG6 hGm); have HBo := Lib.hid (both_turned HMd.out hne HR5.out HG5.out (fun _ => ⟨hM6, hG6⟩) HB4.out.drew hw4 hrw hmw); have c6 := (part_cells HPD.out HX6.out).2.1; clear hM6 hG6)))
                all_goals try simp only [List.getElem_toArray, List.getElem_cons_succ, List.getElem_cons_zero, Act.put, List.setIfInBounds_toArray, List.set_cons_succ, List.set_cons_zero]
                all_goals go_wp2_with fail
                all_goals go_meet
                all_goals exact ⟨rfl, HBo.out⟩
            · have k1' : (p.kind == 1) = false := by simpa using k1
              by_cases k2 : p.kind = 2
              · have hT : Calls Try.prog 24 #[.pointer (some ⟨r, 0, none⟩)] w4 fun e w' => e = .returned (.agg ((digV lr bad).map bv).toArray) ∧ Rd w' r (tk 32 lr bad).2.1 (tk 32 lr bad).2.2 ∧ w4.grownBy w' (some r) := digest_any r lr bad w4 HR4.out
                have HT := Lib.hid hT
                have hdl := digV_len lr bad
                have HDE : Hid (∀ w, (Op.equalIn 10000 39 (.agg ((digV lr bad).map bv).toArray) (.agg ((digV lr bad).map bv).toArray)).run Try.prog w = .ok true w) := fun w => by
                  rw [dig_eq _ _ hdl hdl w]
                  simp
                clear hT
                go_wp2_with fail
                refine (HT.out).mono ?_
                rintro e w5 ⟨rfl, hR5, hG5⟩
                have HM5 := Lib.hid (HM4.out.other hG5 (fun h => hne h.symm))
                have hN2 : Calls Try.prog 25 #[.pointer (some ⟨m, 0, none⟩)] w5 fun e w' => e = .returned (.agg ((digV lr bad).map bv).toArray) ∧ RRd w' m (tk 32 lr bad).2.1 (tk 32 lr bad).2.2 ∧ w5.grownBy w' (some m) := rdigest_any m lr bad w5 HM5.out
                have HN2 := Lib.hid hN2
                have HR5 := Lib.hid hR5
                have HG5 := Lib.hid hG5
                clear hR5 hG5 HT hN2 hdl
                generalize digV lr bad = D at *
                go_wp2_with fail
                refine (HN2.out).mono ?_
                rintro e w6 ⟨rfl, hM6, hG6⟩
                have HBo := Lib.hid (both_turned HM4.out hne HR5.out HG5.out (fun _ => ⟨hM6, hG6⟩) HB4.out hw4 hrw hmw)
                have hde := HDE.out w6
                clear hM6 hG6 HN2 HM5 HR5 HG5 HDE
                go_wp2_with fail
                refine (digest_nil2 w6).mono ?_
                rintro e w7 ⟨rfl, hB7⟩
                have HBo7 := Lib.hid (HBo.out.further hB7)
                have hze := zero_eq3 w7
                clear hB7 HBo hde
                go_wp2_with fail
                go_meet
                exact ⟨rfl, HBo7.out⟩
              · have k2' : (p.kind == 2) = false := by simpa using k2
                by_cases k3 : p.kind = 3
                · go_upto_region 19 with fail
                  have HMd : Hid (RRd w4.drew m lr bad) := HM4.out
                  have HXd : Hid (Box w4.drew G 48 (partCells p).toArray) := HX.out
                  have c4a : w4.drew.cell? ⟨G, 35, none⟩ = some (.int .i64 p.lo) := (part_cells HPD.out HXd.out).2.2.2.2.1
                  have c4b : w4.drew.cell? ⟨G, 36, none⟩ = some (.int .i64 p.hi) := (part_cells HPD.out HXd.out).2.2.2.2.2
                  have hT : Calls Try.prog 26 #[.pointer (some ⟨r, 0, none⟩), .int .i64 p.lo, .int .i64 p.hi] w4.drew fun e w' => e = .returned (.int .i64 (inV p.lo p.hi lr bad).1) ∧ Rd w' r (inV p.lo p.hi lr bad).2.1 (inV p.lo p.hi lr bad).2.2 ∧ w4.drew.grownBy w' (some r) := in_any r p.lo p.hi lr bad w4.drew HR4.out
                  have HT := Lib.hid hT
                  clear hT HR4 HM4 HX
                  go_region_held3 (fun w' => w'.cell? ⟨G, 35, none⟩ = some (.int .i64 p.lo) ∧ w'.cell? ⟨G, 36, none⟩ = some (.int .i64 p.hi)) (first | assumption | (exact ⟨by assumption, by assumption⟩) | go_keep) ((first
                    | (go_at_call_of 26 (Value.pointer none); refine (in_nil _ _ _).mono ?_; rintro e w' ⟨rfl, rfl⟩)
                    | (go_at_call_of 26 (Value.pointer (some ⟨r, 0, none⟩)); refine (HT.out).mono ?_; rintro e w5 ⟨rfl, hR5, hG5⟩; have HX5 := Lib.hid (Box.grown_ne HXd.out hG5 hGr); have HM5 := Lib.hid (HMd.out.other hG5 (fun h => hne h.symm)); have HT2 := Lib.hid (rin_any m p.lo p.hi lr bad w5 HM5.out); have HR5 := Lib.hid hR5; have HG5 := Lib.hid hG5; have c5a := (part_cells HPD.out HX5.out).2.2.2.2.1; have c5b := (part_cells HPD.out HX5.out).2.2.2.2.2; clear hR5 hG5)
                    | (go_at_call 27; refine (HT2.out).mono ?_; rintro e w6 ⟨rfl, hM6, hG6⟩; have HX6 := Lib.hid (Box.grown_ne HX5.out hG6 hGm); have HBo := Lib.hid (both_turned HMd.out hne HR5.out HG5.out (fun _ => ⟨hM6, hG6⟩) HB4.out.drew hw4 hrw hmw); have c6a := (part_cells HPD.out HX6.out).2.2.2.2.1; have c6b := (part_cells HPD.out HX6.out).2.2.2.2.2; clear hM6 hG6)))
                  all_goals try simp only [List.getElem_toArray, List.getElem_cons_succ, List.getElem_cons_zero, Act.put, List.setIfInBounds_toArray, List.set_cons_succ, List.set_cons_zero]
                  all_goals go_wp2_with fail
                  all_goals go_meet
                  all_goals exact ⟨rfl, HBo.out⟩
                · have k3' : (p.kind == 3) = false := by simpa using k3
                  have HBo : Hid (Both w r m w4) := ⟨lr, bad, HR4.out, HM4.out, HB4.out⟩
                  clear HR4 HM4 HB4 HX
                  go_wp2_with fail
                  go_meet
                  exact ⟨rfl, HBo.out⟩
        case rest =>
          obtain ⟨rfl, hBo⟩ := hcut
          have HBo := Lib.hid hBo
          obtain ⟨l3, b3, hR, hM, _⟩ := hBo
          clear HR4 HM4 HB4 HX c0
          have HN1 := Lib.hid (good_any r l3 b3 _ hR)
          have HN2 := Lib.hid (rgood_any m l3 b3 _ hM)
          have HN3 := Lib.hid (end_any r l3 b3 _ hR)
          have HN4 := Lib.hid (rend_any m l3 b3 _ hM)
          clear hR hM
          generalize (!b3 && l3.isEmpty) = be at *
          generalize (!b3) = bg at *
          go_wp2_with (first
            | (go_at_call 28; refine (HN1.out).mono ?_; rintro e w' ⟨rfl, rfl⟩)
            | (go_at_call 29; refine (HN2.out).mono ?_; rintro e w' ⟨rfl, rfl⟩)
            | (go_at_call 30; refine (HN3.out).mono ?_; rintro e w' ⟨rfl, rfl⟩)
            | (go_at_call 31; refine (HN4.out).mono ?_; rintro e w' ⟨rfl, rfl⟩))
          go_roundw
          case rel => exact ⟨j + 1, by omega, by go_num, HBo⟩
          case measure => simp [intOf]; omega
      · obtain ⟨_, _, _, _, hB⟩ := hBo.out
        have HB9 := Lib.hid hB
        clear hBo hB HR HM HB2
        go_wp2_with (first
          | (go_at_call 28; refine (good_nil _).mono ?_; rintro e w' ⟨rfl, rfl⟩)
          | (go_at_call 30; refine (end_nil _).mono ?_; rintro e w' ⟨rfl, rfl⟩))
        go_ret
        exact ⟨rfl, HB9.out⟩
end Go.Proofs.Ytkafpdfjdnklaaa
