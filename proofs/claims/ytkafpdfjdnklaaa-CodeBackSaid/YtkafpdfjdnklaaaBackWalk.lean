/-
  CodeBack: the walk of the law.
-/
import Derived.Test.YtkafpdfjdnklaaaBack2
import Derived.Test.YtkafpdfjdnklaaaKit2
import Derived.Deep.RegionWith
import Derived.Deep.RegionHeld3
import Derived.Deep.DeepCutAuto
import Derived.Deep.CutBlock
namespace Go.Proofs.Ytkafpdfjdnklaaa
open Go.RowKit

theorem slice_some_ne (g n c : Nat) : Value.slice (some ⟨g, 0, none⟩) n c ≠ Value.slice none 0 0 := fun h => by cases h
theorem own_zero {w : World} {base n cap : Nat} {e : TypeId} {A : Option Addr} {xs : List Value} (h : w.ownsRow base e 1 (.slice A (0 + n) cap) (0 + n) ([] ++ xs)) : w.ownsRow base e 1 (.slice A n cap) n xs := by
  rw [Nat.zero_add] at h
  exact h
theorem size_alloc_le (w : World) (o : Obj) : w.heap.size ≤ (w.alloc o).heap.size := by simp

theorem Box.grown_ne {w w' : World} {g r : Nat} {t : TypeId} {cs : Array Value} (h : Box w g t cs) (hb : w.grownBy w' (some r)) (hne : g ≠ r) : Box w' g t cs := h.grown hb (by simpa using hne)
/-- Behind one part's call and its comparison. -/
def BackCut (ps : List PartV) (k j r : Nat) (w3 : World) (s : Value) (wx : World) : Prop :=
  ∃ (ok : Bool) (lr : List UInt8) (bad : Bool), s = .bool ok ∧ (k < 2 → ok = true) ∧ BackInv ps k (j + 1) lr bad ∧ Rd wx r lr bad ∧ Below w3.heap.size w3 wx

theorem backcut_mk {ps : List PartV} {k j r : Nat} {w3 w4 w5 : World} {l3 : List UInt8} {b3 ok ok' : Bool} (he : ok = ok') (hst : BackInv ps k (j + 1) l3 b3 ∧ (k < 2 → ok' = true)) (hR : Rd w5 r l3 b3) (hG : w4.drew.grownBy w5 (some r)) (hB : Below w3.heap.size w3 w4) (hr : w3.heap.size ≤ r) : BackCut ps k j r w3 (.bool ok) w5 :=
  ⟨ok, l3, b3, rfl, fun h => he.trans (hst.2 h), hst.1, hR, hB.trans (below_only (only_trans (only_drew (only_refl w4 _)) hG) hr hB.size)⟩

set_option maxRecDepth 100000 in
set_option maxHeartbeats 6400000 in
theorem back_walk (C : Option Addr) (ps : List PartV) (d : Nat) (w : World) (hp : Sees w w.heap.size C (ps.flatMap partCells)) (hpl : ps.length ≤ 9223372036854775807) (hwf : ∀ p ∈ ps, p.d.length = 32 ∧ I64 p.num) (hs : ∀ p ∈ ps, p.s.size ≤ 140737488351232) :
    Calls Try.prog 5 #[.slice C ps.length d] w fun e w' => e = .returned (.bool true) ∧ Below w.heap.size w w' := by
  have HA := Lib.hid (alive_any w)
  have HP := Lib.hid hp
  have HWF := Lib.hid hwf
  have HD := Lib.hid (fun p hp => (hwf p hp).1)
  have HS := Lib.hid hs
  clear hp hwf hs
  go_enter Try.func5, Try.ntmps5
  go_wp2_with fail
  refine (HA.out).mono ?_
  rintro e w1 ⟨rfl, hB1⟩
  have HB1 := Lib.hid hB1
  clear hB1 HA
  go_wp2_with fail
  refine (great_any C ps d w.heap.size w1 HB1.out.size (HP.out.below HB1.out) hpl HD.out HS.out).mono ?_
  rintro e w2 ⟨t, rfl, ht, hB⟩
  have HB2 := Lib.hid (HB1.out.trans (hB.mono HB1.out.size))
  clear hB HB1
  cases t
  case true =>
    go_wp2
    go_ret
    exact ⟨rfl, HB2.out⟩
  obtain ⟨hn, hsum⟩ := ht rfl
  clear ht
  go_wp2_with fail
  refine (written_any C ps d w.heap.size w2 HB2.out.size (HP.out.below HB2.out) HWF.out HS.out hn hsum).mono ?_
  rintro e w3 ⟨A, c, rfl, hc, hsees, hB⟩
  have HB3 := Lib.hid (HB2.out.trans (hB.mono HB2.out.size))
  have HL := wb_len ps HD.out
  have HSee := Lib.hid hsees
  have HW3 : Hid (∀ p ∈ ps, p.d.length = 32 ∧ I64 p.num ∧ p.s.size < 4294967296) := fun p hp => by
    obtain ⟨h1, h2⟩ := HWF.out p hp
    refine ⟨h1, h2, ?_⟩
    have := sums_mem ps p hp
    omega
  obtain ⟨i0, hi0, hz0, hz1, hz2⟩ := info_parts w_byte_info
  have hs3 := HB3.out.size
  clear hB HB2 hsees
  go_wp2
  go_loopw [5] (fun i wr => ∃ k : Nat, k ≤ 3 ∧ i = .int .i64 k ∧ Hid (Below w3.heap.size w3 wr)) (fun i _ => 3 - (intOf i).toNat)
  case atStart => exact ⟨0, by omega, rfl, Below.refl _ _⟩
  case round =>
    obtain ⟨k, hk, rfl, hB⟩ := hrel
    by_cases hlt : k < 3
    · by_cases hbr : k = 2 ∧ (wb ps).length = 0
      · obtain ⟨rfl, h0⟩ := hbr
        go_wp2
        go_ret
        exact ⟨rfl, HB3.out.trans (hB.out.mono hs3)⟩
      · have HK2 : Hid (k = 2 → wb ps ≠ []) := fun h e => hbr ⟨h, by rw [e]; rfl⟩
        have hk3 : k ≤ 2 := by omega
        go_upto_region 9 with fail
        go_cut [30] (fun s wx => s = .bool false ∧ wx = wr)
        case first =>
          by_cases h2 : k = 2
          · subst h2
            have hne : ¬ (wb ps).length = 0 := fun h => hbr ⟨rfl, h⟩
            go_wp2_with fail
            go_meet
            exact ⟨congrArg Value.bool (by rw [beq_eq_false_iff_ne]; omega), rfl⟩
          · go_wp2_with fail
            go_meet
            exact ⟨rfl, rfl⟩
        case rest =>
          obtain ⟨rfl, rfl⟩ := hcut
          have hmine : (wc.alloc (.cells #[] 5)).ownsRow wc.heap.size 5 1 (.slice (some ⟨wc.heap.size, 0, none⟩) 0 0) 0 [] := World.ownsRow_lit wc #[] 0 (Nat.le_refl _) (by simp [maxLen]) rfl
          have HM := Lib.hid hmine
          have hB0 : Below wc.heap.size wc (wc.alloc (.cells #[] 5)) := (Below.refl _ _).alloc (Nat.le_refl _) _
          have HSee2 := Lib.hid (((HSee.out.below hB.out).more hB.out.size).below hB0)
          have hone := Lib.hid (bv_one (wb ps))
          have hone2 := Lib.hid (bv_one [120])
          have hlen : Hid (((wb ps).map bv).length = (wb ps).length) := List.length_map ..
          have HB4 := Lib.hid hB0
          have hnn : Hid (Value.slice (some ⟨wc.heap.size, 0, none⟩) 0 0 ≠ Value.slice none 0 0) := fun h => by cases h
          have hs4 : wc.heap.size ≤ (wc.alloc (.cells #[] 5)).heap.size := hB0.size
          have hm63 : 0 + (wb ps).length ≤ 70368744177664 := by omega
          have hm64 : (wb ps).length + 1 ≤ 70368744177664 := by omega
          clear hmine hB0
          go_upto_region 11 with (first
            | (with_reducible show wpList _ _ _ ((⟨some 33, _, _, _, _, _⟩ : Oper) :: _) _ _; refine wpList_append_seen rfl (.tmp 31) (.tmp 32) 27 rfl wc.heap.size 5 i0 _ Try.underlying27 hi0 hz0 hz1 hz2 rfl (.slice (some ⟨wc.heap.size, 0, none⟩) 0 0) 0 [] rfl HM.out hnn.out wc.heap.size A (wb ps).length c ((wb ps).map bv) rfl HSee2.out hlen.out hone.out hm63 hs4 ?_; intro g cap w4 hown hgrow; have HM4 := Lib.hid (own_zero hown); have HG4 := Lib.hid hgrow; clear hown hgrow; have hnn2 := Lib.hid (slice_some_ne g (wb ps).length cap); have hs5 : wc.heap.size ≤ (w4.alloc (.cells #[.int .u8 120] 5)).heap.size := Nat.le_trans hs4 (Nat.le_trans HG4.out.size (size_alloc_le w4 _)))
            | (with_reducible show wpList _ _ _ ((⟨some 35, _, _, _, _, _⟩ : Oper) :: _) _ _; refine wpList_append_seen rfl (.tmp 33) (.tmp 34) 27 rfl wc.heap.size 5 i0 _ Try.underlying27 hi0 hz0 hz1 hz2 rfl (.slice (some ⟨g, 0, none⟩) (wb ps).length cap) (wb ps).length ((wb ps).map bv) rfl (HM4.out.alloc _) hnn2.out (w4.heap.size + 1) (some ⟨w4.heap.size, 0, none⟩) 1 1 ([120].map bv) rfl (Sees.of_box (Box.made w4 _ _) (Nat.lt_succ_self _)) rfl hone2.out hm64 hs5 ?_; intro g2 cap2 w5 hown hgrow; have HM5 := Lib.hid hown; have HG5 := Lib.hid hgrow; clear hown hgrow))
          obtain ⟨ga, capa, hva, hga, _, _, _⟩ := own_form HM4.out hnn2.out
          simp only [Value.slice.injEq, Option.some.injEq, Addr.mk.injEq, and_true, true_and] at hva
          obtain ⟨rfl, rfl⟩ := hva
          obtain ⟨ga, capa, hva, hgb, hgl, hlc, hcm⟩ := own_form HM5.out (slice_some_ne _ _ _)
          simp only [Value.slice.injEq, Option.some.injEq, Addr.mk.injEq, and_true, true_and] at hva
          obtain ⟨rfl, rfl⟩ := hva
          have HB5 : Hid (Below w3.heap.size w3 w5) := by
            have b1 : Below wc.heap.size wc w4 := HB4.out.trans (below_only HG4.out (Nat.le_refl _) hs4)
            have b2 : Below wc.heap.size wc (w4.alloc (.cells #[.int .u8 120] 5)) := b1.trans ((Below.refl wc.heap.size w4).alloc b1.size _)
            have b3 : Below wc.heap.size wc w5 := b2.trans (below_only HG5.out hga b2.size)
            exact hB.out.trans (b3.mono hB.out.size)
          have HSc : Hid (Sees w5 w5.heap.size (some ⟨g2, 0, none⟩) (((wb ps) ++ [120]).map bv)) := by
            have h := Sees.of_own HM5.out
            rw [← List.map_append] at h
            exact h
          have hkl : k ≤ (wb ps).length + 1 := by
            by_cases h2 : k = 2
            · have : (wb ps).length ≠ 0 := fun h => hbr ⟨h2, h⟩
              omega
            · omega
          have hs5 := HB5.out.size
          clear HM HM4 HM5 HG4 HG5 HB4 hone hone2 hlen hnn hnn2 HSee2 hm63 hm64 hga hgb hgl hs4 hB
          go_upto_region 12 with fail
          have hcl : ((wb ps ++ [120]).take ((wb ps).length + 1 - k)).length = (wb ps).length + 1 - k := by
            rw [List.length_take, List.length_append]
            simp
          have HI0 := Lib.hid (back_start ps k hk3 HK2.out)
          have HSc2 : Hid (Sees w5 w5.heap.size (some ⟨g2, 0, none⟩) (((wb ps ++ [120]).take ((wb ps).length + 1 - k)).map bv)) := by
            have h := HSc.out.take ((wb ps).length + 1 - k)
            rw [← List.map_take] at h
            exact h
          generalize (wb ps ++ [120]).take ((wb ps).length + 1 - k) = cl at *
          have hcl2 : cl.length ≤ 70368744177664 := by omega
          rw [← hcl]
          clear hcl HSc
          go_wp2_with fail
          refine (read_any w5.heap.size (some ⟨g2, 0, none⟩) cl cap2 w5 HSc2.out (Nat.le_refl _) hcl2).mono ?_
          rintro e w6 ⟨r, rfl, hR, hr, hB6⟩
          have HR := Lib.hid hR
          have HB6 := Lib.hid (HB5.out.trans (hB6.mono hs5))
          have hrw : w3.heap.size ≤ r := Nat.le_trans hs5 hr
          clear hR hB6 HSc2 hr
          go_wp2
          go_loopw [9, 10, 47] (fun _ _ i wr => ∃ (j : Nat) (lr : List UInt8) (bad : Bool), j ≤ ps.length ∧ i = .int .i64 j ∧ Hid (BackInv ps k j lr bad) ∧ Hid (Rd wr r lr bad) ∧ Hid (Below w3.heap.size w3 wr)) (fun _ _ i _ => ps.length - (intOf i).toNat)
          case atStart => exact ⟨0, cl, false, Nat.zero_le _, rfl, HI0, HR, HB6⟩
          case round =>
            obtain ⟨j, lr, bad, hj, rfl, hI, hR, hB⟩ := hrel
            by_cases hjl : j < ps.length
            · obtain ⟨gC, oC, rfl, hg, hr⟩ := (HP.out).part HD.out hjl
              have hpd := HD.out ps[j] (List.getElem_mem hjl)
              have HST := Lib.hid (back_step ps k j hjl lr bad hI.out HW3.out)
              generalize ps[j] = p at *
              have hBw := HB3.out.trans (hB.out.mono hs3)
              have hrr : Hid (wr.rangeAt gC (oC + j * 37) (partCells p)) := fun i v hi => (hBw.cell (by exact hg)).trans (hr i v hi)
              have hsz : Hid ((Try.prog.info? 48).map (·.size) = some (partCells p).length) := by
                show _ = _
                rw [partCells_len hpd]
                kernel_rfl
              have hsz2 : Hid ((Try.prog.info? 48).map (·.size) = some (partCells p).toArray.size) := hsz
              have hsz3 : Hid ((partCells p).toArray.size = pzero.size) := by
                show _ = _
                rw [List.size_toArray, partCells_len hpd]
                rfl
              have hone2 : Hid (∀ v ∈ (partCells p).toArray.toList, v.oneCell' = true) := partCells_one p
              have hB0 := Lib.hid (Box.made wr 48 pzero)
              have HPD := Lib.hid hpd
              clear hr hpd hI
              go_upto_region 16 with (first
                | (with_reducible show wpList _ _ _ ((⟨some 50, _, _, _, _, _⟩ : Oper) :: _) _ _; refine wpList_load_mid rfl 48 (.tmp 49) rfl gC (oC + j * 37) rfl (partCells p) _ hrr.out Try.underlying48 rfl hsz.out ?_)
                | (with_reducible show wpList _ _ _ ((⟨none, .store _ _ _, _, _, _, _⟩ : Oper) :: _) _ _; refine wpList_store_box rfl 48 (.tmp 9) (.tmp 50) rfl wr.heap.size (partCells p).toArray rfl rfl 48 pzero hB0.out hsz3.out hsz2.out hone2.out ?_; intro w4 hb4 hg4))
              have hB4 : Below wr.heap.size wr w4 := ((Below.refl _ _).alloc (Nat.le_refl _) _).trans (below_only hg4 (Nat.le_refl _) (by simp))
              have HB4 := Lib.hid (hB.out.trans (hB4.mono hB.out.size))
              have HR4 := Lib.hid (hR.out.below hB4 hR.out.lt)
              have HX := Lib.hid hb4
              have hrs : r < wr.heap.size := hR.out.lt
              have c0 := (part_cells HPD.out hb4).1
              generalize hgw : wr.heap.size = G at *
              clear hb4 hg4 hB4 hB0 hsz hsz2 hsz3 hone2 hrr hR hB hgw hBw hg
              generalize hst : stepBack p lr bad = st at *
              have HSB := Lib.hid hst
              clear hst
              have hne : G ≠ r := by omega
              go_upto_block 4 with fail
              go_cut [10, 52] (fun s _ wx => BackCut ps k j r w3 s wx)
              case first =>
                by_cases k1 : p.kind = 1
                · have e := HSB.out
                  unfold stepBack at e
                  rw [if_pos k1] at e
                  subst e
                  have hT : Calls Try.prog 22 #[.pointer (some ⟨r, 0, none⟩), .int .i64 (p.s.size : Int)] w4.drew fun e w' => e = .returned (str (txtV p.s.size lr bad).1) ∧ Rd w' r (txtV p.s.size lr bad).2.1 (txtV p.s.size lr bad).2.2 ∧ w4.drew.grownBy w' (some r) := text_any r p.s.size lr bad w4.drew HR4.out
                  have HT := Lib.hid hT
                  clear hT HSB HR4
                  generalize txtV p.s.size lr bad = T at *
                  obtain ⟨tx, l3, b3⟩ := T
                  go_upto_region 20 with fail
                  have c2 : w4.drew.cell? ⟨G, 2, none⟩ = some (.string p.s) := (part_cells HPD.out HX.out).2.2.1
                  go_region_held3 (fun w' => w'.cell? ⟨G, 2, none⟩ = some (.string p.s)) (first | assumption | go_keep) ((go_at_call 22; refine (HT.out).mono ?_; rintro e w5 ⟨rfl, hR5, hG5⟩; have HR5 := Lib.hid hR5; have HG5 := Lib.hid hG5; have c2' := (part_cells HPD.out (Box.grown_ne HX.out.drew hG5 hne)).2.2.1; clear hR5 hG5))
                  all_goals try simp only [List.getElem_toArray, List.getElem_cons_succ, List.getElem_cons_zero, Act.put, List.setIfInBounds_toArray, List.set_cons_succ, List.set_cons_zero]
                  all_goals go_wp2_with fail
                  all_goals go_meet
                  all_goals exact backcut_mk (by rw [ByteArray.toList_eq, Bool.eq_iff_iff]; simp) HST.out HR5.out HG5.out HB4.out hrw
                by_cases k2 : p.kind = 2
                · have k1' : (p.kind == 1) = false := by simpa using k1
                  have e := HSB.out
                  unfold stepBack at e
                  rw [if_neg k1, if_pos k2] at e
                  subst e
                  have hT : Calls Try.prog 24 #[.pointer (some ⟨r, 0, none⟩)] w4.drew fun e w' => e = .returned (.agg ((digV lr bad).map bv).toArray) ∧ Rd w' r (tk 32 lr bad).2.1 (tk 32 lr bad).2.2 ∧ w4.drew.grownBy w' (some r) := digest_any r lr bad w4.drew HR4.out
                  have HT := Lib.hid hT
                  have hde : ∀ w, (Op.equalIn 10000 39 (.agg ((digV lr bad).map bv).toArray) (.agg (p.d.map bv).toArray)).run Try.prog w = .ok (decide (digV lr bad = p.d)) w := fun w => dig_eq _ _ (digV_len lr bad) HPD.out w
                  clear hT HSB HR4
                  generalize digV lr bad = D at *
                  generalize (tk 32 lr bad).2 = T at *
                  obtain ⟨l3, b3⟩ := T
                  go_upto_region 22 with fail
                  have c3 : w4.drew.rangeAt G 3 (p.d.map bv) := (part_cells HPD.out HX.out).2.2.2.1
                  have hu39 := Try.underlying39
                  have hi39 : (Try.prog.info? 39).map (·.size) = some (p.d.map bv).length := by
                    rw [List.length_map, HPD.out]
                    kernel_rfl
                  go_region_held3 (fun w' => w'.rangeAt G 3 (p.d.map bv)) (first | assumption | go_keep) ((go_at_call 24; refine (HT.out).mono ?_; rintro e w5 ⟨rfl, hR5, hG5⟩; have HR5 := Lib.hid hR5; have HG5 := Lib.hid hG5; have c3' := (part_cells HPD.out (Box.grown_ne HX.out.drew hG5 hne)).2.2.2.1; clear hR5 hG5))
                  all_goals try simp only [List.getElem_toArray, List.getElem_cons_succ, List.getElem_cons_zero, Act.put, List.setIfInBounds_toArray, List.set_cons_succ, List.set_cons_zero]
                  all_goals go_wp2_with fail
                  all_goals go_meet
                  all_goals exact backcut_mk rfl HST.out HR5.out HG5.out HB4.out hrw
                · have k1' : (p.kind == 1) = false := by simpa using k1
                  have k2' : (p.kind == 2) = false := by simpa using k2
                  have e := HSB.out
                  unfold stepBack at e
                  rw [if_neg k1, if_neg k2] at e
                  subst e
                  have hT : Calls Try.prog 26 #[.pointer (some ⟨r, 0, none⟩), .int .i64 p.num, .int .i64 p.num] w4.drew fun e w' => e = .returned (.int .i64 (inV p.num p.num lr bad).1) ∧ Rd w' r (inV p.num p.num lr bad).2.1 (inV p.num p.num lr bad).2.2 ∧ w4.drew.grownBy w' (some r) := in_any r p.num p.num lr bad w4.drew HR4.out
                  have HT := Lib.hid hT
                  clear hT HSB HR4
                  generalize inV p.num p.num lr bad = T at *
                  obtain ⟨nv, l3, b3⟩ := T
                  go_upto_region 18 with fail
                  have c1 : w4.drew.cell? ⟨G, 1, none⟩ = some (.int .i64 p.num) := (part_cells HPD.out HX.out).2.1
                  go_region_held3 (fun w' => w'.cell? ⟨G, 1, none⟩ = some (.int .i64 p.num)) (first | assumption | go_keep) ((go_at_call 26; refine (HT.out).mono ?_; rintro e w5 ⟨rfl, hR5, hG5⟩; have HR5 := Lib.hid hR5; have HG5 := Lib.hid hG5; have c1' := (part_cells HPD.out (Box.grown_ne HX.out.drew hG5 hne)).2.1; clear hR5 hG5))
                  all_goals try simp only [List.getElem_toArray, List.getElem_cons_succ, List.getElem_cons_zero, Act.put, List.setIfInBounds_toArray, List.set_cons_succ, List.set_cons_zero]
                  all_goals go_wp2_with fail
                  all_goals go_meet
                  all_goals exact backcut_mk (by rw [Bool.eq_iff_iff]; simp) HST.out HR5.out HG5.out HB4.out hrw
              case rest =>
                obtain ⟨ok, l3, b3, rfl, hok, hI3, hR3, hB3⟩ := hcut
                have HI3 := Lib.hid hI3
                have HR3 := Lib.hid hR3
                have HB33 := Lib.hid hB3
                clear hI3 hR3 hB3 HST HSB HR4 HB4 HX HPD c0
                cases ok
                · have hk2 : k = 2 := by
                    rcases Nat.lt_or_ge k 2 with h | h
                    · have := hok h
                      cases this
                    · omega
                  clear hok
                  subst hk2
                  go_wp2
                  go_roundw
                  case rel => exact ⟨j + 1, l3, b3, by omega, by go_num, HI3, HR3, HB33⟩
                  case measure => simp [intOf]; omega
                · clear hok
                  go_wp2
                  go_roundw
                  case rel => exact ⟨j + 1, l3, b3, by omega, by go_num, HI3, HR3, HB33⟩
                  case measure => simp [intOf]; omega
            · have hje : j = ps.length := by omega
              subst hje
              have hE := back_end ps k lr bad hI.out
              have hN1 := good_any r lr bad wr hR.out
              have hN2 := end_any r lr bad wr hR.out
              have HB9 := Lib.hid hB.out
              clear hI hR hB HI0 HR HB6 hcl2 HB5 HSee HP HWF HD HS HW3 HL HK2
              obtain ⟨hE1, hE2⟩ := hE
              rcases (by omega : k = 0 ∨ k = 1 ∨ k = 2) with hk0 | hk0 | hk0
              all_goals subst hk0
              · obtain ⟨rfl, rfl⟩ := hE1 (by decide)
                have HN1 := Lib.hid hN1
                have HN2 := Lib.hid hN2
                clear hN1 hN2 hE1 hE2
                go_wp2_with (first
                  | (go_at_call 28; refine (HN1.out).mono ?_; rintro e w' ⟨rfl, rfl⟩)
                  | (go_at_call 30; refine (HN2.out).mono ?_; rintro e w' ⟨rfl, rfl⟩))
                go_roundw
                case rel => exact ⟨1, by omega, rfl, HB9⟩
                case measure => simp [intOf]
              · obtain ⟨rfl, rfl⟩ := hE1 (by decide)
                have HN1 := Lib.hid hN1
                have HN2 := Lib.hid hN2
                clear hN1 hN2 hE1 hE2
                go_wp2_with (first
                  | (go_at_call 28; refine (HN1.out).mono ?_; rintro e w' ⟨rfl, rfl⟩)
                  | (go_at_call 30; refine (HN2.out).mono ?_; rintro e w' ⟨rfl, rfl⟩))
                go_roundw
                case rel => exact ⟨2, by omega, rfl, HB9⟩
                case measure => simp [intOf]
              · have hbad := hE2 rfl
                subst hbad
                have HN1 := Lib.hid hN1
                have HN2 := Lib.hid hN2
                clear hN1 hN2 hE1 hE2
                go_wp2_with (first
                  | (go_at_call 28; refine (HN1.out).mono ?_; rintro e w' ⟨rfl, rfl⟩)
                  | (go_at_call 30; refine (HN2.out).mono ?_; rintro e w' ⟨rfl, rfl⟩))
                go_roundw
                case rel => exact ⟨3, by omega, rfl, HB9⟩
                case measure => simp [intOf]
    · go_wp2
      go_ret
      exact ⟨rfl, HB3.out.trans (hB.out.mono hs3)⟩

end Go.Proofs.Ytkafpdfjdnklaaa
