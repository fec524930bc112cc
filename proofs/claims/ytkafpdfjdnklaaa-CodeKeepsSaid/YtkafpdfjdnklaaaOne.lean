/-
  CodeOne: the walk of the law.
-/
import Derived.Test.YtkafpdfjdnklaaaBack
import Derived.Deep.RegionWith
import Derived.Deep.QuietTactic
import Derived.BigQuiet
namespace Go.Proofs.Ytkafpdfjdnklaaa
open Go.RowKit

theorem Wr.only {w w' : World} {base a r : Nat} {bs : List UInt8} (h : Wr w base a bs) (hb : w.grownBy w' (some r)) (hr : r < base) : Wr w' base a bs := by
  obtain ⟨h1, h2, v, h3, h4⟩ := h
  refine ⟨h1, Nat.le_trans h2 hb.size, v, h3.grown hb (by simp; omega), h4.kept hb ?_⟩
  rcases h4.2 with ⟨rfl, _⟩ | ⟨g, cap, cur, rfl, hg, _⟩
  · exact .inl rfl
  · refine .inr ?_
    simp [Value.ownBlock]
    omega
theorem Wr.alloc {w : World} {base a : Nat} {bs : List UInt8} (h : Wr w base a bs) (o : Obj) : Wr (w.alloc o) base a bs := h.below_size ((Below.refl _ _).alloc (Nat.le_refl _) o)

set_option maxHeartbeats 3200000 in
theorem one_walk (A C : Option Addr) (l : List UInt8) (ps : List PartV) (c d : Nat) (w : World) (hb : Sees w w.heap.size A (l.map bv)) (hl : l.length ≤ 9223372036854775807) (hp : Sees w w.heap.size C (ps.flatMap partCells)) (hpl : ps.length ≤ 9223372036854775807)
    (hwf : ∀ p ∈ ps, p.d.length = 32) :
    Calls Try.prog 6 #[.slice A l.length c, .slice C ps.length d] w fun e w' => e = .returned (.bool true) ∧ Below w.heap.size w w' := by
  have HA := Lib.hid (alive_any w)
  have HB := Lib.hid hb
  have HP := Lib.hid hp
  have HD := Lib.hid hwf
  clear hb hp hwf
  go_enter Try.func6, Try.ntmps6
  go_wp2_with fail
  refine (HA.out).mono ?_
  rintro e w1 ⟨rfl, hB1⟩
  have HB1 := Lib.hid hB1
  clear hB1 HA
  by_cases h1 : (16384 : Int) < (l.length : Int)
  · go_wp2
    go_ret
    exact ⟨rfl, HB1.out⟩
  have h1' : decide ((16384 : Int) < (l.length : Int)) = false := by simpa using h1
  by_cases h2 : (200 : Int) < (ps.length : Int)
  · go_wp2
    go_ret
    exact ⟨rfl, HB1.out⟩
  have h2' : decide ((200 : Int) < (ps.length : Int)) = false := by simpa using h2
  go_wp2_with fail
  refine (read_any w.heap.size A l c w1 (HB.out.below HB1.out) HB1.out.size (by omega)).mono ?_
  rintro e w2 ⟨r, rfl, hR, hr, hB⟩
  have hrw : w.heap.size ≤ r := Nat.le_trans HB1.out.size hr
  have hrlt := hR.lt
  have HW := Lib.hid (Wr.made w2)
  have HR := Lib.hid (hR.alloc (.cells #[.slice none 0 0] 32))
  have HB2 := Lib.hid ((HB1.out.trans (hB.mono HB1.out.size)).alloc (Nat.le_trans HB1.out.size hB.size) (.cells #[.slice none 0 0] 32))
  have hw2 : w.heap.size ≤ w2.heap.size := Nat.le_trans HB1.out.size hB.size
  clear hR hr hB HB1
  go_upto_region 6 with fail
  generalize hgw : w2.heap.size = Gw at *
  generalize w2.alloc (.cells #[.slice none 0 0] 32) = w3 at *
  clear hgw
  go_wp2
  go_loopw [8, 25] (fun _ i wr => ∃ (k : Nat) (bs lr : List UInt8) (bad : Bool), k ≤ ps.length ∧ i = .int .i64 k ∧ Hid (bad = false → bs ++ lr = l) ∧ bs.length + lr.length ≤ 16384 + 32 * k ∧ Hid (Wr wr Gw Gw bs) ∧ Hid (Rd wr r lr bad) ∧ Hid (Below w.heap.size w wr)) (fun _ i _ => ps.length - (intOf i).toNat)
  case atStart => exact ⟨0, [], l, false, Nat.zero_le _, rfl, fun _ => rfl, (by simp; omega), HW, HR, HB2⟩
  case round =>
    obtain ⟨k, bs, lr, bad, hk, rfl, hE, hlen, hW, hR, hB⟩ := hrel
    by_cases hlt : k < ps.length
    · obtain ⟨g, o, rfl, hg, hr⟩ := (HP.out).part HD.out hlt
      have hpd := HD.out ps[k] (List.getElem_mem hlt)
      generalize ps[k] = p at *
      have hrr : Hid (wr.rangeAt g (o + k * 37) (partCells p)) := fun j v hj => (hB.out.cell (by exact hg)).trans (hr j v hj)
      have hsz : Hid ((Try.prog.info? 48).map (·.size) = some (partCells p).length) := by
        show _ = _
        rw [partCells_len hpd]
        kernel_rfl
      have hsz2 : Hid ((Try.prog.info? 48).map (·.size) = some (partCells p).toArray.size) := hsz
      have hsz3 : Hid ((partCells p).toArray.size = pzero.size) := by
        show _ = _
        rw [List.size_toArray, partCells_len hpd]
        rfl
      have hone2 : Hid (∀ v ∈ (partCells p).toArray.toList, v.oneCell' = true) := partCells_one p
      have hB0 := Lib.hid (Box.made wr 48 pzero)
      have HPD := Lib.hid hpd
      clear hr hpd
      go_upto_region 9 with (first
        | (with_reducible show wpList _ _ _ ((⟨some 28, _, _, _, _, _⟩ : Oper) :: _) _ _; refine wpList_load_mid rfl 48 (.tmp 27) rfl g (o + k * 37) rfl (partCells p) _ hrr.out Try.underlying48 rfl hsz.out ?_)
        | (with_reducible show wpList _ _ _ ((⟨none, .store _ _ _, _, _, _, _⟩ : Oper) :: _) _ _; refine wpList_store_box rfl 48 (.tmp 8) (.tmp 28) rfl wr.heap.size (partCells p).toArray rfl rfl 48 pzero hB0.out hsz3.out hsz2.out hone2.out ?_; intro w4 hb4 hg4))
      simp only [Act.put]
      have hB4 : Below wr.heap.size wr w4 := ((Below.refl _ _).alloc (Nat.le_refl _) _).trans (below_only hg4 (Nat.le_refl _) (by simp))
      have HB4 := Lib.hid (hB.out.trans (hB4.mono hB.out.size))
      have HW4 := Lib.hid (hW.out.below_size hB4)
      have HR4 := Lib.hid (hR.out.below hB4 hR.out.lt)
      obtain ⟨c0, c1, _, _, c35, c36⟩ := part_cells HPD.out hb4
      have hs4 : Gw ≤ w4.heap.size := HW4.out.2.1
      have HOK := Lib.hid (stepOne_ok p lr bad)
      have hol := HOK.out.2
      generalize hgw : wr.heap.size = G at *
      clear hb4 hg4 hB4 hB0 hsz hsz2 hsz3 hone2 hrr hB hgw hW hR
      generalize hst : stepOne p lr bad = st at *
      have HST := Lib.hid hst
      clear hst
      obtain ⟨ou, l2, bad2⟩ := st
      simp only at hol
      have HE2 : Hid (bad2 = false → (bs ++ ou) ++ l2 = l) := fun h => by
        have h3 := HOK.out.1 h
        rw [List.append_assoc, h3.2]
        exact hE.out h3.1
      clear hE HOK
      by_cases k1 : p.kind = 1
      · have e := HST.out
        unfold stepOne at e
        rw [if_pos k1] at e
        have HT := Lib.hid (text_any r p.num lr bad w4 HR4.out)
        generalize txtV p.num lr bad = T at *
        obtain ⟨tx, l3, b3⟩ := T
        simp only [Prod.mk.injEq] at e
        obtain ⟨e1, e2, e3⟩ := e
        subst e2
        subst e3
        have E1 := Lib.hid e1
        clear e1 HST
        go_wp2_with fail
        refine (HT.out).mono ?_
        rintro e w5 ⟨rfl, hR5, hG5⟩
        have hW5 := (HW4.out.only hG5 (by omega)).alloc (.cells #[str tx] 9)
        have hx : Box (w5.alloc (.cells #[str tx] 9)) w5.heap.size 9 #[str tx] := Box.made _ _ _
        have hN := wtext_any Gw Gw (some ⟨w5.heap.size, 0, none⟩) [⟨tx.toArray⟩] 1 bs _ hW5 (Src.of_box hW5 hx (by decide) (by decide)) (by
          simp only [List.flatMap_cons, List.flatMap_nil, List.append_nil]
          rw [E1.out]
          omega) (by simp)
        have HN := Lib.hid hN
        have hB5 : Below w.heap.size w (w5.alloc (.cells #[str tx] 9)) := (HB4.out.trans (below_only hG5 hrw HB4.out.size)).alloc (Nat.le_trans HB4.out.size hG5.size) _
        have HB5 := Lib.hid hB5
        have HR5 := Lib.hid (hR5.alloc (.cells #[str tx] 9))
        have HW5 := Lib.hid hW5
        clear hN hx hW5 HW4 HB4 HR4 hR5 hG5 hB5 HT c0 c1 c35 c36
        go_wp2_with fail
        refine (HN.out).mono ?_
        rintro e w6 ⟨rfl, hW6, hF6⟩
        have hb6 := hF6.below HW5.out
        have HB6 := Lib.hid (HB5.out.trans (hb6.mono (by omega)))
        have HR6 := Lib.hid (HR5.out.below hb6 (by omega))
        have HW6 : Hid (Wr w6 Gw Gw (bs ++ ou)) := by
          show Wr _ _ _ _
          simp only [List.flatMap_cons, List.flatMap_nil, List.append_nil] at hW6
          rw [← E1.out]
          exact hW6
        clear hW6 hF6 hb6 HN HB5 HW5 HR5
        go_wp2
        go_roundw
        case rel => exact ⟨k + 1, bs ++ ou, l3, b3, by omega, by go_num, HE2, (by rw [List.length_append]; omega), HW6, HR6, HB6⟩
        case measure => simp [intOf]; omega
      have k1' : (p.kind == 1) = false := by simpa using k1
      by_cases k2 : p.kind = 2
      · have e := HST.out
        unfold stepOne at e
        rw [if_neg k1, if_pos k2] at e
        have hT : Calls Try.prog 24 #[.pointer (some ⟨r, 0, none⟩)] w4 fun e w' => e = .returned (.agg ((digV lr bad).map bv).toArray) ∧ Rd w' r (tk 32 lr bad).2.1 (tk 32 lr bad).2.2 ∧ w4.grownBy w' (some r) := digest_any r lr bad w4 HR4.out
        have HT := Lib.hid hT
        have hdl := digV_len lr bad
        clear hT
        generalize digV lr bad = D at *
        generalize (tk 32 lr bad).2 = T at *
        obtain ⟨l3, b3⟩ := T
        simp only [Prod.mk.injEq] at e
        obtain ⟨e1, e2, e3⟩ := e
        subst e2
        subst e3
        have E1 := Lib.hid e1
        clear e1 HST k1
        go_wp2_with fail
        refine (HT.out).mono ?_
        rintro e w5 ⟨rfl, hR5, hG5⟩
        have HR5 := Lib.hid hR5
        have HG5 := Lib.hid hG5
        clear hR5 hG5
        go_wp2_with fail
        rw [fold_whole _ _ (by rw [List.length_map, hdl]; rfl)]
        have hW5 := (HW4.out.only HG5.out (by omega)).alloc (.cells (D.map bv).toArray 39)
        have hx : Box (w5.alloc (.cells (D.map bv).toArray 39)) w5.heap.size 39 (D.map bv).toArray := Box.made _ _ _
        have hsrc := Src.of_box hW5 hx (by decide) (by decide)
        have hN := wdigest_any Gw Gw (some ⟨w5.heap.size, 0, none⟩) [D] (by intro d hd; simp at hd; rw [hd]; exact hdl) 1 bs _ hW5 (by simpa using hsrc) (by simp; omega)
        have HN := Lib.hid hN
        have hB5 : Below w.heap.size w (w5.alloc (.cells (D.map bv).toArray 39)) := (HB4.out.trans (below_only HG5.out hrw HB4.out.size)).alloc (Nat.le_trans HB4.out.size HG5.out.size) _
        have HB5 := Lib.hid hB5
        have HR6 := Lib.hid (HR5.out.alloc (.cells (D.map bv).toArray 39))
        have HW5 := Lib.hid hW5
        clear hN hx hW5 HW4 HB4 HR4 HR5 HG5 hB5 HT c0 c1 c35 c36 hsrc
        refine (HN.out).mono ?_
        rintro e w6 ⟨rfl, hW6, hF6⟩
        have hb6 := hF6.below HW5.out
        have HB6 := Lib.hid (HB5.out.trans (hb6.mono (by omega)))
        have HR7 := Lib.hid (HR6.out.below hb6 (by omega))
        have HW6 : Hid (Wr w6 Gw Gw (bs ++ ou)) := by
          show Wr _ _ _ _
          simp only [List.flatMap_cons, List.flatMap_nil, List.append_nil] at hW6
          rw [← E1.out]
          exact hW6
        clear hW6 hF6 hb6 HN HB5 HW5 HR6
        go_wp2
        go_roundw
        case rel => exact ⟨k + 1, bs ++ ou, l3, b3, by omega, by go_num, HE2, (by rw [List.length_append]; omega), HW6, HR7, HB6⟩
        case measure => simp [intOf]; omega
      have k2' : (p.kind == 2) = false := by simpa using k2
      by_cases k3 : p.kind = 3
      · have e := HST.out
        unfold stepOne at e
        rw [if_neg k1, if_neg k2, if_pos k3] at e
        have HT := Lib.hid (in_any r p.lo p.hi lr bad w4 HR4.out)
        generalize inV p.lo p.hi lr bad = T at *
        obtain ⟨nv, l3, b3⟩ := T
        simp only [Prod.mk.injEq] at e
        obtain ⟨e1, e2, e3⟩ := e
        subst e2
        subst e3
        have E1 := Lib.hid e1
        clear e1 HST k1 k2
        go_wp2_with fail
        refine (HT.out).mono ?_
        rintro e w5 ⟨rfl, hR5, hG5⟩
        have hW5 := (HW4.out.only hG5 (by omega)).alloc (.cells #[.int .i64 nv] 3)
        have hx : Box (w5.alloc (.cells #[.int .i64 nv] 3)) w5.heap.size 3 #[.int .i64 nv] := Box.made _ _ _
        have hN := wnum_any Gw Gw (some ⟨w5.heap.size, 0, none⟩) [nv] 1 bs _ hW5 (Src.of_box hW5 hx (by decide) (by decide)) (by simp; omega)
        have HN := Lib.hid hN
        have hB5 : Below w.heap.size w (w5.alloc (.cells #[.int .i64 nv] 3)) := (HB4.out.trans (below_only hG5 hrw HB4.out.size)).alloc (Nat.le_trans HB4.out.size hG5.size) _
        have HB5 := Lib.hid hB5
        have HR5 := Lib.hid (hR5.alloc (.cells #[.int .i64 nv] 3))
        have HW5 := Lib.hid hW5
        clear hN hx hW5 HW4 HB4 HR4 hR5 hG5 hB5 HT c0 c1 c35 c36
        go_wp2_with fail
        refine (HN.out).mono ?_
        rintro e w6 ⟨rfl, hW6, hF6⟩
        have hb6 := hF6.below HW5.out
        have HB6 := Lib.hid (HB5.out.trans (hb6.mono (by omega)))
        have HR6 := Lib.hid (HR5.out.below hb6 (by omega))
        have HW6 : Hid (Wr w6 Gw Gw (bs ++ ou)) := by
          show Wr _ _ _ _
          simp only [List.flatMap_cons, List.flatMap_nil, List.append_nil] at hW6
          rw [← E1.out]
          exact hW6
        clear hW6 hF6 hb6 HN HB5 HW5 HR5
        go_wp2
        go_roundw
        case rel => exact ⟨k + 1, bs ++ ou, l3, b3, by omega, by go_num, HE2, (by rw [List.length_append]; omega), HW6, HR6, HB6⟩
        case measure => simp [intOf]; omega
      · have k3' : (p.kind == 3) = false := by simpa using k3
        have e := HST.out
        unfold stepOne at e
        rw [if_neg k1, if_neg k2, if_neg k3] at e
        have HT := Lib.hid (num_any r lr bad w4 HR4.out)
        generalize numV lr bad = nv at *
        generalize (tk 8 lr bad).2 = T at *
        obtain ⟨l3, b3⟩ := T
        simp only [Prod.mk.injEq] at e
        obtain ⟨e1, e2, e3⟩ := e
        subst e2
        subst e3
        have E1 := Lib.hid e1
        clear e1 HST k1 k2 k3
        go_wp2_with fail
        refine (HT.out).mono ?_
        rintro e w5 ⟨rfl, hR5, hG5⟩
        have hW5 := (HW4.out.only hG5 (by omega)).alloc (.cells #[.int .i64 nv] 3)
        have hx : Box (w5.alloc (.cells #[.int .i64 nv] 3)) w5.heap.size 3 #[.int .i64 nv] := Box.made _ _ _
        have hN := wnum_any Gw Gw (some ⟨w5.heap.size, 0, none⟩) [nv] 1 bs _ hW5 (Src.of_box hW5 hx (by decide) (by decide)) (by simp; omega)
        have HN := Lib.hid hN
        have hB5 : Below w.heap.size w (w5.alloc (.cells #[.int .i64 nv] 3)) := (HB4.out.trans (below_only hG5 hrw HB4.out.size)).alloc (Nat.le_trans HB4.out.size hG5.size) _
        have HB5 := Lib.hid hB5
        have HR5 := Lib.hid (hR5.alloc (.cells #[.int .i64 nv] 3))
        have HW5 := Lib.hid hW5
        clear hN hx hW5 HW4 HB4 HR4 hR5 hG5 hB5 HT c0 c1 c35 c36
        go_wp2_with fail
        refine (HN.out).mono ?_
        rintro e w6 ⟨rfl, hW6, hF6⟩
        have hb6 := hF6.below HW5.out
        have HB6 := Lib.hid (HB5.out.trans (hb6.mono (by omega)))
        have HR6 := Lib.hid (HR5.out.below hb6 (by omega))
        have HW6 : Hid (Wr w6 Gw Gw (bs ++ ou)) := by
          show Wr _ _ _ _
          simp only [List.flatMap_cons, List.flatMap_nil, List.append_nil] at hW6
          rw [← E1.out]
          exact hW6
        clear hW6 hF6 hb6 HN HB5 HW5 HR5
        go_wp2
        go_roundw
        case rel => exact ⟨k + 1, bs ++ ou, l3, b3, by omega, by go_num, HE2, (by rw [List.length_append]; omega), HW6, HR6, HB6⟩
        case measure => simp [intOf]; omega
    · go_upto_region 18 with fail
      have hRd : Rd wr.drew r lr bad := hR.out
      have hWd : Wr wr.drew Gw Gw bs := hW.out
      have hEn := end_any r lr bad wr.drew hRd
      by_cases hx : bad = false ∧ lr = []
      · obtain ⟨rfl, rfl⟩ := hx
        have hbl : bs = l := by
          have := hE.out rfl
          simpa using this
        subst hbl
        have HEn : Hid (Calls Try.prog 30 #[.pointer (some ⟨r, 0, none⟩)] wr.drew fun e w' => e = .returned (.bool true) ∧ wr.drew = w') := hEn
        have HWb := Lib.hid (wbytes_any Gw Gw bs wr.drew hWd (by omega))
        have hconv0 := convert_sees (P := Try.prog) 27 5 9 Try.underlying27 Try.underlying5 Try.underlying9 (HB.out.below hB.out.drew) c
        have HBd := Lib.hid hB.out.drew
        clear hEn hWd hRd hR hW hE hB
        go_region_with (first
          | (go_at_call 30; refine (HEn.out).mono ?_; rintro e w' ⟨rfl, rfl⟩)
          | (go_at_call 18; refine (HWb.out).mono ?_; rintro e w6 ⟨A2, c2, rfl, hc, hown, hB6⟩; have hB7 : Below w.heap.size w w6 := HBd.out.trans (hB6.mono HBd.out.size); have hconv2 := convert_sees (P := Try.prog) 27 5 9 Try.underlying27 Try.underlying5 Try.underlying9 (HB.out.below hB7) c; have hse : Sees w6 w6.heap.size A2 (bs.map bv) := hown.elim (fun h => .inl (by rw [h]; rfl)) (fun h => Sees.of_own h); have hconv1 := convert_sees (P := Try.prog) 27 5 9 Try.underlying27 Try.underlying5 Try.underlying9 hse c2; have HB7 := Lib.hid hB7; clear hown hse hB7 hB6 hc))
        all_goals (go_wp2; go_ret; exact ⟨rfl, HB7.out⟩)
      · have hb : (!bad && lr.isEmpty) = false := by
          cases bad
          · cases lr
            · exact absurd ⟨rfl, rfl⟩ hx
            · rfl
          · rfl
        rw [hb] at hEn
        have HEn : Hid (∀ n, Calls Try.prog 30 #[.pointer (some ⟨r, 0, none⟩)] (wr.drewN n) fun e w' => e = .returned (.bool false) ∧ w' = wr.drewN n) := fun n => by
          have h := end_any r lr bad (wr.drewN n) hR.out
          rw [hb] at h
          exact h.mono fun _ _ ⟨h1, h2⟩ => ⟨h1, h2.symm⟩
        have HBd : Hid (∀ n, Below w.heap.size w (wr.drewN n)) := fun n => Below.trans hB.out ⟨rfl, rfl, rfl, Nat.le_refl _, fun _ _ => rfl⟩
        clear hEn hWd hRd hR hW hE hB hb hx
        go_quiet ((go_at_call 30; exact Calls.quiet_of_same (HEn.out _)))
        go_wp2
        go_ret
        exact ⟨rfl, HBd.out _⟩

end Go.Proofs.Ytkafpdfjdnklaaa
