/-
  CodeSizes: the walk of the law.
-/
import Derived.Test.YtkafpdfjdnklaaaWritten
namespace Go.Proofs.Ytkafpdfjdnklaaa
open Go.RowKit

theorem partBytes_eq {p : PartV} (h : p.d.length = 32) : (partBytes p).length = if p.kind = 1 then 4 + p.s.size else if p.kind = 2 then 32 else 8 := by
  unfold partBytes
  split
  · rw [textBytes_len]
  · split
    · exact h
    · rw [numBytes_len]

set_option maxHeartbeats 1600000 in
theorem sizes_walk (C : Option Addr) (ps : List PartV) (d : Nat) (w : World) (hp : Sees w w.heap.size C (ps.flatMap partCells)) (hpl : ps.length ≤ 9223372036854775807) (hwf : ∀ p ∈ ps, p.d.length = 32 ∧ I64 p.num) (hs : ∀ p ∈ ps, p.s.size ≤ 140737488351232) :
    Calls Try.prog 8 #[.slice C ps.length d] w fun e w' => e = .returned (.bool true) ∧ Below w.heap.size w w' := by
  have HA := Lib.hid (alive_any w)
  have HP := Lib.hid hp
  have HWF := Lib.hid hwf
  have HD := Lib.hid (fun p hp => (hwf p hp).1)
  have HS := Lib.hid hs
  clear hp hwf hs
  go_enter Try.func8, Try.ntmps8
  go_wp2_with fail
  refine (HA.out).mono ?_
  rintro e w1 ⟨rfl, hB1⟩
  have HB1 := Lib.hid hB1
  clear hB1 HA
  go_wp2_with fail
  refine (great_any C ps d w.heap.size w1 HB1.out.size (HP.out.below HB1.out) hpl HD.out HS.out).mono ?_
  rintro e w2 ⟨t, rfl, ht, hB⟩
  have HB2 := Lib.hid (HB1.out.trans (hB.mono HB1.out.size))
  clear hB HB1
  cases t
  · obtain ⟨hn, hsum⟩ := ht rfl
    clear ht
    go_wp2_with fail
    refine (written_any C ps d w.heap.size w2 HB2.out.size (HP.out.below HB2.out) HWF.out HS.out hn hsum).mono ?_
    rintro e w3 ⟨A, c, rfl, hc, hsees, hB⟩
    have HB3 := Lib.hid (HB2.out.trans (hB.mono HB2.out.size))
    have HL := wb_len ps HD.out
    have HTL := Lib.hid (wb_take_len ps)
    clear hB HB2 hsees hc
    go_wp2
    go_loopw [5, 7, 19] (fun n _ i wr => ∃ k N : Nat, k ≤ ps.length ∧ i = .int .i64 k ∧ n = .int .i64 N ∧ Hid (N = (wb (ps.take k)).length) ∧ N ≤ (wb ps).length ∧ Hid (Below w.heap.size w wr)) (fun _ _ i _ => ps.length - (intOf i).toNat)
    case atStart => exact ⟨0, 0, Nat.zero_le _, rfl, rfl, rfl, Nat.zero_le _, HB3⟩
    case round =>
      obtain ⟨k, N, hk, rfl, rfl, hN, hNl, hB⟩ := hrel
      by_cases hlt : k < ps.length
      · obtain ⟨g, o, rfl, hg, hr⟩ := (HP.out).part HD.out hlt
        have hpd := HD.out ps[k] (List.getElem_mem hlt)
        have hps := HS.out ps[k] (List.getElem_mem hlt)
        have hsn := wb_snoc ps k hlt
        have hpb := partBytes_eq hpd
        have htl := HTL.out (k + 1)
        rw [hsn, List.length_append, ← hN.out] at htl
        have HN1 : Hid ((wb (ps.take (k + 1))).length = N + (partBytes ps[k]).length) := by
          show _ = _
          rw [hsn, List.length_append, ← hN.out]
        generalize ps[k] = p at *
        have hrr : Hid (wr.rangeAt g (o + k * 37) (partCells p)) := fun j v hj => (hB.out.cell (by exact hg)).trans (hr j v hj)
        have hsz : Hid ((Try.prog.info? 48).map (·.size) = some (partCells p).length) := by
          show _ = _
          rw [partCells_len hpd]
          kernel_rfl
        have hsz2 : Hid ((Try.prog.info? 48).map (·.size) = some (partCells p).toArray.size) := hsz
        have hsz3 : Hid ((partCells p).toArray.size = pzero.size) := by
          show _ = _
          rw [List.size_toArray, partCells_len hpd]
          rfl
        have hone2 : Hid (∀ v ∈ (partCells p).toArray.toList, v.oneCell' = true) := partCells_one p
        have hB0 := Lib.hid (Box.made wr 48 pzero)
        have HPD := Lib.hid hpd
        have HPB := Lib.hid hpb
        clear hr hpd hsn hpb hN
        go_upto_region 10 with (first
          | (with_reducible show wpList _ _ _ ((⟨some 22, _, _, _, _, _⟩ : Oper) :: _) _ _; refine wpList_load_mid rfl 48 (.tmp 21) rfl g (o + k * 37) rfl (partCells p) _ hrr.out Try.underlying48 rfl hsz.out ?_)
          | (with_reducible show wpList _ _ _ ((⟨none, .store _ _ _, _, _, _, _⟩ : Oper) :: _) _ _; refine wpList_store_box rfl 48 (.tmp 7) (.tmp 22) rfl wr.heap.size (partCells p).toArray rfl rfl 48 pzero hB0.out hsz3.out hsz2.out hone2.out ?_; intro w4 hb4 hg4))
        simp only [Act.put]
        have hB4 : Below wr.heap.size wr w4 := ((Below.refl _ _).alloc (Nat.le_refl _) _).trans (below_only hg4 (Nat.le_refl _) (by simp))
        have HB4 := Lib.hid (hB.out.trans (hB4.mono hB.out.size))
        obtain ⟨c0, _, c2, _, _, _⟩ := part_cells HPD.out hb4
        generalize hgw : wr.heap.size = G at *
        clear hb4 hg4 hB4 hB0 hsz hsz2 hsz3 hone2 hrr hB hgw
        by_cases k1 : p.kind = 1
        · have e := HPB.out
          rw [if_pos k1] at e
          rw [e] at htl
          have E := Lib.hid e
          clear e HPB
          go_wp2
          go_roundw
          case rel => exact ⟨k + 1, N + (4 + p.s.size), by omega, by go_num, by go_num, (by show _ = _; rw [HN1.out, E.out]), by omega, HB4⟩
          case measure => simp [intOf]; omega
        · have k1' : (p.kind == 1) = false := by simpa using k1
          by_cases k2 : p.kind = 2
          · have e := HPB.out
            rw [if_neg k1, if_pos k2] at e
            rw [e] at htl
            have E := Lib.hid e
            clear e HPB k1
            go_wp2
            go_roundw
            case rel => exact ⟨k + 1, N + 32, by omega, by go_num, by go_num, (by show _ = _; rw [HN1.out, E.out]), by omega, HB4⟩
            case measure => simp [intOf]; omega
          · have k2' : (p.kind == 2) = false := by simpa using k2
            have e := HPB.out
            rw [if_neg k1, if_neg k2] at e
            rw [e] at htl
            have E := Lib.hid e
            clear e HPB k1 k2
            go_wp2
            go_roundw
            case rel => exact ⟨k + 1, N + 8, by omega, by go_num, by go_num, (by show _ = _; rw [HN1.out, E.out]), by omega, HB4⟩
            case measure => simp [intOf]; omega
      · have hN2 := hN.out
        rw [List.take_of_length_le (by omega)] at hN2
        subst hN2
        go_wp2
        go_ret
        refine ⟨ret_val ?_, hB.out⟩
        show Value.bool _ = Value.bool true
        simp
  · go_wp2
    go_ret
    exact ⟨rfl, HB2.out⟩

end Go.Proofs.Ytkafpdfjdnklaaa
