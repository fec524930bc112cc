/-
  CodeStops: the walk of the law, from the contracts of all that it calls.
-/
import Derived.Test.YtkafpdfjdnklaaaParts
import Derived.Deep.Cut
namespace Go.Proofs.Ytkafpdfjdnklaaa
open Go.RowKit

theorem bad_num (r : Nat) (w : World) (h : Rd w r [] true) : Calls Try.prog 20 #[.pointer (some ⟨r, 0, none⟩)] w fun e w' => e = .returned (.int .i64 0) ∧ Rd w' r [] true ∧ w.grownBy w' (some r) := by
  have hn := num_any r [] true w h
  rw [show numV [] true = 0 from by unfold numV wrap64; decide, show tk 8 [] true = ([], [], true) from by decide] at hn
  exact hn
theorem bad_text (r : Nat) (most : Int) (w : World) (h : Rd w r [] true) : Calls Try.prog 22 #[.pointer (some ⟨r, 0, none⟩), .int .i64 most] w fun e w' => e = .returned (.string ⟨#[]⟩) ∧ Rd w' r [] true ∧ w.grownBy w' (some r) := by
  have hn := text_any r most [] true w h
  rw [show txtV most [] true = ([], [], true) from rfl] at hn
  exact hn
theorem bad_in (r : Nat) (lo hi : Int) (w : World) (h : Rd w r [] true) : Calls Try.prog 26 #[.pointer (some ⟨r, 0, none⟩), .int .i64 lo, .int .i64 hi] w fun e w' => e = .returned (.int .i64 0) ∧ Rd w' r [] true ∧ w.grownBy w' (some r) := by
  have hn := in_any r lo hi [] true w h
  have e : inV lo hi [] true = (0, [], true) := by
    unfold inV
    rw [show numV [] true = 0 from by unfold numV wrap64; decide, show tk 8 [] true = ([], [], true) from by decide]
    split <;> rfl
  rw [e] at hn
  exact hn
theorem bad_digest (r : Nat) (w : World) (h : Rd w r [] true) : Calls Try.prog 24 #[.pointer (some ⟨r, 0, none⟩)] w fun e w' => e = .returned (.agg zcells) ∧ Rd w' r [] true ∧ w.grownBy w' (some r) := by
  have hn := digest_any r [] true w h
  rw [show digV [] true = zeros from by decide, show tk 32 [] true = ([], [], true) from by decide] at hn
  exact hn
theorem zero_eq (w : World) : (Op.equalIn 10000 39 (.agg zcells) (.agg zcells')).run Try.prog w = .ok true w := by kernel_rfl

set_option maxHeartbeats 1600000 in
theorem stops_walk (A C : Option Addr) (l : List UInt8) (ps : List PartV) (c d : Nat) (w : World) (hb : Sees w w.heap.size A (l.map bv)) (hl : l.length ≤ 9223372036854775807) (hp : Sees w w.heap.size C (ps.flatMap partCells)) (hpl : ps.length ≤ 9223372036854775807)
    (hd : ∀ p ∈ ps, p.d.length = 32) :
    Calls Try.prog 9 #[.slice A l.length c, .slice C ps.length d] w fun e w' => e = .returned (.bool true) ∧ Below w.heap.size w w' := by
  have HA := Lib.hid (alive_any w)
  have HB := Lib.hid hb
  have HP := Lib.hid hp
  have HD := Lib.hid hd
  clear hb hp hd
  go_enter Try.func9, Try.ntmps9
  go_wp2_with fail
  refine (HA.out).mono ?_
  rintro e w1 ⟨rfl, hB1⟩
  have HB1 := Lib.hid hB1
  clear hB1 HA
  by_cases h1 : (16384 : Int) < (l.length : Int)
  · go_wp2
    go_ret
    exact ⟨rfl, HB1.out⟩
  have h1' : decide ((16384 : Int) < (l.length : Int)) = false := by simpa using h1
  by_cases h2 : (200 : Int) < (ps.length : Int)
  · go_wp2
    go_ret
    exact ⟨rfl, HB1.out⟩
  have h2' : decide ((200 : Int) < (ps.length : Int)) = false := by simpa using h2
  go_wp2_with fail
  refine (read_any w.heap.size A l c w1 (HB.out.below HB1.out) HB1.out.size (by omega)).mono ?_
  rintro e w2 ⟨r, rfl, hR, hr, hB⟩
  have hrw : w.heap.size ≤ r := Nat.le_trans HB1.out.size hr
  have HB2 := Lib.hid (HB1.out.trans (hB.mono HB1.out.size))
  have hT := text_any r (-1) l false w2 hR
  have e1 : txtV (-1) l false = ([], [], true) := by
    unfold txtV
    rw [if_pos (.inr (by omega))]
  rw [e1] at hT
  have hT2 : Calls Try.prog 22 #[.pointer (some ⟨r, 0, none⟩), .int .i64 (-1)] w2 fun e w' => e = .returned (.string ⟨#[]⟩) ∧ Rd w' r [] true ∧ w2.grownBy w' (some r) := hT
  have HT := Lib.hid hT2
  clear hT hT2 e1 hR hB HB1 hr HB
  go_wp2_with fail
  refine (HT.out).mono ?_
  rintro e w3 ⟨rfl, hR, hG⟩
  have HB3 := Lib.hid (HB2.out.trans (below_only hG hrw HB2.out.size))
  have HR := Lib.hid hR
  clear hR hG HB2 HT
  go_wp2_with (go_at_call 28; refine (good_any r _ _ w3 HR.out).mono ?_; rintro e w' ⟨rfl, rfl⟩)
  go_loopw [7, 29] (fun _ i wr => ∃ k : Nat, k ≤ ps.length ∧ i = .int .i64 k ∧ Hid (Rd wr r [] true) ∧ Hid (Below w.heap.size w wr)) (fun _ i _ => ps.length - (intOf i).toNat)
  case atStart => exact ⟨0, Nat.zero_le _, rfl, HR, HB3⟩
  case round =>
    obtain ⟨k, hk, rfl, hR, hB⟩ := hrel
    by_cases hlt : k < ps.length
    · obtain ⟨g, o, rfl, hg, hr⟩ := (HP.out).part HD.out hlt
      have hpd := HD.out ps[k] (List.getElem_mem hlt)
      generalize ps[k] = p at *
      have hrr : Hid (wr.rangeAt g (o + k * 37) (partCells p)) := fun j v hj => (hB.out.cell (by exact hg)).trans (hr j v hj)
      have hsz : Hid ((Try.prog.info? 48).map (·.size) = some (partCells p).length) := by
        show _ = _
        rw [partCells_len hpd]
        kernel_rfl
      have hsz2 : Hid ((Try.prog.info? 48).map (·.size) = some (partCells p).toArray.size) := hsz
      have hsz3 : Hid ((partCells p).toArray.size = pzero.size) := by
        show _ = _
        rw [List.size_toArray, partCells_len hpd]
        rfl
      have hone2 : Hid (∀ v ∈ (partCells p).toArray.toList, v.oneCell' = true) := partCells_one p
      have hB0 := Lib.hid (Box.made wr 48 pzero)
      have HPD := Lib.hid hpd
      clear hr hpd
      go_upto_region 11 with (first
        | (with_reducible show wpList _ _ _ ((⟨some 32, _, _, _, _, _⟩ : Oper) :: _) _ _; refine wpList_load_mid rfl 48 (.tmp 31) rfl g (o + k * 37) rfl (partCells p) _ hrr.out Try.underlying48 rfl hsz.out ?_)
        | (with_reducible show wpList _ _ _ ((⟨none, .store _ _ _, _, _, _, _⟩ : Oper) :: _) _ _; refine wpList_store_box rfl 48 (.tmp 7) (.tmp 32) rfl wr.heap.size (partCells p).toArray rfl rfl 48 pzero hB0.out hsz3.out hsz2.out hone2.out ?_; intro w4 hb4 hg4))
      simp only [Act.put]
      have hB4 : Below wr.heap.size wr w4 := ((Below.refl _ _).alloc (Nat.le_refl _) _).trans (below_only hg4 (Nat.le_refl _) (by simp))
      have HB4 := Lib.hid (hB.out.trans (hB4.mono hB.out.size))
      have HR4 := Lib.hid (hR.out.below hB4 hR.out.lt)
      have HX := Lib.hid hb4
      have hrs : r < wr.heap.size := hR.out.lt
      have hws : w.heap.size ≤ wr.heap.size := hB.out.size
      generalize hgw : wr.heap.size = G at *
      have HN := Lib.hid (bad_num r w4 HR4.out)
      clear hb4 hg4 hB4 hB0 hsz hsz2 hsz3 hone2 hrr hR hB hgw HR4
      have hz := zero_eq
      go_wp2_with fail
      refine (HN.out).mono ?_
      rintro e w5 ⟨rfl, hR, hG⟩
      have HX5 := Lib.hid (HX.out.grown hG (by simp; omega))
      have HB5 := Lib.hid (HB4.out.trans (below_only hG hrw HB4.out.size))
      have c1 := (part_cells HPD.out HX5.out).2.1
      have HN := Lib.hid (bad_text r p.num w5 hR)
      clear hR hG HX HB4
      go_wp2_with fail
      refine (HN.out).mono ?_
      rintro e w6 ⟨rfl, hR, hG⟩
      have HX6 := Lib.hid (HX5.out.grown hG (by simp; omega))
      have HB6 := Lib.hid (HB5.out.trans (below_only hG hrw HB5.out.size))
      have HN := Lib.hid (bad_digest r w6 hR)
      clear hR hG HX5 HB5 c1
      go_wp2_with fail
      refine (HN.out).mono ?_
      rintro e w7 ⟨rfl, hR, hG⟩
      have HX7 := Lib.hid (HX6.out.grown hG (by simp; omega))
      have HB7 := Lib.hid (HB6.out.trans (below_only hG hrw HB6.out.size))
      have c35 := (part_cells HPD.out HX7.out).2.2.2.2.1
      have c36 := (part_cells HPD.out HX7.out).2.2.2.2.2
      have HN := Lib.hid (bad_in r p.lo p.hi w7 hR)
      clear hR hG HX6 HB6
      go_wp2_with fail
      refine (HN.out).mono ?_
      rintro e w8 ⟨rfl, hR, hG⟩
      have HB8 := Lib.hid (HB7.out.trans (below_only hG hrw HB7.out.size))
      have HR8 := Lib.hid hR
      have HN1 := Lib.hid (good_any r _ _ w8 hR)
      have HN2 := Lib.hid (end_any r _ _ w8 hR)
      clear hR hG HX7 HB7 c35 c36
      go_wp2_with (first
        | (go_at_call 28; refine (HN1.out).mono ?_; rintro e w' ⟨rfl, rfl⟩)
        | (go_at_call 30; refine (HN2.out).mono ?_; rintro e w' ⟨rfl, rfl⟩))
      go_roundw
      case rel => exact ⟨k + 1, by omega, by go_num, HR8, HB8⟩
      case measure => simp [intOf]; omega
    · go_wp2
      go_ret
      exact ⟨rfl, hB.out⟩

end Go.Proofs.Ytkafpdfjdnklaaa
