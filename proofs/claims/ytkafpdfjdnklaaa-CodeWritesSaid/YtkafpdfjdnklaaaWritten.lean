/-
  What the laws' 'written' answers: the bytes that the Writer makes of Parts, and what the document says of them.
-/
import Derived.Test.YtkafpdfjdnklaaaRef
namespace Go.Proofs.Ytkafpdfjdnklaaa
open Go.RowKit

def partBytes (p : PartV) : List UInt8 := if p.kind = 1 then textBytes p.s else if p.kind = 2 then p.d else numBytes p.num
def wb (ps : List PartV) : List UInt8 := ps.flatMap partBytes
theorem partBytes_len {p : PartV} (h : p.d.length = 32) : (partBytes p).length ≤ 32 + p.s.size := by
  unfold partBytes
  split
  · rw [textBytes_len]; omega
  · split
    · omega
    · rw [numBytes_len]; omega
theorem wb_len : ∀ (ps : List PartV), (∀ p ∈ ps, p.d.length = 32) → (wb ps).length ≤ 32 * ps.length + sums ps
  | [], _ => by simp [wb]
  | p :: r, h => by
    have h1 := partBytes_len (h p List.mem_cons_self)
    have h2 := wb_len r (fun x hx => h x (List.mem_cons_of_mem _ hx))
    unfold wb at h2 ⊢
    rw [List.flatMap_cons, List.length_append, sums, List.length_cons]
    omega
theorem wb_take_len (ps : List PartV) (k : Nat) : (wb (ps.take k)).length ≤ (wb ps).length := by
  have e : wb ps = wb (ps.take k) ++ wb (ps.drop k) := by unfold wb; rw [← List.flatMap_append, List.take_append_drop]
  rw [e, List.length_append]
  omega
theorem wb_snoc (ps : List PartV) (k : Nat) (h : k < ps.length) : wb (ps.take (k + 1)) = wb (ps.take k) ++ partBytes ps[k] := by
  unfold wb
  rw [take_snoc' ps k h, List.flatMap_append]
  simp

def WrittenIs (ps : List PartV) (w : World) (e : Ending) (w' : World) : Prop :=
  ∃ A c, e = .returned (.tuple #[.slice A (wb ps).length c, str (wb ps)]) ∧ c ≤ maxLen ∧ Sees w' w'.heap.size A ((wb ps).map bv) ∧ Below w.heap.size w w'

set_option maxHeartbeats 1600000 in
theorem written_any (C : Option Addr) (ps : List PartV) (d : Nat) (B : Nat) (w : World) (hB : B ≤ w.heap.size) (hp : Sees w B C (ps.flatMap partCells)) (hwf : ∀ p ∈ ps, p.d.length = 32 ∧ I64 p.num) (hs : ∀ p ∈ ps, p.s.size ≤ 140737488351232) (hn : ps.length ≤ 200) (hsum : sums ps ≤ 16384) :
    Calls Try.prog 12 #[.slice C ps.length d] w (WrittenIs ps w) := by
  have HP := Lib.hid hp
  have HWF := Lib.hid hwf
  have HD := Lib.hid (fun p hp => (hwf p hp).1)
  have HS := Lib.hid hs
  have HL := wb_len ps HD.out
  have HTL := Lib.hid (wb_take_len ps)
  clear hp hs hwf
  go_enter Try.func12, Try.ntmps12
  go_upto_region 2 with fail
  have HW0 := Lib.hid (Wr.made w)
  have HB0 := Lib.hid ((Below.refl w.heap.size w).alloc (Nat.le_refl _) (.cells #[.slice none 0 0] 32))
  have hs0 : (w.alloc (.cells #[.slice none 0 0] 32)).heap.size = w.heap.size + 1 := by simp
  generalize w.alloc (.cells #[.slice none 0 0] 32) = w0 at *
  clear hs0
  go_wp2
  go_loopw [5, 7, 12] (fun s _ i wr => ∃ k : Nat, k ≤ ps.length ∧ i = .int .i64 k ∧ s = str (wb (ps.take k)) ∧ Hid (Wr wr w.heap.size w.heap.size (wb (ps.take k))) ∧ Hid (Below w.heap.size w wr)) (fun _ _ i _ => ps.length - (intOf i).toNat)
  case atStart => exact ⟨0, Nat.zero_le _, rfl, rfl, HW0, HB0⟩
  case round =>
    obtain ⟨k, hk, rfl, rfl, hW, hB2⟩ := hrel
    by_cases hlt : k < ps.length
    · obtain ⟨g, o, rfl, hg, hr⟩ := (HP.out).part HD.out hlt
      have hpd := HD.out ps[k] (List.getElem_mem hlt)
      have hpn := (HWF.out ps[k] (List.getElem_mem hlt)).2
      have hps := HS.out ps[k] (List.getElem_mem hlt)
      have hpl := partBytes_len hpd
      have hsn := Lib.hid (wb_snoc ps k hlt)
      have htl := HTL.out (k + 1)
      rw [hsn.out, List.length_append] at htl
      generalize ps[k] = p at *
      generalize hbk : wb (ps.take k) = bk at *
      have hrr : Hid (wr.rangeAt g (o + k * 37) (partCells p)) := fun j v hj => (hB2.out.cell (by show g < _; omega)).trans (hr j v hj)
      have hsz : Hid ((Try.prog.info? 48).map (·.size) = some (partCells p).length) := by
        show _ = _
        rw [partCells_len hpd]
        kernel_rfl
      have hsz2 : Hid ((Try.prog.info? 48).map (·.size) = some (partCells p).toArray.size) := hsz
      have hsz3 : Hid ((partCells p).toArray.size = pzero.size) := by
        show _ = _
        rw [List.size_toArray, partCells_len hpd]
        rfl
      have hone2 : Hid (∀ v ∈ (partCells p).toArray.toList, v.oneCell' = true) := partCells_one p
      have hB0 := Lib.hid (Box.made wr 48 pzero)
      have HPD := Lib.hid hpd
      have HPN := Lib.hid hpn
      clear hr hpd hbk hpn
      go_upto_region 6 with (first
        | (with_reducible show wpList _ _ _ ((⟨some 15, _, _, _, _, _⟩ : Oper) :: _) _ _; refine wpList_load_mid rfl 48 (.tmp 14) rfl g (o + k * 37) rfl (partCells p) _ hrr.out Try.underlying48 rfl hsz.out ?_)
        | (with_reducible show wpList _ _ _ ((⟨none, .store _ _ _, _, _, _, _⟩ : Oper) :: _) _ _; refine wpList_store_box rfl 48 (.tmp 7) (.tmp 15) rfl wr.heap.size (partCells p).toArray rfl rfl 48 pzero hB0.out hsz3.out hsz2.out hone2.out ?_; intro w4 hb4 hg4))
      simp only [Act.put]
      have hB4 : Below wr.heap.size wr w4 := ((Below.refl _ _).alloc (Nat.le_refl _) _).trans (below_only hg4 (Nat.le_refl _) (by simp))
      have HB4 := Lib.hid (hB2.out.trans (hB4.mono hB2.out.size))
      have HW4 := Lib.hid (hW.out.below_size hB4)
      have HX := Lib.hid hb4
      obtain ⟨c0, c1, c2, c3, _, _⟩ := part_cells HPD.out hb4
      have HC3 := Lib.hid c3
      have hws : w.heap.size < wr.heap.size := hW.out.lt
      generalize hgw : wr.heap.size = G at *
      clear hb4 hg4 hB4 hB0 hsz hsz2 hsz3 hone2 hrr hB2 hW hgw c3
      by_cases k1 : p.kind = 1
      · have hpb : partBytes p = textBytes p.s := by unfold partBytes; rw [if_pos k1]
        rw [hpb] at hpl htl hsn
        have htx := textBytes_len p.s
        have hW5 := HW4.out.below_size ((Below.refl w4.heap.size w4).alloc (Nat.le_refl _) (.cells #[.string p.s] 9))
        have hx : Box (w4.alloc (.cells #[.string p.s] 9)) w4.heap.size 9 #[.string p.s] := Box.made _ _ _
        have hN := wtext_any w.heap.size w.heap.size (some ⟨w4.heap.size, 0, none⟩) [p.s] 1 bk _ hW5 (Src.of_box hW5 hx (by decide) (by decide)) (by
          simp only [List.flatMap_cons, List.flatMap_nil, List.append_nil]
          omega) (by simp)
        have HN := Lib.hid hN
        have HX5 := Lib.hid (HX.out.alloc (.cells #[.string p.s] 9))
        have HB5 := Lib.hid (HB4.out.trans ((Below.refl w.heap.size w4).alloc HB4.out.size (.cells #[.string p.s] 9)))
        have HNM := Lib.hid (hW5.not_mine HX5.out (by decide) (by decide))
        have HW5 := Lib.hid hW5
        have HRT := Lib.hid (reftext_any p.s hps)
        have HTX := Lib.hid htx
        have htx2 : (textBytes p.s).length ≤ 4 + p.s.size := by omega
        clear hN hx hW5 HW4 HB4 HX htx hpb
        go_wp2_with fail
        refine (HN.out).mono ?_
        rintro e w6 ⟨rfl, hW6, hF6⟩
        have hX6 : Box w6 G 48 (partCells p).toArray := (hF6.block G HX5.out.lt HNM.out).trans HX5.out
        have c2' := (part_cells HPD.out hX6).2.2.1
        have HB6 := Lib.hid (HB5.out.trans (hF6.below HW5.out))
        have HW6 : Hid (Wr w6 w.heap.size w.heap.size (bk ++ textBytes p.s)) := by
          show Wr _ _ _ _
          simpa using hW6
        clear hW6 hF6 hX6 HN HX5 HNM HB5 HW5 c0 c1 c2
        go_wp2_with (go_at_call 15; refine (HRT.out _).mono ?_; rintro e w7 ⟨rfl, hB7⟩; have HB7 := Lib.hid hB7; clear hB7)
        go_roundw
        case rel => exact ⟨k + 1, by omega, by go_num, (by rw [hsn.out, ByteArray.mk_append_mk]), (by show Wr _ _ _ _; rw [hsn.out]; exact HW6.out.below_size HB7.out), HB6.out.trans (HB7.out.mono HB6.out.size)⟩
        case measure => simp [intOf]; omega
      have k1' : (p.kind == 1) = false := by simpa using k1
      by_cases k2 : p.kind = 2
      · have hpb : partBytes p = p.d := by unfold partBytes; rw [if_neg k1, if_pos k2]
        rw [hpb] at hpl htl hsn
        have hszd : Hid ((Try.prog.info? 39).map (·.size) = some (p.d.map bv).length) := by
          show _ = _
          rw [List.length_map, HPD.out]
          kernel_rfl
        have hpd := HPD.out
        clear k1
        go_wp2_with (with_reducible show wpList _ _ _ ((⟨some 44, _, _, _, _, _⟩ : Oper) :: _) _ _; refine wpList_load_mid rfl 39 (.tmp 43) rfl G 3 rfl (p.d.map bv) _ HC3.out Try.underlying39 rfl hszd.out ?_)
        rw [fold_whole _ _ (by rw [List.length_map, hpd]; rfl)]
        have hW5 := HW4.out.below_size ((Below.refl w4.heap.size w4).alloc (Nat.le_refl _) (.cells (p.d.map bv).toArray 39))
        have hx : Box (w4.alloc (.cells (p.d.map bv).toArray 39)) w4.heap.size 39 (p.d.map bv).toArray := Box.made _ _ _
        have hsrc := Src.of_box hW5 hx (by decide) (by decide)
        have hN := wdigest_any w.heap.size w.heap.size (some ⟨w4.heap.size, 0, none⟩) [p.d] (by intro d hd; simp at hd; rw [hd]; exact hpd) 1 bk _ hW5 (by simpa using hsrc) (by simp; omega)
        have HN := Lib.hid hN
        have HX5 := Lib.hid (HX.out.alloc (.cells (p.d.map bv).toArray 39))
        have HB5 := Lib.hid (HB4.out.trans ((Below.refl w.heap.size w4).alloc HB4.out.size (.cells (p.d.map bv).toArray 39)))
        have HNM := Lib.hid (hW5.not_mine HX5.out (by decide) (by decide))
        have HW5 := Lib.hid hW5
        have HRT := Lib.hid (refdigest_any p.d hpd)
        clear hN hx hW5 HW4 HB4 HX hpb hsrc
        refine (HN.out).mono ?_
        rintro e w6 ⟨rfl, hW6, hF6⟩
        have hX6 : Box w6 G 48 (partCells p).toArray := (hF6.block G HX5.out.lt HNM.out).trans HX5.out
        have HC36 := Lib.hid (part_cells hpd hX6).2.2.2.1
        have HB6 := Lib.hid (HB5.out.trans (hF6.below HW5.out))
        have HW6 : Hid (Wr w6 w.heap.size w.heap.size (bk ++ p.d)) := by
          show Wr _ _ _ _
          simpa using hW6
        clear hW6 hF6 hX6 HN HX5 HNM HB5 HW5 c0 c1 c2
        go_wp2_with (first
          | (with_reducible show wpList _ _ _ ((⟨some 49, _, _, _, _, _⟩ : Oper) :: _) _ _; refine wpList_load_mid rfl 39 (.tmp 48) rfl G 3 rfl (p.d.map bv) _ HC36.out Try.underlying39 rfl hszd.out ?_)
          | (go_at_call 32; refine (HRT.out _).mono ?_; rintro e w7 ⟨rfl, hB7⟩; have HB7 := Lib.hid hB7; clear hB7))
        go_roundw
        case rel => exact ⟨k + 1, by omega, by go_num, (by rw [hsn.out, ByteArray.mk_append_mk]), (by show Wr _ _ _ _; rw [hsn.out]; exact HW6.out.below_size HB7.out), HB6.out.trans (HB7.out.mono HB6.out.size)⟩
        case measure => simp [intOf]; omega
      · have k2' : (p.kind == 2) = false := by simpa using k2
        have hpb : partBytes p = numBytes p.num := by unfold partBytes; rw [if_neg k1, if_neg k2]
        rw [hpb] at hpl htl hsn
        have htx := numBytes_len p.num
        have hW5 := HW4.out.below_size ((Below.refl w4.heap.size w4).alloc (Nat.le_refl _) (.cells #[.int .i64 p.num] 3))
        have hx : Box (w4.alloc (.cells #[.int .i64 p.num] 3)) w4.heap.size 3 #[.int .i64 p.num] := Box.made _ _ _
        have hN := wnum_any w.heap.size w.heap.size (some ⟨w4.heap.size, 0, none⟩) [p.num] 1 bk _ hW5 (Src.of_box hW5 hx (by decide) (by decide)) (by simp; omega)
        have HN := Lib.hid hN
        have HX5 := Lib.hid (HX.out.alloc (.cells #[.int .i64 p.num] 3))
        have HB5 := Lib.hid (HB4.out.trans ((Below.refl w.heap.size w4).alloc HB4.out.size (.cells #[.int .i64 p.num] 3)))
        have HNM := Lib.hid (hW5.not_mine HX5.out (by decide) (by decide))
        have HW5 := Lib.hid hW5
        have HRT := Lib.hid (refnum_any p.num HPN.out)
        have htx2 : (numBytes p.num).length ≤ 8 := by omega
        clear hN hx hW5 HW4 HB4 HX htx hpb k1 k2
        go_wp2_with fail
        refine (HN.out).mono ?_
        rintro e w6 ⟨rfl, hW6, hF6⟩
        have hX6 : Box w6 G 48 (partCells p).toArray := (hF6.block G HX5.out.lt HNM.out).trans HX5.out
        have c1' := (part_cells HPD.out hX6).2.1
        have HB6 := Lib.hid (HB5.out.trans (hF6.below HW5.out))
        have HW6 : Hid (Wr w6 w.heap.size w.heap.size (bk ++ numBytes p.num)) := by
          show Wr _ _ _ _
          simpa using hW6
        clear hW6 hF6 hX6 HN HX5 HNM HB5 HW5 c0 c1 c2
        go_wp2_with (go_at_call 13; refine (HRT.out _).mono ?_; rintro e w7 ⟨rfl, hB7⟩; have HB7 := Lib.hid hB7; clear hB7)
        go_roundw
        case rel => exact ⟨k + 1, by omega, by go_num, (by rw [hsn.out, ByteArray.mk_append_mk]), (by show Wr _ _ _ _; rw [hsn.out]; exact HW6.out.below_size HB7.out), HB6.out.trans (HB7.out.mono HB6.out.size)⟩
        case measure => simp [intOf]; omega
    · have hWB := wbytes_any _ _ _ _ hW.out (by
        have := HTL.out k
        omega)
      rw [List.take_of_length_le (by omega)] at hWB
      have HWB := Lib.hid hWB
      have htk : ps.take k = ps := List.take_of_length_le (by omega)
      have HTK := Lib.hid htk
      clear hWB htk hW
      go_wp2_with fail
      refine (HWB.out).mono ?_
      rintro e w6 ⟨A, c, rfl, hc, hown, hB6⟩
      go_wp2
      go_ret2
      refine ⟨A, c, ret_val ?_, hc, ?_, hB2.out.trans (hB6.mono hB2.out.size)⟩
      · show Value.tuple #[_, str (wb (ps.take k))] = _
        rw [HTK.out]
        rfl
      · rcases hown with h | h
        · rw [h]
          exact .inl rfl
        · exact Sees.of_own h

end Go.Proofs.Ytkafpdfjdnklaaa
