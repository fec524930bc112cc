/-
  CodeWrites: the walk of the law.
-/
import Derived.Test.YtkafpdfjdnklaaaWritten
import Derived.Test.YtkafpdfjdnklaaaRef
namespace Go.Proofs.Ytkafpdfjdnklaaa
open Go.RowKit

theorem nums_snoc (ns : List Int) (k : Nat) (h : k < ns.length) : (ns.take (k + 1)).flatMap numBytes = (ns.take k).flatMap numBytes ++ numBytes ns[k] := by
  rw [take_snoc' ns k h, List.flatMap_append]
  simp
theorem texts_snoc (ss : List ByteArray) (k : Nat) (h : k < ss.length) : (ss.take (k + 1)).flatMap textBytes = (ss.take k).flatMap textBytes ++ textBytes ss[k] := by
  rw [take_snoc' ss k h, List.flatMap_append]
  simp

set_option maxRecDepth 100000 in
set_option maxHeartbeats 6400000 in
theorem writes_walk (C N S : Option Addr) (ps : List PartV) (ns : List Int) (ss : List ByteArray) (d dn ds : Nat) (w : World) (hp : Sees w w.heap.size C (ps.flatMap partCells)) (hpl : ps.length ≤ 9223372036854775807) (hwf : ∀ p ∈ ps, p.d.length = 32 ∧ I64 p.num) (hs : ∀ p ∈ ps, p.s.size ≤ 140737488351232)
    (hn : Sees w w.heap.size N (ns.map (Value.int .i64))) (hnl : ns.length ≤ 9223372036854775807) (hni : ∀ n ∈ ns, I64 n) (ht : Sees w w.heap.size S (ss.map Value.string)) (htl : ss.length ≤ 9223372036854775807) (hts : ∀ s ∈ ss, s.size ≤ 140737488351232) :
    Calls Try.prog 3 #[.slice C ps.length d, .slice N ns.length dn, .slice S ss.length ds] w fun e w' => e = .returned (.bool true) ∧ Below w.heap.size w w' := by
  have HA := Lib.hid (alive_any w)
  have HP := Lib.hid hp
  have HWF := Lib.hid hwf
  have HD := Lib.hid (fun p hp => (hwf p hp).1)
  have HS := Lib.hid hs
  have HN := Lib.hid hn
  have HNI := Lib.hid hni
  have HT := Lib.hid ht
  have HTS := Lib.hid hts
  clear hp hwf hs hn hni ht hts
  go_enter Try.func3, Try.ntmps3
  go_wp2_with fail
  refine (HA.out).mono ?_
  rintro e w1 ⟨rfl, hB1⟩
  have HB1 := Lib.hid hB1
  clear hB1 HA
  go_wp2_with fail
  refine (great_any C ps d w.heap.size w1 HB1.out.size (HP.out.below HB1.out) hpl HD.out HS.out).mono ?_
  rintro e w2 ⟨t, rfl, ht, hB⟩
  have HB2 := Lib.hid (HB1.out.trans (hB.mono HB1.out.size))
  clear hB HB1
  cases t
  case true =>
    go_wp2
    go_ret
    exact ⟨rfl, HB2.out⟩
  obtain ⟨hn, hsum⟩ := ht rfl
  clear ht
  by_cases h1 : (200 : Int) < (ns.length : Int)
  · go_wp2
    go_ret
    exact ⟨rfl, HB2.out⟩
  have h1' : decide ((200 : Int) < (ns.length : Int)) = false := by simpa using h1
  by_cases h2 : (200 : Int) < (ss.length : Int)
  · go_wp2
    go_ret
    exact ⟨rfl, HB2.out⟩
  have h2' : decide ((200 : Int) < (ss.length : Int)) = false := by simpa using h2
  go_wp2_with fail
  refine (written_any C ps d w.heap.size w2 HB2.out.size (HP.out.below HB2.out) HWF.out HS.out hn hsum).mono ?_
  rintro e w3 ⟨A, c, rfl, hc, hsees, hB⟩
  have HB3 := Lib.hid (HB2.out.trans (hB.mono HB2.out.size))
  have hconv := convert_sees (P := Try.prog) 27 5 9 Try.underlying27 Try.underlying5 Try.underlying9 hsees c
  have HW3 := Lib.hid (Wr.made w3)
  have HB4 := Lib.hid ((Below.refl w3.heap.size w3).alloc (Nat.le_refl _) (.cells #[.slice none 0 0] 32))
  clear hB HB2 hsees hc HP HWF HD HS
  go_upto_region 9 with fail
  generalize hgw : w3.heap.size = Gw at *
  generalize w3.alloc (.cells #[.slice none 0 0] 32) = w4 at *
  have hw3 := HB3.out.size
  rw [hgw] at hw3
  have HBw4 := Lib.hid (HB3.out.trans (HB4.out.mono hw3))
  clear hgw HB4 HB3 hconv
  go_wp2
  go_loopw [10, 12, 43] (fun t _ i wr => ∃ k : Nat, k ≤ ns.length ∧ i = .int .i64 k ∧ t = str ((ns.take k).flatMap numBytes) ∧ Hid (Wr wr Gw Gw []) ∧ Hid (Below w.heap.size w wr)) (fun _ _ i _ => ns.length - (intOf i).toNat)
  case atStart => exact ⟨0, Nat.zero_le _, rfl, rfl, HW3, HBw4⟩
  case round =>
    obtain ⟨k, hk, rfl, rfl, hW, hB⟩ := hrel
    by_cases hlt : k < ns.length
    · obtain ⟨g, o, rfl, hg, hcell⟩ := (HN.out).at_ (k := k) (by rw [List.length_map]; exact hlt)
      rw [List.getElem_map] at hcell
      have hni := HNI.out ns[k] (List.getElem_mem hlt)
      have c0 := (hB.out.cell (by exact hg)).trans hcell
      have hsn := Lib.hid (nums_snoc ns k hlt)
      have hTl : ((ns.take k).flatMap numBytes).length ≤ 1600 := by
        rw [nums_len, List.length_take]
        omega
      generalize ns[k] = n at *
      generalize (ns.take k).flatMap numBytes = T at *
      have hnb := numBytes_len n
      have hnb2 : (numBytes n).length ≤ 8 := by omega
      clear hnb
      go_wp2_with fail
      refine (refnum_any n hni _).mono ?_
      rintro e w5 ⟨rfl, hB5⟩
      have HW5 := Lib.hid (hW.out.below_size hB5)
      have HB5 := Lib.hid (hB.out.trans (hB5.mono hB.out.size))
      clear hW hB hB5 c0 hcell
      go_wp2
      go_roundw
      case rel =>
        exact ⟨k + 1, by omega, by go_num, (by rw [hsn.out, ByteArray.mk_append_mk]), HW5, HB5⟩
      case measure => simp [intOf]; omega
    · have e : ns.take k = ns := List.take_of_length_le (by omega)
      rw [e]
      have hSr : Src _ Gw N (ns.map (Value.int .i64)) := Src.of_sees hW.out ((HN.out.below hB.out).more hw3)
      have HNM := Lib.hid (wnum_any Gw Gw N ns dn [] _ hW.out hSr (by simp; omega))
      clear hSr e
      go_wp2_with fail
      refine (HNM.out).mono ?_
      rintro e w5 ⟨rfl, hW5, hF5⟩
      have hb5 := hF5.below hW.out
      have HB5 := Lib.hid (hB.out.trans (hb5.mono hw3))
      have hW5' : Wr w5 Gw Gw (ns.flatMap numBytes) := hW5
      have HW5 := Lib.hid hW5'
      clear hW5 hF5 hb5 HNM hW hB hW5' HW3 HBw4
      have hNl : (ns.flatMap numBytes).length ≤ 1600 := by
        rw [nums_len]
        omega
      generalize ns.flatMap numBytes = NB at *
      go_wp2
      go_loopw [10, 14, 57] (fun t _ i wr => ∃ (k : Nat) (T : List UInt8), k ≤ ss.length ∧ i = .int .i64 k ∧ t = str T ∧ Hid (T = NB ++ (ss.take k).flatMap textBytes) ∧ T.length ≤ 16388 ∧ Hid (Wr wr Gw Gw NB) ∧ Hid (Below w.heap.size w wr)) (fun _ _ i _ => ss.length - (intOf i).toNat)
      case atStart => exact ⟨0, NB, Nat.zero_le _, rfl, rfl, (by show NB = _; simp), by omega, HW5, HB5⟩
      case round =>
        obtain ⟨k, T, hk, rfl, rfl, hT, hTl, hW, hB⟩ := hrel
        by_cases hlt : k < ss.length
        · obtain ⟨g, o, rfl, hg, hcell⟩ := (HT.out).at_ (k := k) (by rw [List.length_map]; exact hlt)
          rw [List.getElem_map] at hcell
          have hts := HTS.out ss[k] (List.getElem_mem hlt)
          have c0 := (hB.out.cell (by exact hg)).trans hcell
          have hsn := texts_snoc ss k hlt
          have hT2 : Hid (T ++ textBytes ss[k] = NB ++ (ss.take (k + 1)).flatMap textBytes) := by
            show _ = _
            rw [hsn, hT.out, List.append_assoc]
          clear hsn
          generalize ss[k] = x at *
          have hszT : (ByteArray.mk T.toArray).size = T.length := by show T.toArray.size = _; simp
          by_cases hbig : (16384 : Int) < (T.length : Int) + (x.size : Int)
          · go_wp2
            go_ret
            exact ⟨rfl, hB.out⟩
          · have hbig' : decide ((16384 : Int) < (T.length : Int) + (x.size : Int)) = false := by simpa using hbig
            have HRT := Lib.hid (reftext_any x hts)
            have hxl := textBytes_len x
            have hxl2 : (textBytes x).length ≤ 4 + x.size := by omega
            have hxl3 : (T ++ textBytes x).length ≤ 16388 := by rw [List.length_append]; omega
            clear hxl
            go_wp2_with (go_at_call 15; refine (HRT.out _).mono ?_; rintro e w7 ⟨rfl, hB7⟩; have HB7 := Lib.hid hB7; clear hB7)
            go_roundw
            case rel => exact ⟨k + 1, T ++ textBytes x, by omega, by go_num, (by rw [ByteArray.mk_append_mk]), hT2, hxl3, hW.out.below_size HB7.out, hB.out.trans (HB7.out.mono hB.out.size)⟩
            case measure => simp [intOf]; omega
        · have e : ss.take k = ss := List.take_of_length_le (by omega)
          have hT3 := hT.out
          rw [e] at hT3
          subst hT3
          have hSr : Src _ Gw S (ss.map Value.string) := Src.of_sees hW.out ((HT.out.below hB.out).more hw3)
          have HTX := Lib.hid (wtext_any Gw Gw S ss ds NB _ hW.out hSr (by rw [List.length_append] at hTl; omega) (by omega))
          clear hSr e hT
          go_wp2_with fail
          refine (HTX.out).mono ?_
          rintro e w6 ⟨rfl, hW6, hF6⟩
          have hb6 := hF6.below hW.out
          have HB6 := Lib.hid (hB.out.trans (hb6.mono hw3))
          have HW6 := Lib.hid hW6
          clear hW6 hF6 hb6 HTX hW hB HW5 HB5
          generalize NB ++ ss.flatMap textBytes = T at *
          go_upto_region 28 with (first
            | (go_at_call 14; refine (wnum_nil _ _).mono ?_; rintro e w' ⟨rfl, rfl⟩)
            | (go_at_call 16; refine (wtext_nil _ _).mono ?_; rintro e w' ⟨rfl, rfl⟩)
            | (go_at_call 17; refine (wdigest_nil _ _).mono ?_; rintro e w' ⟨rfl, rfl⟩))
          have a1 : w6.heap.size ≤ (w6.alloc (.cells #[.int .i64 1] 3)).heap.size := by simp
          have a2 : w6.heap.size ≤ ((w6.alloc (.cells #[.int .i64 1] 3)).alloc (.cells #[.string ⟨#[97]⟩] 9)).heap.size := Nat.le_trans a1 (by simp)
          have hb7 : Below w6.heap.size w6 (((w6.alloc (.cells #[.int .i64 1] 3)).alloc (.cells #[.string ⟨#[97]⟩] 9)).alloc (.cells zcells' 39)) := (((Below.refl w6.heap.size w6).alloc (Nat.le_refl _) _).alloc a1 _).alloc a2 _
          generalize ((w6.alloc (.cells #[.int .i64 1] 3)).alloc (.cells #[.string ⟨#[97]⟩] 9)).alloc (.cells zcells' 39) = w7 at *
          have HWb := Lib.hid (wbytes_any Gw Gw T w7 (HW6.out.below_size hb7) (by omega))
          have HB7 := Lib.hid (HB6.out.trans (hb7.mono HB6.out.size))
          clear a1 a2 hb7 HW6 HB6
          go_wp2_with fail
          refine (HWb.out).mono ?_
          rintro e w8 ⟨A2, c2, rfl, hc, hown, hB8⟩
          have hse : Sees w8 w8.heap.size A2 (T.map bv) := hown.elim (fun h => .inl (by rw [h]; rfl)) (fun h => Sees.of_own h)
          have hconv := convert_sees (P := Try.prog) 27 5 9 Try.underlying27 Try.underlying5 Try.underlying9 hse c2
          have HB8 := Lib.hid (HB7.out.trans (hB8.mono HB7.out.size))
          clear hse hown hB8 HB7 HWb hc
          go_wp2_with (go_at_call 18; refine (wbytes_nil _).mono ?_; rintro e w' ⟨rfl, rfl⟩)
          go_ret
          exact ⟨rfl, HB8.out⟩
end Go.Proofs.Ytkafpdfjdnklaaa
