/-
  CodeKeeps: the walk of the law.
-/
import Derived.Test.YtkafpdfjdnklaaaKit2
import Derived.Test.YtkafpdfjdnklaaaOne
import Derived.Deep.RegionWith
namespace Go.Proofs.Ytkafpdfjdnklaaa
open Go.RowKit

theorem wrap_u8_next (b : UInt8) : bv (b + 1) = .int .u8 (((b.toNat : Int) + 1) % 256) := by
  have h1 := UInt8.toNat_add b 1
  have h2 : (1 : UInt8).toNat = 1 := rfl
  have hg : (((b + 1).toNat : Nat) : Int) = ((b.toNat : Int) + 1) % 256 := by
    rw [h1, h2]
    omega
  unfold bv
  rw [hg]

/-- A Reader stands when another one is turned: its bytes can't lie in the other's own block. -/
theorem Rd.aside {w w' : World} {a r : Nat} {l l2 : List UInt8} {bad bad2 : Bool} (h : Rd w a l bad) (hr : Rd w r l2 bad2) (hne : a ≠ r) (hb : w.grownBy w' (some r)) : Rd w' a l bad := by
  obtain ⟨A, c, h1, h2, h3, h4⟩ := h
  obtain ⟨A', c', k1, _⟩ := hr
  refine ⟨A, c, h1.grown hb (by simpa using hne), h2, h3, ?_⟩
  rcases h4 with h4 | ⟨g, o, rfl, hg, hc⟩
  · exact .inl h4
  · by_cases hgr : g = r
    · subst hgr
      left
      cases l with
      | nil => rfl
      | cons b t =>
        exfalso
        have h0 := hc 0 (bv b) rfl
        rw [k1.cell] at h0
        match o, h0 with
        | 0, h0 => simp [bv] at h0
        | 1, h0 => simp [bv] at h0
        | _ + 2, h0 => simp at h0
    · have hlt := h1.lt
      refine .inr ⟨g, o, rfl, hg, fun j v hj => ?_⟩
      exact hb.cell (hc j v hj) (by simpa using hgr)

set_option maxHeartbeats 3200000 in
theorem keeps_walk (A C : Option Addr) (l : List UInt8) (ps : List PartV) (c d : Nat) (w : World) (hb : Sees w w.heap.size A (l.map bv)) (hl : l.length ≤ 9223372036854775807) (hp : Sees w w.heap.size C (ps.flatMap partCells)) (hpl : ps.length ≤ 9223372036854775807)
    (hwf : ∀ p ∈ ps, p.d.length = 32) (hs : ∀ p ∈ ps, p.s.size ≤ 140737488351232) :
    Calls Try.prog 7 #[.slice A l.length c, .slice C ps.length d] w fun e w' => e = .returned (.bool true) ∧ Below w.heap.size w w' := by
  have HA := Lib.hid (alive_any w)
  have HB := Lib.hid hb
  have HP := Lib.hid hp
  have HD := Lib.hid hwf
  have HS := Lib.hid hs
  clear hb hp hwf hs
  go_enter Try.func7, Try.ntmps7
  go_wp2_with fail
  refine (HA.out).mono ?_
  rintro e w1 ⟨rfl, hB1⟩
  have HB1 := Lib.hid hB1
  clear hB1 HA
  by_cases h1 : (16384 : Int) < (l.length : Int)
  · go_wp2
    go_ret
    exact ⟨rfl, HB1.out⟩
  have h1' : decide ((16384 : Int) < (l.length : Int)) = false := by simpa using h1
  have HG := Lib.hid (great_any C ps d w.heap.size w1 HB1.out.size (HP.out.below HB1.out) hpl HD.out HS.out)
  go_wp2_with fail
  refine (HG.out).mono ?_
  rintro e w2 ⟨t, rfl, ht, hB2⟩
  have HB2 := Lib.hid (HB1.out.trans (hB2.mono HB1.out.size))
  clear hB2 HG HB1 ht HP HD HS
  cases t
  case true =>
    go_wp2
    go_ret
    exact ⟨rfl, HB2.out⟩
  obtain ⟨i0, hi0, hz0, hz1, hz2⟩ := info_parts w_byte_info
  have hmine : (w2.alloc (.cells #[] 5)).ownsRow w2.heap.size 5 1 (.slice (some ⟨w2.heap.size, 0, none⟩) 0 0) 0 [] := World.ownsRow_lit w2 #[] 0 (Nat.le_refl _) (by simp [maxLen]) rfl
  have HM := Lib.hid hmine
  have hB0 : Below w2.heap.size w2 (w2.alloc (.cells #[] 5)) := (Below.refl _ _).alloc (Nat.le_refl _) _
  have HSee := Lib.hid (((HB.out.below HB2.out).more HB2.out.size).below hB0)
  have hone := Lib.hid (bv_one l)
  have hlen : Hid ((l.map bv).length = l.length) := List.length_map ..
  have HB3 := Lib.hid hB0
  have hnn : Hid (Value.slice (some ⟨w2.heap.size, 0, none⟩) 0 0 ≠ Value.slice none 0 0) := fun h => by cases h
  clear hmine hB0
  go_upto_region 6 with (with_reducible show wpList _ _ _ ((⟨some 23, _, _, _, _, _⟩ : Oper) :: _) _ _; refine wpList_append_seen rfl (.tmp 21) (.tmp 22) 27 rfl w2.heap.size 5 i0 _ Try.underlying27 hi0 hz0 hz1 hz2 rfl (.slice (some ⟨w2.heap.size, 0, none⟩) 0 0) 0 [] rfl HM.out hnn.out w2.heap.size A l.length c (l.map bv) rfl HSee.out hlen.out hone.out (by omega) (by simp) ?_; intro g cap w4 hown hgrow; have HM4 := Lib.hid hown; have HG4 := Lib.hid hgrow; clear hown hgrow)
  simp only [Nat.zero_add, List.nil_append] at HM4 ⊢
  have hform := own_form HM4.out (by intro h; cases h)
  obtain ⟨g', cap', hv, hgge, hglt, hlc, hcm⟩ := hform
  simp only [Value.slice.injEq, Option.some.injEq, Addr.mk.injEq, and_true, true_and] at hv
  obtain ⟨rfl, rfl⟩ := hv
  have HB4 := Lib.hid (HB2.out.trans ((HB3.out.trans (below_only HG4.out (Nat.le_refl _) (by simp))).mono HB2.out.size))
  have hw2 := HB2.out.size
  clear HG4 HB3 HM HSee hnn hcm
  go_wp2_with fail
  refine (read_new w4.heap.size (some ⟨g, 0, none⟩) l cap w4 (Sees.of_own HM4.out) (Nat.le_refl _) (by omega)).mono ?_
  rintro e w5 ⟨r, rfl, hR, hr1, hr2, hB5⟩
  have HR := Lib.hid hR
  have HB5 := Lib.hid hB5
  clear hR hB5
  go_wp2_with fail
  have HB45 := Lib.hid (HB4.out.trans (HB5.out.mono HB4.out.size))
  refine (read_new w.heap.size A l c w5 (HB.out.below HB45.out) HB45.out.size (by omega)).mono ?_
  rintro e w6 ⟨o, rfl, hO, ho1, ho2, hB6⟩
  have HO := Lib.hid hO
  have HB6 := Lib.hid hB6
  have hs4 := HB4.out.size
  have hs5 := HB5.out.size
  have hs6 := HB6.out.size
  have HBw6 := Lib.hid (HB45.out.trans (HB6.out.mono HB45.out.size))
  have hB46 : Below w4.heap.size w4 w6 := HB5.out.trans (HB6.out.mono HB5.out.size)
  have HM6 := Lib.hid (HM4.out.kept (only_below hB46 none) (.inr (by simp [Value.ownBlock])))
  clear hO hB6 hB46 HM4 HB
  go_wp2
  go_loopw [8, 30] (fun _ i wr => ∃ (k : Nat) (m : List UInt8), k ≤ l.length ∧ i = .int .i64 k ∧ m.length = l.length ∧ Hid (wr.ownsRow w2.heap.size 5 1 (.slice (some ⟨g, 0, none⟩) l.length cap) l.length (m.map bv)) ∧ Hid (w6.grownBy wr (some g))) (fun _ i _ => l.length - (intOf i).toNat)
  case atStart => exact ⟨0, l, Nat.zero_le _, rfl, rfl, HM6, only_refl _ _⟩
  case round =>
    obtain ⟨k, m, hk, rfl, hm, hM, hG⟩ := hrel
    by_cases hlt : k < l.length
    · have hkm : k < m.length := by omega
      have c0 : wr.cell? ⟨g, k, none⟩ = some (.int .u8 (m[k].toNat : Int)) := by
        rw [hM.out.cellAt k (by omega)]
        simp [hkm, bv]
      have f0 := hM.out.frozenAt k
      have hv := wrap_u8_next m[k]
      have hst := hM.out.stored k (bv (m[k] + 1))
      have hset : (m.map bv).set k (bv (m[k] + 1)) = (m.set k (m[k] + 1)).map bv := by rw [List.map_set]
      rw [hset, hv] at hst
      generalize m[k] = x at *
      have HM2 := Lib.hid hst.1
      have HG2 := Lib.hid (only_trans hG.out hst.2)
      clear hst hset hM hG
      go_wp2
      go_roundw
      case rel => exact ⟨k + 1, m.set k (x + 1), by omega, by go_num, by rw [List.length_set]; exact hm, HM2, HG2⟩
      case measure => simp [intOf]; omega
    · go_upto_region 12 with fail
      rename World => v0
      have HBr := Lib.hid (HBw6.out.trans (below_only hG.out (by omega) HBw6.out.size))
      have hws := hG.out.size
      have S5 : Same w4.heap.size w5.heap.size w5 v0 := (Same.of_below HB6.out (Nat.le_refl _)).trans (Same.of_grown hG.out (.inl hglt) hs6)
      have S6 : Same w5.heap.size w6.heap.size w6 v0 := Same.of_grown hG.out (.inl (by omega)) (Nat.le_refl _)
      have HRr := Lib.hid (HR.out v0 S5)
      have HOr := Lib.hid (HO.out v0 S6)
      have hwr : w.heap.size ≤ v0.heap.size := HBr.out.size
      have hro : r < v0.heap.size := by omega
      have hoo : o < v0.heap.size := by omega
      have hrwn : w.heap.size ≤ r := by omega
      have hown' : w.heap.size ≤ o := by omega
      have hne : r < o := by omega
      have HW0 := Lib.hid (Wr.made v0)
      have HB0 := Lib.hid ((Below.refl v0.heap.size v0).alloc (Nat.le_refl _) (.cells #[.slice none 0 0] 32))
      have hs0 : v0.heap.size < (v0.alloc (.cells #[.slice none 0 0] 32)).heap.size := by simp
      clear S5 S6 HR HO hG hM HB6 HB5 HB45 HB4 HBw6 HM6 HB2 hone hlen hm hk hlt hs4 hs5 hs6 hglt hgge hlc ho1 ho2 hr1 hr2 hws hw2
      go_upto_region 13 with fail
      generalize v0.alloc (.cells #[.slice none 0 0] 32) = w7 at *
      go_wp2_with fail
      have hW3 := HW0.out.below_size ((Below.refl w7.heap.size w7).alloc (Nat.le_refl _) (.cells #[.string ⟨#[97, 98, 99]⟩] 9))
      have hx : Box (w7.alloc (.cells #[.string ⟨#[97, 98, 99]⟩] 9)) w7.heap.size 9 #[.string ⟨#[97, 98, 99]⟩] := Box.made _ _ _
      have hN := wtext_any v0.heap.size v0.heap.size (some ⟨w7.heap.size, 0, none⟩) [⟨#[97, 98, 99]⟩] 1 _ _ hW3 (Src.of_box hW3 hx (by decide) (by decide)) (by decide) (by decide)
      have HB3 := Lib.hid (HB0.out.trans ((Below.refl v0.heap.size w7).alloc (by omega) (.cells #[.string ⟨#[97, 98, 99]⟩] 9)))
      have HW3 := Lib.hid hW3
      clear hW3 hx HB0 HW0
      refine hN.mono ?_
      clear hN
      rintro e w8 ⟨rfl, hW4, hF4⟩
      have HB8 := Lib.hid (HB3.out.trans (hF4.below HW3.out))
      have HW8 : Hid (Wr w8 v0.heap.size v0.heap.size [0, 0, 0, 3, 97, 98, 99]) := hW4
      clear hW4 hF4 HB3 HW3
      go_wp2_with fail
      refine (wbytes_any _ _ _ _ HW8.out (by decide)).mono ?_
      rintro e w9 ⟨A2, c2, rfl, hc, hown, hB⟩
      have hown1 : w9.ownsRow w8.heap.size 5 1 (.slice A2 7 c2) 7 (([0, 0, 0, 3, 97, 98, 99] : List UInt8).map bv) := by
        rcases hown with h | h
        · cases h
        · exact h
      obtain ⟨g2, cap2, hv2, hg2, _⟩ := own_form hown1 (by
        intro h
        injection h with _ h _
        cases h)
      injection hv2 with hv3 hv4 hv5
      subst hv3
      subst hv5
      have HX := Lib.hid hown1
      have HB9 := Lib.hid hB
      have HB89 := Lib.hid (HB8.out.trans (hB.mono HB8.out.size))
      have hs8 := HB8.out.size
      clear hown hown1 hB hc
      clear hv4
      go_wp2
      go_loopw [11, 49] (fun _ i wx => ∃ (k : Nat) (ys : List Value), k ≤ 7 ∧ i = .int .i64 k ∧ Hid (wx.ownsRow w8.heap.size 5 1 (.slice (some ⟨g2, 0, none⟩) 7 c2) 7 ys) ∧ Hid (w9.grownBy wx (some g2))) (fun _ i _ => 7 - (intOf i).toNat)
      case atStart => exact ⟨0, _, by omega, rfl, HX, only_refl _ _⟩
      case round =>
        obtain ⟨k, ys, hk, rfl, hM, hG⟩ := hrel
        by_cases hlt : k < 7
        · rename_i wx _ _ _ _ _ _
          have hl7 : ys.length = 7 := hM.out.1
          have c0 := hM.out.cellAt k (by omega)
          rw [List.getElem?_eq_getElem (by omega)] at c0
          have f0 := hM.out.frozenAt k
          have hst := hM.out.stored k (.int .u8 7)
          have HM2 := Lib.hid hst.1
          have HG2 := Lib.hid (only_trans hG.out hst.2)
          clear hst hM hG
          go_wp2
          go_roundw
          case rel => exact ⟨k + 1, _, by omega, by go_num, HM2, HG2⟩
          case measure => simp [intOf]; omega
        · have HB9w : Below w8.heap.size w9 wr := below_only hG.out hg2 HB9.out.size
          have HW10 := Lib.hid (HW8.out.below_size (HB9.out.trans HB9w))
          have HBx := Lib.hid (HB89.out.trans (HB9w.mono hs8))
          have HR10 := Lib.hid (HRr.out.below HBx.out hro)
          have HO10 := Lib.hid (HOr.out.below HBx.out hoo)
          have HBw := Lib.hid (HBr.out.trans (HBx.out.mono hwr))
          clear HB9w HB89 HB9 HW8 HX hM hG HB8 HBr HRr HOr HBx
          have hT : Calls Try.prog 24 #[.pointer (some ⟨r, 0, none⟩)] wr fun e w' => e = .returned (.agg ((digV l false).map bv).toArray) ∧ Rd w' r (tk 32 l false).2.1 (tk 32 l false).2.2 ∧ wr.grownBy w' (some r) := digest_any r l false wr HR10.out
          have HT := Lib.hid hT
          have hT2 : ∀ w, Rd w o l false → Calls Try.prog 24 #[.pointer (some ⟨o, 0, none⟩)] w fun e w' => e = .returned (.agg ((digV l false).map bv).toArray) ∧ Rd w' o (tk 32 l false).2.1 (tk 32 l false).2.2 ∧ w.grownBy w' (some o) := fun w h => digest_any o l false w h
          have HT2 := Lib.hid hT2
          have hdl := digV_len l false
          have hde : ∀ w, (Op.equalIn 10000 39 (.agg ((digV l false).map bv).toArray) (.agg ((digV l false).map bv).toArray)).run Try.prog w = .ok true w := fun w => by
            rw [dig_eq _ _ hdl hdl w]
            simp
          clear hT hT2 hdl
          generalize digV l false = D at *
          generalize (tk 32 l false).2 = T at *
          obtain ⟨l3, b3⟩ := T
          go_wp2_with fail
          refine (HT.out).mono ?_
          rintro e x1 ⟨rfl, hR1, hG1⟩
          have HO1 := Lib.hid (HO10.out.aside HR10.out (by omega) hG1)
          have HR1 := Lib.hid hR1
          have HW1 := Lib.hid (HW10.out.only hG1 hro)
          have HB1 := Lib.hid (HBw.out.trans (below_only hG1 hrwn HBw.out.size))
          clear hR1 hG1 HR10 HO10 HW10 HBw HT
          go_wp2_with fail
          refine (HT2.out x1 HO1.out).mono ?_
          rintro e x2 ⟨rfl, hO2, hG2⟩
          have HR2 := Lib.hid (HR1.out.only hG2 hne)
          have HO2 := Lib.hid hO2
          have HW2 := Lib.hid (HW1.out.only hG2 hoo)
          have HB2 := Lib.hid (HB1.out.trans (below_only hG2 hown' HB1.out.size))
          clear hO2 hG2 HR1 HO1 HW1 HB1 HT2
          have hN1 := num_any r l3 b3 x2 HR2.out
          have hN2 : ∀ w, Rd w o l3 b3 → _ := fun w h => num_any o l3 b3 w h
          have HN1 := Lib.hid hN1
          have HN2 := Lib.hid hN2
          clear hN1 hN2
          generalize numV l3 b3 = nv at *
          generalize (tk 8 l3 b3).2 = T at *
          obtain ⟨l4, b4⟩ := T
          have hd2 := hde x2
          go_wp2_with fail
          refine (HN1.out).mono ?_
          rintro e x3 ⟨rfl, hR3, hG3⟩
          have HO3 := Lib.hid (HO2.out.aside HR2.out (by omega) hG3)
          have HW3 := Lib.hid (HW2.out.only hG3 hro)
          have HB3 := Lib.hid (HB2.out.trans (below_only hG3 hrwn HB2.out.size))
          clear hR3 hG3 HR2 HO2 HW2 HB2 HN1 hde hd2
          go_wp2_with fail
          refine (HN2.out x3 HO3.out).mono ?_
          rintro e x4 ⟨rfl, hO4, hG4⟩
          have HW4 := Lib.hid (HW3.out.only hG4 hoo)
          have HB4 := Lib.hid (HB3.out.trans (below_only hG4 hown' HB3.out.size))
          have hWb := Lib.hid (wbytes_any _ _ _ _ HW4.out (by decide))
          clear hO4 hG4 HO3 HW3 HB3 HN2
          go_wp2_with fail
          refine (hWb.out).mono ?_
          rintro e w7 ⟨A2, c2, rfl, hc, hown, hB⟩
          have hown1 : w7.ownsRow x4.heap.size 5 1 (.slice A2 7 c2) 7 (([0, 0, 0, 3, 97, 98, 99] : List UInt8).map bv) := by
            rcases hown with h | h
            · cases h
            · exact h
          have hconv : (convert 27 9 (.slice A2 7 c2)).run Try.prog w7 = .ok (.string ⟨#[0, 0, 0, 3, 97, 98, 99]⟩) w7 :=
            convert_sees (P := Try.prog) 27 5 9 Try.underlying27 Try.underlying5 Try.underlying9 (Sees.of_own hown1) c2
          have HB7 := Lib.hid (HB4.out.trans (hB.mono HB4.out.size))
          clear hc hown hown1 hB HB4 HW4 hWb
          go_wp2
          go_ret
          exact ⟨rfl, HB7.out⟩
end Go.Proofs.Ytkafpdfjdnklaaa
