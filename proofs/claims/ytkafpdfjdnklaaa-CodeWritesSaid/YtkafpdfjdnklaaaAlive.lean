/-
  What the laws of layer 1 share: that the package does what the document tells of one example.
-/
import Derived.Test.YtkafpdfjdnklaaaRead3
import Derived.Test.YtkafpdfjdnklaaaWrite4
namespace Go.Proofs.Ytkafpdfjdnklaaa
open Go.RowKit

def aliveBytes : List UInt8 := [0, 0, 0, 0, 0, 0, 1, 2, 0, 0, 0, 2, 97, 98]

/-- A Writer that was just made. -/
theorem Wr.made (w : World) : Wr (w.alloc (.cells #[.slice none 0 0] 32)) w.heap.size w.heap.size [] :=
  ⟨Nat.le_refl _, by simp, .slice none 0 0, Box.made _ _ _, World.ownsRow_nil _ _ _ _⟩

set_option maxHeartbeats 1600000 in
theorem alive_any (w : World) : Calls Try.prog 10 #[] w fun e w' => e = .returned (.bool true) ∧ Below w.heap.size w w' := by
  go_enter Try.func10, Try.ntmps10
  go_wp2_with fail
  have hW0 := Wr.made w
  have hB0 : Below w.heap.size w (w.alloc (.cells #[.slice none 0 0] 32)) := (Below.refl _ _).alloc (Nat.le_refl _) _
  have hs0 : (w.alloc (.cells #[.slice none 0 0] 32)).heap.size = w.heap.size + 1 := by simp
  generalize w.alloc (.cells #[.slice none 0 0] 32) = w0 at *
  have hW1 := hW0.below_size ((Below.refl w0.heap.size w0).alloc (Nat.le_refl _) (.cells #[.int .i64 258] 3))
  have hx : Box (w0.alloc (.cells #[.int .i64 258] 3)) (w.heap.size + 1) 3 #[.int .i64 258] := by
    rw [← hs0]
    exact Box.made _ _ _
  have hN := wnum_any w.heap.size w.heap.size (some ⟨w.heap.size + 1, 0, none⟩) [258] 1 [] _ hW1 (Src.of_box hW1 hx (by decide) (by decide)) (by decide)
  have HB1 := Lib.hid (hB0.trans ((Below.refl w.heap.size w0).alloc (by omega) (.cells #[.int .i64 258] 3)))
  have HW1 := Lib.hid hW1
  clear hW0 hB0 hs0 hW1 hx
  refine hN.mono ?_
  clear hN
  rintro e w2 ⟨rfl, hW2, hF2⟩
  have HB2 := Lib.hid (HB1.out.trans (hF2.below HW1.out))
  have HW2 := Lib.hid hW2
  clear hW2 hF2 HB1 HW1
  go_wp2_with fail
  have hW3 := HW2.out.below_size ((Below.refl w2.heap.size w2).alloc (Nat.le_refl _) (.cells #[.string ⟨#[97, 98]⟩] 9))
  have hx : Box (w2.alloc (.cells #[.string ⟨#[97, 98]⟩] 9)) w2.heap.size 9 #[.string ⟨#[97, 98]⟩] := Box.made _ _ _
  have hN := wtext_any w.heap.size w.heap.size (some ⟨w2.heap.size, 0, none⟩) [⟨#[97, 98]⟩] 1 _ _ hW3 (Src.of_box hW3 hx (by decide) (by decide)) (by decide) (by decide)
  have HB3 := Lib.hid (HB2.out.trans ((Below.refl w.heap.size w2).alloc HB2.out.size (.cells #[.string ⟨#[97, 98]⟩] 9)))
  have HW3 := Lib.hid hW3
  clear hW3 hx HB2 HW2
  refine hN.mono ?_
  clear hN
  rintro e w4 ⟨rfl, hW4, hF4⟩
  have HB4 := Lib.hid (HB3.out.trans (hF4.below HW3.out))
  have HW4 : Hid (Wr w4 w.heap.size w.heap.size aliveBytes) := hW4
  clear hW4 hF4 HB3 HW3
  go_wp2_with fail
  refine (wbytes_any _ _ _ _ HW4.out (by decide)).mono ?_
  rintro e w5 ⟨A, c, rfl, hc, hown, hB⟩
  have hown1 : w5.ownsRow w4.heap.size 5 1 (.slice A aliveBytes.length c) aliveBytes.length (aliveBytes.map bv) := by
    rcases hown with h | h
    · cases h
    · exact h
  have HS := Lib.hid (Sees.of_own hown1)
  have HB5 := Lib.hid (HB4.out.trans (hB.mono HB4.out.size))
  have HW5 := Lib.hid (HW4.out.below_size hB)
  clear hc hown hown1 hB HB4 HW4
  go_wp2_with fail
  refine (read_any w5.heap.size A aliveBytes c w5 HS.out (Nat.le_refl _) (by decide)).mono ?_
  rintro e w6 ⟨r, rfl, hR, hr, hB⟩
  have HB5s := HB5.out.size
  have HB6 := Lib.hid (HB5.out.trans (hB.mono HB5.out.size))
  have HW6 := HW5.out.below_size hB
  have HR6 := Lib.hid hR
  have hWb := Lib.hid (wbytes_any _ _ _ _ HW6 (by decide))
  clear hR hB HB5 HW5 HS HW6
  go_wp2_with fail
  refine (hWb.out).mono ?_
  rintro e w7 ⟨A2, c2, rfl, hc, hown, hB⟩
  have hown1 : w7.ownsRow w6.heap.size 5 1 (.slice A2 aliveBytes.length c2) aliveBytes.length (aliveBytes.map bv) := by
    rcases hown with h | h
    · cases h
    · exact h
  have hconv : (convert 27 9 (.slice A2 aliveBytes.length c2)).run Try.prog w7 = .ok (.string ⟨#[0, 0, 0, 0, 0, 0, 1, 2, 0, 0, 0, 2, 97, 98]⟩) w7 :=
    convert_sees (P := Try.prog) 27 5 9 Try.underlying27 Try.underlying5 Try.underlying9 (Sees.of_own hown1) c2
  have HB7 := Lib.hid (HB6.out.trans (hB.mono HB6.out.size))
  have HR7 := HR6.out.below hB HR6.out.lt
  have hNum := num_any r aliveBytes false w7 HR7
  rw [show numV aliveBytes false = 258 from by unfold numV wrap64; decide, show tk 8 aliveBytes false = ([0, 0, 0, 0, 0, 0, 1, 2], [0, 0, 0, 2, 97, 98], false) from by decide] at hNum
  have hs5 := HB5s
  have hrge : w.heap.size ≤ r := Nat.le_trans hs5 hr
  have HNum := Lib.hid hNum
  clear hc hown hown1 hB HB6 HR6 HR7 hWb hr hNum
  go_wp2_with fail
  refine (HNum.out).mono ?_
  rintro e w8 ⟨rfl, hR, hG⟩
  have hT := text_any r 2 _ _ w8 hR
  rw [show txtV 2 [0, 0, 0, 2, 97, 98] false = ([97, 98], [], false) from by decide] at hT
  have hT2 : Calls Try.prog 22 #[.pointer (some ⟨r, 0, none⟩), .int .i64 2] w8 fun e w' => e = .returned (.string ⟨#[97, 98]⟩) ∧ Rd w' r [] false ∧ w8.grownBy w' (some r) := hT
  have HT := Lib.hid hT2
  have HB8 := Lib.hid (HB7.out.trans (below_only hG (by omega) HB7.out.size))
  clear hT hT2 hR hG HB7 HNum hconv
  go_wp2_with fail
  refine (HT.out).mono ?_
  rintro e w9 ⟨rfl, hR, hG⟩
  have HE := Lib.hid (end_any r _ _ w9 hR)
  have HB9 := Lib.hid (HB8.out.trans (below_only hG (by omega) HB8.out.size))
  clear hR hG HB8 HT
  go_wp2_with fail
  refine (HE.out).mono ?_
  rintro e w10 ⟨rfl, rfl⟩
  go_wp2
  go_ret
  exact ⟨rfl, HB9.out⟩

end Go.Proofs.Ytkafpdfjdnklaaa
