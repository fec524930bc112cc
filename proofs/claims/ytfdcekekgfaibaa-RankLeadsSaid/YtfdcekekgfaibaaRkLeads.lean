/-
  RankLeads: the walk of the law.
-/
import Derived.Test.YtfdcekekgfaibaaRkMoves
import Derived.Test.YtfdcekekgfaibaaKB
import Derived.Deep.Draws
import Derived.Deep.Cut
namespace Go.Proofs.Ytfdcekekgfaibaa
open Go.RowKit

set_option maxRecDepth 100000 in
theorem nF_lt (n : Int) : nF n < 2 ^ 64 := by
  have h : (Lit.float .f64 (nF n)).wf = true := floatOfInt_wf .f64 n
  simpa [Lit.wf] using h
set_option maxRecDepth 100000 in
theorem next_place {x y h i : Nat} (hx : x < 2 ^ 64) (hy : y < 2 ^ 64) (h1 : whF 1 x = some h) (h2 : whF 0 y = some i) (w : World) : Calls Try.prog 13 #[.complex .f64 x y] w fun e w' => e = .returned (.complex .f64 (nF (h : Int)) (nF ((i : Int) + 1))) ∧ w = w' := by
  have hu := unit_pos
  obtain ⟨a1, a2, a3⟩ := whF_some h1
  obtain ⟨b1, b2, b3⟩ := whF_some h2
  have ex : x = nF (h : Int) := valF_inj hx (nF_lt _) a3 (nF_small h (by omega)) (Int.ne_of_gt (Int.mul_pos (by omega) hu))
  have ey : dbl.add y (nF 1) = some (nF ((i : Int) + 1)) := by
    by_cases hi : i = 0
    · subst hi
      rcases valF_nought hy (by rw [b3]; simp) with rfl | rfl
      · have := nF_add 0 (by omega)
        rw [show ((0 : Nat) : Int) = 0 from rfl, nF_0] at this
        exact this
      · decide +kernel
    · rw [valF_inj hy (nF_lt _) b3 (nF_small i (by omega)) (Int.ne_of_gt (Int.mul_pos (by omega) hu))]
      exact nF_add i (by omega)
  rw [ex]
  exact next_any _ _ _ _ (nF_zero h (by omega)) ey w

/-- Who led in k rounds. -/
def ledB (s m k j : Nat) : Bool := (List.range k).any fun t => (s + t) % m == j
def ledL (s m k : Nat) : Array Value := ((List.range m).map fun j => Value.bool (ledB s m k j)).toArray
set_option maxRecDepth 100000 in
theorem led_get (s m k j : Nat) (h : j < m) : (ledL s m k)[j]? = some (.bool (ledB s m k j)) := by
  unfold ledL
  rw [List.getElem?_toArray, List.getElem?_map, List.getElem?_range h]
  rfl
set_option maxRecDepth 100000 in
theorem led_size (s m k : Nat) : (ledL s m k).size = m := by
  unfold ledL
  simp
set_option maxRecDepth 100000 in
theorem led_not (s m k : Nat) (h : k < m) : ledB s m k ((s + k) % m) = false := by
  unfold ledB
  rw [List.any_eq_false]
  intro t ht
  have ht' : t < k := by simpa using ht
  intro e
  have e' : (s + k) % m = (s + t) % m := by
    have : (s + t) % m = (s + k) % m := by simpa using e
    exact this.symm
  have h0 := Nat.sub_mod_eq_zero_of_mod_eq e'
  rw [show s + k - (s + t) = k - t from by omega, Nat.mod_eq_of_lt (by omega)] at h0
  omega
set_option maxRecDepth 100000 in
theorem led_more (s m k j : Nat) : ledB s m (k + 1) j = (ledB s m k j || (s + k) % m == j) := by
  unfold ledB
  rw [List.range_succ, List.any_append]
  simp
set_option maxRecDepth 100000 in
theorem led_put (s m k : Nat) (h : k < m) : (ledL s m k).setIfInBounds ((s + k) % m) (.bool true) = ledL s m (k + 1) := by
  have hm : (s + k) % m < m := Nat.mod_lt _ (by omega)
  apply Array.ext_getElem?
  intro j
  by_cases hj : j < m
  · rw [led_get _ _ _ _ hj, led_more]
    by_cases e : (s + k) % m = j
    · rw [Array.getElem?_setIfInBounds, if_pos e, if_pos (by rw [led_size]; omega)]
      simp [e]
    · rw [Array.getElem?_setIfInBounds, if_neg e, led_get _ _ _ _ hj]
      simp [e]
  · rw [Array.getElem?_eq_none (by simp [led_size]; omega), Array.getElem?_eq_none (by simp [led_size]; omega)]
set_option maxRecDepth 100000 in
theorem led_none (s m : Nat) : ledL s m 0 = Array.replicate m (Value.bool false) := by
  apply Array.ext_getElem?
  intro j
  by_cases hj : j < m
  · rw [led_get _ _ _ _ hj]
    simp [ledB, hj]
  · rw [Array.getElem?_eq_none (by rw [led_size]; omega), Array.getElem?_eq_none (by simp; omega)]
structure LedW (s m k : Nat) (w0 w : World) : Prop where
  row : Box w w0.heap.size 4 (ledL s m k)
  far : Below w0.heap.size w0 w
set_option maxRecDepth 100000 in
theorem bool_info : (Try.prog.info? 4).map (fun i => (i.zero, i.size, i.bytes)) = some (some (.bool false), 1, 1) := by kernel_rfl
set_option maxRecDepth 100000 in
theorem make_bools (n : Nat) (hn : n ≤ 20) (w : World) :
    (Instr.makeSlice 36 (.int .i64 (n : Int)) (.int .i64 (n : Int))).run Try.prog w = .ok (.slice (some ⟨w.heap.size, 0, none⟩) n n) (w.alloc (.cells (Array.replicate n (Value.bool false)) 4)) := by
  have hi := bool_info
  cases hx : Try.prog.info? 4 with
  | none => rw [hx] at hi; cases hi
  | some i0 =>
    rw [hx] at hi
    simp only [Option.map_some, Option.some.injEq, Prod.mk.injEq] at hi
    obtain ⟨hz0, hz1, hz2⟩ := hi
    have hr := run_make (P := Try.prog) w 36 4 i0 _ Try.underlying36 hx hz0 .i64 .i64 n n (by omega) (Int.le_refl _) (by rw [hz2]; omega) (by omega)
    rw [hr, Int.toNat_natCast, hz1, Nat.mul_one]
    congr 3
    apply Array.ext_getElem?
    intro j
    by_cases hj : j < n
    · simp [madeCells, Value.cells, hj, Nat.mod_one]
    · simp [madeCells, Value.cells, hj]
/-- A place and its float parts. -/
structure PlaceF (a b h i : Nat) : Prop where
  la : a < 2 ^ 64
  lb : b < 2 ^ 64
  hh : whF 1 a = some h
  hi : whF 0 b = some i
set_option maxRecDepth 100000 in
theorem PlaceF.lead {a b h i m : Nat} (H : PlaceF a b h i) (hm : 1 ≤ m) : leadF (m : Int) a b = (((h + i) % m : Nat) : Int) := by
  obtain ⟨e0, e1, e2⟩ := hgt_of H.hh H.hi
  unfold leadF
  rw [if_neg (by omega), e1, e2]
  simp
set_option maxRecDepth 100000 in
theorem PlaceF.next {a b h i : Nat} (H : PlaceF a b h i) (hi : i ≤ 1000) : PlaceF (nF (h : Int)) (nF ((i : Int) + 1)) h (i + 1) := by
  have h1 := (whF_some H.hh).1
  have h2 := (whF_some H.hh).2.1
  refine ⟨nF_lt _, nF_lt _, ?_, ?_⟩
  · rw [whF_nF, if_pos ⟨by omega, by omega⟩]
    rfl
  · rw [whF_nF, if_pos ⟨by omega, by omega⟩]
    congr 1

set_option maxRecDepth 100000 in
set_option maxHeartbeats 1600000 in
theorem leads_walk (n : Int) (x y : Nat) (base : Int) (w : World) (hx : x < 2 ^ 64) (hy : y < 2 ^ 64) : Calls Try.prog 6 #[.int .i64 n, .float .f64 x, .float .f64 y, .int .i64 base] w fun e w' => e = .returned (.bool true) ∧ Below w.heap.size w w' := by
  have HL := Lib.hid (lead_any n x y)
  have HP := Lib.hid (pat_any base x y)
  have HQ := Lib.hid (rpat_any base x y)
  have HS := Lib.hid (parts_any x y)
  by_cases hg : goodF x y = true
  · obtain ⟨h, i, h1, h2⟩ := good_wh hg
    obtain ⟨e0, e1, e2⟩ := hgt_of h1 h2
    have b1 := (whF_some h1).2.1
    have b2 := (whF_some h2).2.1
    by_cases hn : 1 ≤ n ∧ n ≤ 20 ∧ i ≤ 500
    · obtain ⟨m, rfl⟩ : ∃ m : Nat, n = (m : Int) := ⟨n.toNat, by omega⟩
      have el : leadF (m : Int) x y = (((h + i) % m : Nat) : Int) := by
        unfold leadF
        rw [if_neg (by omega), e1, e2]
        simp
      rw [el] at HL
      rw [e0, e1, e2] at HS
      have hm : (h + i) % m < m := Nat.mod_lt _ (by omega)
      have hmod : ((h : Int) + (i : Int)) % (m : Int) = (((h + i) % m : Nat) : Int) := by simp
      obtain ⟨n1, n2, n3⟩ := hn
      clear el e0 e1 e2 hg
      have H1 := Lib.hid h1
      have H2 := Lib.hid h2
      have HX := Lib.hid hx
      have HY := Lib.hid hy
      clear h1 h2 hx hy
      generalize (h + i) % m = l0 at *
      generalize patF base x y = pt at *
      have hmk := make_bools m (by omega) w
      go_enter Try.func6, Try.ntmps6
      go_wp2_with (first
        | (with_reducible refine (lead_32 _).mono ?_; rintro e w' ⟨rfl, rfl⟩)
        | (with_reducible refine (pat_32 _).mono ?_; rintro e w' ⟨rfl, rfl⟩)
        | (with_reducible refine (HS.out _).mono ?_; rintro e w' ⟨rfl, rfl⟩)
        | (with_reducible refine (HL.out _).mono ?_; rintro e w' ⟨rfl, rfl⟩)
        | (with_reducible refine (HP.out _).mono ?_; rintro e w' ⟨rfl, rfl⟩)
        | (with_reducible refine (HQ.out _).mono ?_; rintro e w' ⟨rfl, rfl⟩))
      have HB : Hid (LedW (h + i) m 0 w (w.alloc (.cells (Array.replicate m (Value.bool false)) 4))) := by
        refine ⟨?_, (Below.refl _ _).alloc (Nat.le_refl _) _⟩
        rw [led_none]
        exact Box.made _ _ _
      clear hmk
      generalize w.alloc (.cells (Array.replicate m (Value.bool false)) 4) = w1 at *
      have HI : Hid (PlaceF x y h i) := Lib.hid ⟨HX.out, HY.out, H1.out, H2.out⟩
      clear HX HY H1 H2 HL HP HQ HS hm hmod
      go_loopw [9, 15, 16] (fun r c _ wr => ∃ (k a b : Nat), k ≤ m ∧ c = .int .i64 (k : Int) ∧ r = .complex .f64 a b ∧ Hid (PlaceF a b h (i + k)) ∧ Hid (LedW (h + i) m k w wr)) (fun _ c _ _ => m - (intOf c).toNat)
      case atStart => exact ⟨0, x, y, by omega, rfl, rfl, HI, HB⟩
      case round =>
        obtain ⟨k, a, b, hk, rfl, rfl, HP, HW⟩ := hrel
        by_cases hlt : k < m
        · have HL := Lib.hid (lead_any (m : Int) a b)
          rw [HP.out.lead (by omega), ← Nat.add_assoc] at HL
          have HN := Lib.hid (next_place HP.out.la HP.out.lb HP.out.hh HP.out.hi)
          have HP2 := Lib.hid (HP.out.next (by omega))
          have hL : (h + i + k) % m < m := Nat.mod_lt _ (by omega)
          have hcell : wr.cell? ⟨w.heap.size, (h + i + k) % m, none⟩ = some (.bool false) := by
            rw [HW.out.row.cell, led_get _ _ _ _ hL, led_not _ _ _ hlt]
          have hfree : wr.frozen? ⟨w.heap.size, (h + i + k) % m, none⟩ = false := HW.out.row.free _
          have HW2 : Hid (LedW (h + i) m (k + 1) w (wr.setCell ⟨w.heap.size, (h + i + k) % m, none⟩ (.bool true))) := Lib.hid ⟨by
            rw [← led_put _ _ _ hlt]
            exact HW.out.row.put _ _, HW.out.far.setCell (Nat.le_refl _) _⟩
          clear HP HW
          generalize (h + i + k) % m = l at *
          generalize nF (h : Int) = a2 at *
          generalize nF (((i + k : Nat) : Int) + 1) = b2 at *
          go_wp2_with (first
            | (with_reducible refine (HL.out _).mono ?_; rintro e w' ⟨rfl, rfl⟩)
            | (with_reducible refine (HN.out _).mono ?_; rintro e w' ⟨rfl, rfl⟩))
          go_roundw
          case rel => exact ⟨k + 1, a2, b2, by omega, by go_num, rfl, HP2, HW2⟩
          case measure => simp [intOf]; omega
        · go_wp2
          go_ret
          exact ⟨rfl, HW.out.far⟩
    · have el : ∃ L : Int, leadF n x y = L ∧ (1 ≤ n → ((h : Int) + (i : Int)) % n = L) ∧ (n < 1 → L = 0) := by
        refine ⟨_, rfl, fun hn1 => ?_, fun hn1 => ?_⟩
        · unfold leadF
          rw [if_neg (by omega), e1, e2]
        · unfold leadF
          rw [if_pos hn1]
      obtain ⟨L, l1, l2, l3⟩ := el
      rw [l1] at HL
      rw [e0, e1, e2] at HS
      clear l1 e0 e1 e2 hg
      generalize patF base x y = pt at *
      by_cases hn1 : 1 ≤ n
      · have l2' := l2 hn1
        clear l2 l3
        by_cases hn2 : n ≤ 20
        · have hi : (500 : Int) < (i : Int) := by omega
          go_enter Try.func6, Try.ntmps6
          go_wp2_with (first
            | (with_reducible refine (lead_32 _).mono ?_; rintro e w' ⟨rfl, rfl⟩)
            | (with_reducible refine (pat_32 _).mono ?_; rintro e w' ⟨rfl, rfl⟩)
            | (with_reducible refine (HS.out _).mono ?_; rintro e w' ⟨rfl, rfl⟩)
            | (with_reducible refine (HL.out _).mono ?_; rintro e w' ⟨rfl, rfl⟩)
            | (with_reducible refine (HP.out _).mono ?_; rintro e w' ⟨rfl, rfl⟩)
            | (with_reducible refine (HQ.out _).mono ?_; rintro e w' ⟨rfl, rfl⟩))
          go_ret
          exact ⟨rfl, Below.refl _ _⟩
        · go_enter Try.func6, Try.ntmps6
          go_wp2_with (first
            | (with_reducible refine (lead_32 _).mono ?_; rintro e w' ⟨rfl, rfl⟩)
            | (with_reducible refine (pat_32 _).mono ?_; rintro e w' ⟨rfl, rfl⟩)
            | (with_reducible refine (HS.out _).mono ?_; rintro e w' ⟨rfl, rfl⟩)
            | (with_reducible refine (HL.out _).mono ?_; rintro e w' ⟨rfl, rfl⟩)
            | (with_reducible refine (HP.out _).mono ?_; rintro e w' ⟨rfl, rfl⟩)
            | (with_reducible refine (HQ.out _).mono ?_; rintro e w' ⟨rfl, rfl⟩))
          go_ret
          exact ⟨rfl, Below.refl _ _⟩
      · have hL := l3 (by omega)
        subst hL
        clear l2 l3
        go_enter Try.func6, Try.ntmps6
        go_wp2_with (first
          | (with_reducible refine (lead_32 _).mono ?_; rintro e w' ⟨rfl, rfl⟩)
          | (with_reducible refine (pat_32 _).mono ?_; rintro e w' ⟨rfl, rfl⟩)
          | (with_reducible refine (HS.out _).mono ?_; rintro e w' ⟨rfl, rfl⟩)
          | (with_reducible refine (HL.out _).mono ?_; rintro e w' ⟨rfl, rfl⟩)
          | (with_reducible refine (HP.out _).mono ?_; rintro e w' ⟨rfl, rfl⟩)
          | (with_reducible refine (HQ.out _).mono ?_; rintro e w' ⟨rfl, rfl⟩))
        go_ret
        exact ⟨rfl, Below.refl _ _⟩
  · have hg' : goodF x y = false := by simpa using hg
    have el : leadF n x y = 0 := by
      unfold leadF
      rw [(bad_of hg').1, (bad_of hg').2]
      split <;> simp
    rw [el] at HL
    rw [(bad_of hg').1, (bad_of hg').2, hg'] at HS
    clear el hg hg'
    generalize patF base x y = pt at *
    go_enter Try.func6, Try.ntmps6
    go_wp2_with (first
      | (with_reducible refine (lead_32 _).mono ?_; rintro e w' ⟨rfl, rfl⟩)
      | (with_reducible refine (pat_32 _).mono ?_; rintro e w' ⟨rfl, rfl⟩)
      | (with_reducible refine (HS.out _).mono ?_; rintro e w' ⟨rfl, rfl⟩)
      | (with_reducible refine (HL.out _).mono ?_; rintro e w' ⟨rfl, rfl⟩)
      | (with_reducible refine (HP.out _).mono ?_; rintro e w' ⟨rfl, rfl⟩)
      | (with_reducible refine (HQ.out _).mono ?_; rintro e w' ⟨rfl, rfl⟩))
    go_ret
    exact ⟨rfl, Below.refl _ _⟩
end Go.Proofs.Ytfdcekekgfaibaa
