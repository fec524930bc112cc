/-
  TreeHalves, the walk: for every input the law returns true, and nothing that was there is turned.
-/
import Derived.Test.YtkpekglpknbodaaDoorTAlive
import Derived.Test.YtkpekglpknbodaaDoorTRAbove
namespace Go.Proofs.YtkpekglpknbodaaDoor
open Go.RowKit

attribute [local go_sem ↓] ldDigest_def stDigest_def bsAll_def

set_option maxRecDepth 100000 in
set_option maxHeartbeats 1000000 in
theorem halves_walk (ds : List (List UInt8)) (A : Option Addr) (c : Nat) (x : Int) (w : World) (hD : Digs w w.heap.size A ds) (hcap : ds.length ≤ c) (hR : Roots w) :
    Calls Tryd.prog 7 #[.slice A ds.length c, .int .i64 x] w fun e w' => e = .returned (.bool true) ∧ Below w.heap.size w w' := by
  have HAL := Lib.hid (alive_any w hR)
  have HD := Lib.hid hD
  have HR := Lib.hid hR
  clear hD hR
  go_enter Tryd.func7, Tryd.ntmps7
  by_cases h1 : x < 0
  · have h1' : decide (x < 0) = true := decide_eq_true h1
    go_wp2_with (go_at_call 9; refine (HAL.out).mono ?_; rintro e w2 ⟨rfl, hb2⟩; have HF2 := Lib.hid hb2; clear hb2)
    go_ret
    exact ⟨rfl, HF2.out⟩
  have h1' : decide (x < 0) = false := decide_eq_false h1
  by_cases h2 : 5 < x
  · have h2' : decide (5 < x) = true := decide_eq_true h2
    go_wp2_with (go_at_call 9; refine (HAL.out).mono ?_; rintro e w2 ⟨rfl, hb2⟩; have HF2 := Lib.hid hb2; clear hb2)
    go_ret
    exact ⟨rfl, HF2.out⟩
  have h2' : decide (5 < x) = false := decide_eq_false h2
  obtain ⟨k, rfl⟩ : ∃ k : Nat, x = (k : Int) := ⟨x.toNat, by omega⟩
  have hk5 : k ≤ 5 := by omega
  obtain ⟨n, hn⟩ : ∃ n : Nat, n = 2 ^ k := ⟨_, rfl⟩
  have hn1 : 1 ≤ n := by rw [hn]; exact Nat.one_le_two_pow
  have hn32 : n ≤ 32 := by rw [hn]; exact Nat.pow_le_pow_right (by decide) hk5 (n := 2)
  have hnI : (2 : Int) ^ k = (n : Int) := by rw [hn]; simp
  have e1 : wrap64 (2 * 2 ^ k) = 2 * (n : Int) := by
    rw [hnI]
    exact IntWalk.wrap64_in _ (by omega)
  have e2 : wrap64 (2 ^ k) = (n : Int) := by
    rw [hnI]
    exact IntWalk.wrap64_in _ (by omega)
  have e3 : wrap64 (2 * (n : Int)) = 2 * (n : Int) := IntWalk.wrap64_in _ (by omega)
  have HN := Lib.hid hn
  clear hn hnI
  go_upto_region 3 with (go_at_call 9; refine (HAL.out).mono ?_; rintro e w2 ⟨rfl, hb2⟩; have HF2 := Lib.hid hb2; clear hb2)
  by_cases h3 : (ds.length : Int) < 2 * (n : Int)
  · have h3' : decide ((ds.length : Int) < 2 * (n : Int)) = true := decide_eq_true h3
    go_wp2
    go_ret
    exact ⟨rfl, HF2.out⟩
  have h3' : decide ((ds.length : Int) < 2 * (n : Int)) = false := decide_eq_false h3
  have hsl := digs_upto (A := A) (n := ds.length) (c := c) (i := 2 * n) (by omega)
  rw [show ((2 * n : Nat) : Int) = 2 * (n : Int) by omega] at hsl
  go_upto_region 7 with fail
  clear hsl
  simp only [e1, e2]
  obtain ⟨g0, o0, rfl, hg0, _⟩ := HD.out.some_ (by omega)
  have hDl := HD.out.take (2 * n)
  have hll : (ds.take (2 * n)).length = 2 * n := by rw [List.length_take]; omega
  generalize ds.take (2 * n) = l at *
  have hD1 := hDl.take n
  have hD2 := hDl.drop (k := n) (cap := c) (by omega) (by omega)
  have hl1 : (l.take n).length = n := by rw [List.length_take]; omega
  have hl2 : (l.drop n).length = n := by rw [List.length_drop]; omega
  have sl1 := digs_upto (A := some ⟨g0, o0, none⟩) (n := 2 * n) (c := c) (i := n) (by omega)
  have sl2 := digs_from (A := some ⟨g0, o0, none⟩) (n := 2 * n) (c := c) (m := n) (by omega)
  generalize (if c = n then (some ⟨g0, o0, none⟩ : Option Addr) else (some ⟨g0, o0, none⟩ : Option Addr).map (·.add (n * 32))) = A2 at *
  have hrt : rootT l = pT (rootT (l.take n)) (rootT (l.drop n)) := by
    conv => lhs; rw [← List.take_append_drop n l]
    exact top_halves pT (shaOf []) k _ _ (by rw [hl1, HN.out]) (by rw [hl2, HN.out])
  have HC0 : Hid (∀ w', Below w.heap.size w w' → Calls Tryd.prog 14 #[.slice (some ⟨g0, o0, none⟩) (2 * n) c] w' fun e w'' => e = .returned (.agg ((rootT l).map bv).toArray) ∧ Below w'.heap.size w' w'') := fun w' hb => by
    have h := root_any l (some ⟨g0, o0, none⟩) c w' (hDl.far hb) (by omega) (HR.out.of_below hb)
    rw [hll] at h
    exact h
  have HC1 : Hid (∀ w', Below w.heap.size w w' → Calls Tryd.prog 14 #[.slice (some ⟨g0, o0, none⟩) n c] w' fun e w'' => e = .returned (.agg ((rootT (l.take n)).map bv).toArray) ∧ Below w'.heap.size w' w'') := fun w' hb => by
    have h := root_any (l.take n) (some ⟨g0, o0, none⟩) c w' (hD1.far hb) (by omega) (HR.out.of_below hb)
    rw [hl1] at h
    exact h
  have HC2 : Hid (∀ w', Below w.heap.size w w' → Calls Tryd.prog 14 #[.slice A2 (2 * n - n) (c - n)] w' fun e w'' => e = .returned (.agg ((rootT (l.drop n)).map bv).toArray) ∧ Below w'.heap.size w' w'') := fun w' hb => by
    have h := root_any (l.drop n) A2 (c - n) w' (hD2.far hb) (by omega) (HR.out.of_below hb)
    rw [hl2] at h
    rw [show 2 * n - n = n by omega]
    exact h
  have HCP : Hid (∀ w', Calls Tryd.prog 19 #[.agg ((rootT (l.take n)).map bv).toArray, .agg ((rootT (l.drop n)).map bv).toArray] w' fun e w'' => e = .returned (.agg ((rootT l).map bv).toArray) ∧ Below w'.heap.size w' w'') := fun w' => by
    rw [hrt]
    exact rpair_any _ _ hD1.all.root hD2.all.root w'
  have hx := hDl.all.get (k := 0) (by omega) []
  have HLD : Hid (∀ w', Below w.heap.size w w' → (ldDigest (.pointer (some ⟨g0, o0, none⟩))).run Tryd.prog w' = .ok (.agg ((l.getD 0 []).map bv).toArray) w') := fun w' hb => by
    have h := (hDl.far hb).load (k := 0) (by omega)
    rw [Nat.zero_mul, Nat.add_zero] at h
    exact h
  have hr0 := hDl.all.root
  generalize l.getD 0 [] = y at *
  have HC3 : Hid (∀ w', Below w.heap.size w w' → Calls Tryd.prog 14 #[.slice (some ⟨w'.heap.size, 0, none⟩) 1 1] (w'.alloc (.cells (y.map bv).toArray 29)) fun e w'' => e = .returned (.agg (y.map bv).toArray) ∧ Below w'.heap.size w' w'') := fun w' hb => by
    have hF : Below w'.heap.size w' (w'.alloc (.cells (y.map bv).toArray 29)) := (Below.refl _ _).alloc (Nat.le_refl _) _
    have h := root_any [y] (some ⟨w'.heap.size, 0, none⟩) 1 _ (digs_one w' hx) (by simp) (HR.out.of_below (hb.trans (hF.mono hb.size)))
    have e : rootT [y] = y := top_one pT _ (by simp)
    rw [e] at h
    exact h.mono fun e w'' ⟨he, hb2⟩ => ⟨he, hF.trans (hb2.mono hF.size)⟩
  have hbs := build_one y hx
  generalize rootT (l.take n) = d1 at *
  generalize rootT (l.drop n) = d2 at *
  generalize rootT l = d0 at *
  have hde0 : ∀ w, (Op.equalIn 10000 29 (.agg (d0.map bv).toArray) (.agg (d0.map bv).toArray)).run Tryd.prog w = .ok true w := fun w => by
    rw [dig_eq _ _ hr0 hr0 w]
    simp
  have hde1 : ∀ w, (Op.equalIn 10000 29 (.agg (y.map bv).toArray) (.agg (y.map bv).toArray)).run Tryd.prog w = .ok true w := fun w => by
    rw [dig_eq _ _ hx hx w]
    simp
  have HS := Lib.hid HF2.out.drew
  have i1 : (n : Int) ≤ (c : Int) := by omega
  have i2 : (n : Int) ≤ 2 * (n : Int) := by omega
  have i3 : (0 : Int) ≤ (n : Int) := by omega
  have i4 : (0 : Int) < ((2 * n : Nat) : Int) := by omega
  have i5 : 0 < 2 * n := by omega
  have i6 : (0 : Int) < 2 * (n : Int) := by omega
  clear hD1 hD2 hDl hll hl1 hl2 hrt hr0 hx e1 e2 e3
  have lA := HLD.out _ HS.out
  have lB := fun o => HLD.out _ (HS.out.alloc HS.out.size o)
  go_region_with (first
    | (go_at_call 14; (first | (with_reducible refine (HC0.out _ HS.out).mono ?_) | (with_reducible refine (HC1.out _ HS.out).mono ?_) | (with_reducible refine (HC2.out _ HS.out).mono ?_) | (with_reducible refine (HC3.out _ HS.out).mono ?_)); rintro e w7 ⟨rfl, hb7⟩; (first | (with_reducible replace HS := Lib.hid (HS.out.trans (hb7.mono HS.out.size))) | (replace HS := Lib.hid ((HS.out.alloc HS.out.size _).trans (hb7.mono (HS.out.alloc HS.out.size _).size)))); clear hb7; replace lA := HLD.out _ HS.out; replace lB := fun o => HLD.out _ (HS.out.alloc HS.out.size o))
    | (go_at_call 19; (with_reducible refine (HCP.out _).mono ?_); rintro e w7 ⟨rfl, hb7⟩; (first | (with_reducible replace HS := Lib.hid (HS.out.trans (hb7.mono HS.out.size))) | (replace HS := Lib.hid ((HS.out.alloc HS.out.size _).trans (hb7.mono (HS.out.alloc HS.out.size _).size)))); clear hb7; replace lA := HLD.out _ HS.out; replace lB := fun o => HLD.out _ (HS.out.alloc HS.out.size o)))
  all_goals
    clear lA lB hbs hde0 hde1
    go_wp2
    go_ret
    exact ⟨rfl, HS.out⟩
end Go.Proofs.YtkpekglpknbodaaDoor
