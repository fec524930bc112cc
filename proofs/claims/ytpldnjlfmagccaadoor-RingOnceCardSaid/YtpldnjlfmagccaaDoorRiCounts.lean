/-
  RingCounts: numbers are taken one behind the other, each once, till none is left.
-/
import Derived.Test.YtpldnjlfmagccaaDoorRiAlive
import Derived.Test.YtpldnjlfmagccaaDoorRiKeys
namespace Go.Proofs.YtpldnjlfmagccaaDoor
open Go.RowKit Go.Maps

attribute [local go_sem ↓] ldKey_def ldDigest_def

/-- A ring of one tree. -/
def OneW (B rb mb : Nat) (seed : List UInt8) (h x : Nat) (w : World) : Prop := ∃ e, RingW w B rb mb 1 [e] ∧ e.seed = seed ∧ e.h = h ∧ e.next = x
set_option maxRecDepth 100000 in
theorem one_is {e : Ent} {seed : List UInt8} {h : Nat} (h1 : e.seed = seed) (h2 : e.h = h) : e.is (keyT seed h) (h : Int) = true := by
  refine Ent.is_iff.2 ⟨?_, by rw [h2]⟩
  unfold Ent.root
  rw [h1, h2]
set_option maxRecDepth 100000 in
theorem upd_one {e e' : Ent} (h : e'.sb = e.sb) : upd [e] e' = [e'] := by simp [upd, h]
set_option maxRecDepth 100000 in
theorem OneW.call {B rb mb h x : Nat} {seed : List UInt8} {w w' : World} (s : OneW B rb mb seed h x w) (hb : Below w.heap.size w w') : OneW B rb mb seed h x w' := by
  obtain ⟨e, h1, h2⟩ := s
  exact ⟨e, h1.call hb, h2⟩
set_option maxRecDepth 100000 in
theorem one_take {B rb mb h x : Nat} {seed : List UInt8} {w : World} (s : OneW B rb mb seed h x w) (hx : x < 2 ^ h) :
    Calls Tryd.prog 12 #[.pointer (some ⟨rb, 0, none⟩), .agg (keyV (keyT seed h) (h : Int))] w fun e' w' => e' = .returned (.tuple #[.int .i64 (x : Int), .int .i64 0]) ∧ OneW B rb mb seed h (x + 1) w' ∧ RFrame B w w' := by
  obtain ⟨e, h1, rfl, rfl, rfl⟩ := s
  refine (take_any h1 (List.mem_singleton.2 rfl) (one_is rfl rfl) hx).mono ?_
  rintro e' w' ⟨rfl, h2, h3⟩
  rw [upd_one (e := e) (e' := e.taken) rfl] at h2
  exact ⟨rfl, ⟨_, h2, rfl, rfl, rfl⟩, h3⟩
set_option maxRecDepth 100000 in
theorem one_spent {B rb mb h x : Nat} {seed : List UInt8} {w : World} (s : OneW B rb mb seed h x w) (hx : x = 2 ^ h) :
    Calls Tryd.prog 12 #[.pointer (some ⟨rb, 0, none⟩), .agg (keyV (keyT seed h) (h : Int))] w fun e' w' => e' = .returned (.tuple #[.int .i64 0, .int .i64 6]) ∧ Below w.heap.size w w' := by
  obtain ⟨e, h1, rfl, rfl, rfl⟩ := s
  exact take_spent h1 (List.mem_singleton.2 rfl) (one_is rfl rfl) hx
set_option maxRecDepth 100000 in
theorem one_left {B rb mb h x : Nat} {seed : List UInt8} {w : World} (s : OneW B rb mb seed h x w) :
    Calls Tryd.prog 17 #[.pointer (some ⟨rb, 0, none⟩), .agg (keyV (keyT seed h) (h : Int))] w fun e' w' => e' = .returned (.int .i64 ((2 ^ h - x : Nat) : Int)) ∧ Below w.heap.size w w' := by
  obtain ⟨e, h1, rfl, rfl, rfl⟩ := s
  exact rleft_any h1 (List.mem_singleton.2 rfl) (one_is rfl rfl)
set_option maxRecDepth 100000 in
theorem one_add {B rb mb h : Nat} {seed : List UInt8} {w : World} (hR : RingW w B rb mb 0 []) (hs : seed.length = 32) (hh : h ≤ 6) (hT : Roots w) (hB : B ≤ w.heap.size) :
    Calls Tryd.prog 11 #[.pointer (some ⟨rb, 0, none⟩), .agg (seed.map bv).toArray, .int .i64 (h : Int)] w fun e' w' => e' = .returned (.tuple #[.agg (keyV (keyT seed h) (h : Int)), .int .i64 0]) ∧ OneW B rb mb seed h 0 w' ∧ RFrame B w w' := by
  refine (radd_any hR seed hs h hh hT (fun x hx => by cases hx) (by decide) hB).mono ?_
  rintro e' w' ⟨rfl, ⟨sb, ob, tb, gb, h2⟩, h3⟩
  exact ⟨rfl, ⟨_, h2, rfl, rfl, rfl⟩, h3⟩
set_option maxRecDepth 100000 in
theorem one_other {B rb mb h x : Nat} {seed : List UInt8} {w : World} (s : OneW B rb mb seed h x w) (hs : seed.length = 32) (hh : h ≤ 6) (hT : Roots w) :
    Calls Tryd.prog 11 #[.pointer (some ⟨rb, 0, none⟩), .agg (seed.map bv).toArray, .int .i64 (h : Int)] w fun e' w' => e' = .returned (.tuple #[.agg zkey, .int .i64 9]) ∧ Below w.heap.size w w' := by
  obtain ⟨e, h1, rfl, rfl, rfl⟩ := s
  exact radd_other h1 e.seed hs e.h hh hT (List.mem_singleton.2 rfl) (one_is rfl rfl)
set_option maxRecDepth 100000 in
theorem one_keys {B rb mb h x : Nat} {seed : List UInt8} {w : World} (s : OneW B rb mb seed h x w) :
    Calls Tryd.prog 18 #[.pointer (some ⟨rb, 0, none⟩)] w fun e' w' => (∃ A c, e' = .returned (.slice A 1 c)) ∧ Below w.heap.size w w' := by
  obtain ⟨e, h1, rfl, rfl, rfl⟩ := s
  refine (rkeys_any h1 (by simp)).mono ?_
  rintro e' w' ⟨xs, v, rfl, hk, ho, hb⟩
  have hl := hk.length h1.keys
  obtain ⟨A, c, rfl⟩ := own_slice_s ho
  exact ⟨⟨A, c, by rw [hl]; rfl⟩, hb⟩

set_option maxRecDepth 100000 in
theorem counts_a (seed : List UInt8) (height takes : Int) (hd1 : height < 0) (w : World) (hR : Roots w) : Calls Tryd.prog 5 #[.agg (seed.map bv).toArray, .int .i64 height, .int .i64 takes] w fun e w' => e = .returned (.bool true) ∧ Below w.heap.size w w' := by
  have HF : Hid (Below w.heap.size w (w.alloc (.cells (seed.map bv).toArray 30))) := (Below.refl _ _).alloc (Nat.le_refl _) _
  have HA := Lib.hid (rialive_any _ (hR.of_below HF.out))
  have d1 : decide (height < 0) = true := by simpa using hd1
  clear hR
  go_enter Tryd.func5, Tryd.ntmps5
  go_wp2_with (go_at_call 7; (with_reducible refine (HA.out).mono ?_); rintro e w2 ⟨rfl, hb⟩; have H2 := Lib.hid hb; clear hb)
  go_ret
  exact ⟨rfl, HF.out.trans (H2.out.mono HF.out.size)⟩
set_option maxRecDepth 100000 in
theorem counts_b (seed : List UInt8) (height takes : Int) (hd2 : 2 < height) (w : World) (hR : Roots w) : Calls Tryd.prog 5 #[.agg (seed.map bv).toArray, .int .i64 height, .int .i64 takes] w fun e w' => e = .returned (.bool true) ∧ Below w.heap.size w w' := by
  have HF : Hid (Below w.heap.size w (w.alloc (.cells (seed.map bv).toArray 30))) := (Below.refl _ _).alloc (Nat.le_refl _) _
  have HA := Lib.hid (rialive_any _ (hR.of_below HF.out))
  have d1 : decide (height < 0) = false := by
    rw [decide_eq_false_iff_not]
    omega
  have d2 : decide (2 < height) = true := by simpa using hd2
  clear hR
  go_enter Tryd.func5, Tryd.ntmps5
  go_wp2_with (go_at_call 7; (with_reducible refine (HA.out).mono ?_); rintro e w2 ⟨rfl, hb⟩; have H2 := Lib.hid hb; clear hb)
  go_ret
  exact ⟨rfl, HF.out.trans (H2.out.mono HF.out.size)⟩
set_option maxRecDepth 100000 in
theorem counts_c (seed : List UInt8) (height takes : Int) (h1 : 0 ≤ height) (h2 : height ≤ 2) (hd3 : takes < 0) (w : World) (hR : Roots w) : Calls Tryd.prog 5 #[.agg (seed.map bv).toArray, .int .i64 height, .int .i64 takes] w fun e w' => e = .returned (.bool true) ∧ Below w.heap.size w w' := by
  have HF : Hid (Below w.heap.size w (w.alloc (.cells (seed.map bv).toArray 30))) := (Below.refl _ _).alloc (Nat.le_refl _) _
  have HA := Lib.hid (rialive_any _ (hR.of_below HF.out))
  have d1 : decide (height < 0) = false := by
    rw [decide_eq_false_iff_not]
    omega
  have d2 : decide (2 < height) = false := by
    rw [decide_eq_false_iff_not]
    omega
  have d3 : decide (takes < 0) = true := by simpa using hd3
  clear hR
  go_enter Tryd.func5, Tryd.ntmps5
  go_wp2_with (go_at_call 7; (with_reducible refine (HA.out).mono ?_); rintro e w2 ⟨rfl, hb⟩; have H2 := Lib.hid hb; clear hb)
  go_ret
  exact ⟨rfl, HF.out.trans (H2.out.mono HF.out.size)⟩
set_option maxRecDepth 100000 in
theorem counts_d (seed : List UInt8) (height takes : Int) (h1 : 0 ≤ height) (h2 : height ≤ 2) (hd4 : 10 < takes) (w : World) (hR : Roots w) : Calls Tryd.prog 5 #[.agg (seed.map bv).toArray, .int .i64 height, .int .i64 takes] w fun e w' => e = .returned (.bool true) ∧ Below w.heap.size w w' := by
  have HF : Hid (Below w.heap.size w (w.alloc (.cells (seed.map bv).toArray 30))) := (Below.refl _ _).alloc (Nat.le_refl _) _
  have HA := Lib.hid (rialive_any _ (hR.of_below HF.out))
  have d1 : decide (height < 0) = false := by
    rw [decide_eq_false_iff_not]
    omega
  have d2 : decide (2 < height) = false := by
    rw [decide_eq_false_iff_not]
    omega
  have d3 : decide (takes < 0) = false := by
    rw [decide_eq_false_iff_not]
    omega
  have d4 : decide (10 < takes) = true := by simpa using hd4
  clear hR
  go_enter Tryd.func5, Tryd.ntmps5
  go_wp2_with (go_at_call 7; (with_reducible refine (HA.out).mono ?_); rintro e w2 ⟨rfl, hb⟩; have H2 := Lib.hid hb; clear hb)
  go_ret
  exact ⟨rfl, HF.out.trans (H2.out.mono HF.out.size)⟩

set_option maxRecDepth 100000 in
set_option maxHeartbeats 2000000 in
theorem counts_main (seed : List UInt8) (hs : seed.length = 32) (h : Nat) (hh : h ≤ 2) (T : Nat) (hT : T ≤ 10) (w : World) (hR : Roots w) : Calls Tryd.prog 5 #[.agg (seed.map bv).toArray, .int .i64 (h : Int), .int .i64 (T : Int)] w fun e w' => e = .returned (.bool true) ∧ Below w.heap.size w w' := by
  obtain ⟨w1, hw1⟩ : ∃ w1, w1 = w.alloc (.cells (seed.map bv).toArray 30) := ⟨_, rfl⟩
  have HS1 : Hid (Box w1 w.heap.size 30 (seed.map bv).toArray) := by
    rw [hw1]
    exact Box.made _ _ _
  have HF1 : Hid (Below w.heap.size w w1) := by
    rw [hw1]
    exact (Below.refl _ _).alloc (Nat.le_refl _) _
  have HR1 := Lib.hid (hR.of_below HF1.out)
  have HA := Lib.hid (rialive_any w1 HR1.out)
  have d1 : decide ((h : Int) < 0) = false := by
    rw [decide_eq_false_iff_not]
    omega
  have d2 : decide ((2 : Int) < (h : Int)) = false := by
    rw [decide_eq_false_iff_not]
    omega
  have d2' : decide (2 < h) = false := by
    rw [decide_eq_false_iff_not]
    omega
  have d3 : decide ((T : Int) < 0) = false := by
    rw [decide_eq_false_iff_not]
    omega
  have d4 : decide ((10 : Int) < (T : Int)) = false := by
    rw [decide_eq_false_iff_not]
    omega
  have d4' : decide (10 < T) = false := by
    rw [decide_eq_false_iff_not]
    omega
  have HSL := Lib.hid hs
  have HHH : Hid (h ≤ 6) := Lib.hid (by omega)
  have HH2 := Lib.hid hh
  have HT := Lib.hid hT
  clear hR hs hh hT
  go_enter Tryd.func5, Tryd.ntmps5
  go_upto_region 1 with fail
  change Code.wp _ _ _ _ (w.alloc (.cells (seed.map bv).toArray 30))
  rw [← hw1]
  clear hw1
  go_upto_region 5 with (go_at_call 7; (with_reducible refine (HA.out).mono ?_); rintro e w2 ⟨rfl, hb⟩; have HF2 := Lib.hid (HF1.out.trans (hb.mono HF1.out.size)); have HS2 := Lib.hid (HS1.out.below hb HS1.out.lt); have HR2 := Lib.hid (HR1.out.of_below hb); clear hb)
  clear d1 d2 d2' d3 d4 d4' HA
  have HNW := Lib.hid (ring_new w2)
  have HBL : Hid (1 < w2.heap.size) := Lib.hid HR2.out.1
  go_upto_region 6 with (go_at_call 9; (with_reducible refine (HNW.out).mono ?_); rintro e w3 ⟨rb, mb, rfl, h3, hb⟩; have H3 := Lib.hid h3; have HF3 := Lib.hid hb; clear h3 hb)
  have HS3 := Lib.hid (HS2.out.below HF3.out HS2.out.lt)
  have HAD := Lib.hid (one_add H3.out HSL.out HHH.out (HR2.out.of_below HF3.out) HF3.out.size)
  have ls := HS3.out.load_digest HSL.out
  obtain ⟨r, hr⟩ : ∃ r, r = keyT seed h := ⟨_, rfl⟩
  have HRL : Hid (r.length = 32) := by
    rw [hr]
    exact keyT_len seed h
  obtain ⟨q, hq⟩ : ∃ q, q = 2 ^ h := ⟨_, rfl⟩
  have HQ4 : Hid (q ≤ 4) := by
    rw [hq]
    exact Nat.le_trans (Nat.pow_le_pow_right (by decide) HH2.out) (by decide)
  have HTK : Hid (∀ x w', OneW w2.heap.size rb mb seed h x w' → x < q → Calls Tryd.prog 12 #[.pointer (some ⟨rb, 0, none⟩), .agg (keyV r (h : Int))] w' fun e' w'' => e' = .returned (.tuple #[.int .i64 (x : Int), .int .i64 0]) ∧ OneW w2.heap.size rb mb seed h (x + 1) w'' ∧ RFrame w2.heap.size w' w'') := by
    rw [hr, hq]
    exact fun x w' s hx => one_take s hx
  have HTS : Hid (∀ w', OneW w2.heap.size rb mb seed h q w' → Calls Tryd.prog 12 #[.pointer (some ⟨rb, 0, none⟩), .agg (keyV r (h : Int))] w' fun e' w'' => e' = .returned (.tuple #[.int .i64 0, .int .i64 6]) ∧ Below w'.heap.size w' w'') := by
    rw [hr, hq]
    exact fun w' s => one_spent s rfl
  have HLF : Hid (∀ x w', OneW w2.heap.size rb mb seed h x w' → Calls Tryd.prog 17 #[.pointer (some ⟨rb, 0, none⟩), .agg (keyV r (h : Int))] w' fun e' w'' => e' = .returned (.int .i64 ((q - x : Nat) : Int)) ∧ Below w'.heap.size w' w'') := by
    rw [hr, hq]
    exact fun x w' s => one_left s
  have hwr : IntKind.i64.wrap ((2 : Int) ^ h) = (q : Int) := by
    have e1 : ((2 : Int) ^ h) = ((2 ^ h : Nat) : Int) := by simp
    rw [e1, ← hq, IntKind.wrap_i64]
    have := HQ4.out
    omega
  rw [← hr] at HAD
  clear hr hq
  have HKZ := Lib.hid (key_same HRL.out (s := noneD) rfl (h : Int) 0)
  have HKS := Lib.hid (key_size HRL.out (h : Int))
  have HKO := Lib.hid (keyL_one r (h : Int))
  go_upto_region 7 with (first
    | (go_at_call 11; (with_reducible refine (HAD.out).mono ?_); rintro e w4 ⟨rfl, h4, hf⟩; have H4 := Lib.hid h4; have F4 := Lib.hid hf; clear h4 hf)
    | (((with_reducible show wpList _ _ _ ((⟨none, Op.store _ (.tmp 8) (.tmp 38), _, _, _, _⟩ : Oper) :: _) _ _)); refine wpList_store_box rfl 34 (.tmp 8) (.tmp 38) rfl w4.heap.size (keyV r (h : Int)) rfl rfl 34 zkey (Box.made w4 _ _) HKZ.out HKS.out HKO.out ?_; intro w5 hb5 hg5; have HK5 := Lib.hid hb5; have G5 : Hid (Below w4.heap.size w4 w5) := Lib.hid (((Below.refl w4.heap.size w4).alloc (Nat.le_refl _) (.cells zkey 34)).trans (below_only hg5 (Nat.le_refl _) (by simp))); clear hb5 hg5))
  clear ls HAD HNW
  have H5 := Lib.hid (H4.out.call G5.out)
  have F5 : Hid (RFrame w2.heap.size w3 w5) := Lib.hid (F4.out.trans (RFrame.of_below G5.out))
  have HS5 := Lib.hid (F5.out.box HS3.out (by decide) (by decide))
  have b0 : (0 : Int) ≤ (h : Int) := by omega
  have b1 : (h : Int) ≤ 64 := by have := HH2.out; omega
  go_upto_region 10 with fail
  clear hwr b0 b1
  have HFF : Hid (∀ w', RFrame w2.heap.size w5 w' → Below w.heap.size w w') := Lib.hid (fun w' f => by
    have f1 := (F5.out.trans f).below HF3.out.size
    have f2 := HF3.out.trans f1
    exact HF2.out.trans (f2.mono HF2.out.size))
  go_wp2
  go_loopw [11] (fun i wr => ∃ k : Nat, k ≤ T ∧ i = .int .i64 (k : Int) ∧ Hid (OneW w2.heap.size rb mb seed h (min k q) wr) ∧ Hid (RFrame w2.heap.size w5 wr)) (fun i _ => T - (intOf i).toNat)
  case atStart => exact ⟨0, Nat.zero_le _, rfl, by rw [Nat.zero_min]; exact H5, Lib.hid (RFrame.refl _ _)⟩
  case round =>
    obtain ⟨k, hk, rfl, HO, HFR⟩ := hrel
    have HKr := Lib.hid (HFR.out.box HK5.out (by decide) (by decide))
    have HSr := Lib.hid (HFR.out.box HS5.out (by decide) (by decide))
    by_cases hlt : k < T
    · have lk := HKr.out.load_key HRL.out
      have HK10 : Hid (k < 10) := Lib.hid (by have := HT.out; omega)
      have w87 : IntKind.i64.wrap ((q : Int) - (k : Int)) = (q : Int) - (k : Int) := by
        rw [IntKind.wrap_i64]
        have := HK10.out
        have := HQ4.out
        omega
      have w88 : IntKind.i64.wrap ((q : Int) - (k : Int) - 1) = (q : Int) - (k : Int) - 1 := by
        rw [IntKind.wrap_i64]
        have := HK10.out
        have := HQ4.out
        omega
      have wk : IntKind.i64.wrap ((k : Int) + 1) = ((k + 1 : Nat) : Int) := by
        rw [IntKind.wrap_i64]
        have := HK10.out
        omega
      by_cases hq : k < q
      · have e1 : decide ((k : Int) < (q : Int)) = true := by
          rw [decide_eq_true_iff]
          omega
        have e2 : decide ((q : Int) ≤ (k : Int)) = false := by
          rw [decide_eq_false_iff_not]
          omega
        have e3 : decide (q ≤ k) = false := by
          rw [decide_eq_false_iff_not]
          omega
        have hmx : (if (q : Int) - (k : Int) - 1 < 0 then 0 else (q : Int) - (k : Int) - 1) = ((q - (k + 1) : Nat) : Int) := by
          rw [if_neg (by omega)]
          omega
        have e1' : decide (k < q) = true := by simpa using hq
        have hmx' : max ((q : Int) - (k : Int) - 1) 0 = ((q - (k + 1) : Nat) : Int) := by omega
        have HO' : Hid (OneW w2.heap.size rb mb seed h k wr) := by
          have := HO.out
          rw [Nat.min_eq_left (by omega)] at this
          exact this
        have HM : Hid (min (k + 1) q = k + 1) := Lib.hid (Nat.min_eq_left (by omega))
        have HTK1 := Lib.hid (HTK.out k wr HO'.out hq)
        have HLE := Lib.hid hlt
        clear HO
        go_upto_region 14 with (go_at_call 12; (with_reducible refine (HTK1.out).mono ?_); rintro e w6 ⟨rfl, h6, hf⟩; have H6 := Lib.hid h6; have F6 := Lib.hid (HFR.out.trans hf); clear h6 hf)
        have HK6 := Lib.hid (F6.out.box HK5.out (by decide) (by decide))
        have lk6 := HK6.out.load_key HRL.out
        have HLF6 := Lib.hid (HLF.out (k + 1) w6 H6.out)
        clear lk
        go_wp2_with (go_at_call 17; (with_reducible refine (HLF6.out).mono ?_); rintro e w7 ⟨rfl, hb⟩; have H7 := Lib.hid (H6.out.call hb); have F7 := Lib.hid (F6.out.trans (RFrame.of_below hb)); clear hb)
        go_roundw
        case rel => exact ⟨k + 1, HLE.out, by go_num, by rw [HM.out]; exact H7, F7⟩
        case measure => have := HLE.out; simp [intOf]; omega
      · have e1 : decide ((k : Int) < (q : Int)) = false := by
          rw [decide_eq_false_iff_not]
          omega
        have e1' : decide (k < q) = false := by
          rw [decide_eq_false_iff_not]
          omega
        have e2 : decide ((q : Int) ≤ (k : Int)) = true := by
          rw [decide_eq_true_iff]
          omega
        have e3 : decide (q ≤ k) = true := by
          rw [decide_eq_true_iff]
          omega
        have hqk : q ≤ k := by omega
        have hmx : (if (q : Int) - (k : Int) - 1 < 0 then 0 else (q : Int) - (k : Int) - 1) = 0 := by
          rw [if_pos (by omega)]
        have hmx' : max ((q : Int) - (k : Int) - 1) 0 = 0 := by omega
        have HO' : Hid (OneW w2.heap.size rb mb seed h q wr) := by
          have := HO.out
          rw [Nat.min_eq_right (by omega)] at this
          exact this
        have HM : Hid (min (k + 1) q = q) := Lib.hid (Nat.min_eq_right (by omega))
        have HTK1 := Lib.hid (HTS.out wr HO'.out)
        have HLE := Lib.hid hlt
        clear HO
        go_upto_region 14 with (go_at_call 12; (with_reducible refine (HTK1.out).mono ?_); rintro e w6 ⟨rfl, hb⟩; have H6 := Lib.hid (HO'.out.call hb); have F6 := Lib.hid (HFR.out.trans (RFrame.of_below hb)); clear hb)
        have HK6 := Lib.hid (F6.out.box HK5.out (by decide) (by decide))
        have lk6 := HK6.out.load_key HRL.out
        have HLF6 : Hid (Calls Tryd.prog 17 #[.pointer (some ⟨rb, 0, none⟩), .agg (keyV r (h : Int))] w6 fun e' w'' => e' = .returned (.int .i64 0) ∧ Below w6.heap.size w6 w'') := by
          have h1 := HLF.out q w6 H6.out
          rw [Nat.sub_self] at h1
          exact h1
        clear lk
        go_wp2_with (go_at_call 17; (with_reducible refine (HLF6.out).mono ?_); rintro e w7 ⟨rfl, hb⟩; have H7 := Lib.hid (H6.out.call hb); have F7 := Lib.hid (F6.out.trans (RFrame.of_below hb)); clear hb)
        go_roundw
        case rel => exact ⟨k + 1, HLE.out, by go_num, by rw [HM.out]; exact H7, F7⟩
        case measure => have := HLE.out; simp [intOf]; omega
    · obtain rfl : k = T := by omega
      have ls := HSr.out.load_digest HSL.out
      have HOT := Lib.hid (one_other HO.out HSL.out HHH.out (HR2.out.of_below (HF3.out.trans ((F5.out.trans HFR.out).below HF3.out.size))))
      go_upto_region 17 with (first
        | (go_at_call 11; (with_reducible refine (HOT.out).mono ?_); rintro e w6 ⟨rfl, hb⟩; have B6 := Lib.hid hb; clear hb)
        | (((with_reducible show wpList _ _ _ ((⟨none, Op.store _ (.tmp 14) (.tmp 97), _, _, _, _⟩ : Oper) :: _) _ _)); refine wpList_store_box rfl 34 (.tmp 14) (.tmp 97) rfl w6.heap.size zkey rfl rfl 34 zkey (Box.made w6 _ _) rfl (key_size (r := noneD) rfl 0) (keyL_one noneD 0) ?_; intro w7 hb7 hg7; have G7 : Hid (Below wr.heap.size wr w7) := Lib.hid (B6.out.trans ((((Below.refl w6.heap.size w6).alloc (Nat.le_refl _) (.cells zkey 34)).trans (below_only hg7 (Nat.le_refl _) (by simp))).mono B6.out.size)); clear hb7 hg7))
      have HKY := Lib.hid (one_keys (HO.out.call G7.out))
      go_wp2_with (go_at_call 18; (with_reducible refine (HKY.out).mono ?_); rintro e w8 ⟨⟨A, c, rfl⟩, hb⟩; have G8 := Lib.hid (G7.out.trans (hb.mono G7.out.size)); clear hb)
      go_ret
      exact ⟨rfl, HFF.out _ (HFR.out.trans (RFrame.of_below G8.out))⟩
set_option maxRecDepth 100000 in
theorem counts_walk (seed : List UInt8) (hs : seed.length = 32) (height takes : Int) (w : World) (hR : Roots w) : Calls Tryd.prog 5 #[.agg (seed.map bv).toArray, .int .i64 height, .int .i64 takes] w fun e w' => e = .returned (.bool true) ∧ Below w.heap.size w w' := by
  by_cases h1 : height < 0
  · exact counts_a seed height takes h1 w hR
  by_cases h2 : 2 < height
  · exact counts_b seed height takes h2 w hR
  by_cases h3 : takes < 0
  · exact counts_c seed height takes (by omega) (by omega) h3 w hR
  by_cases h4 : 10 < takes
  · exact counts_d seed height takes (by omega) (by omega) h4 w hR
  obtain ⟨h, rfl⟩ : ∃ h : Nat, height = (h : Int) := ⟨height.toNat, by omega⟩
  obtain ⟨T, rfl⟩ : ∃ T : Nat, takes = (T : Int) := ⟨takes.toNat, by omega⟩
  exact counts_main seed hs h (by omega) T (by omega) w hR
end Go.Proofs.YtpldnjlfmagccaaDoor
