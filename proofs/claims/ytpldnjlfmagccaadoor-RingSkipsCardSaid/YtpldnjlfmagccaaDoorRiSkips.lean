/-
  RingSkips: behind Skip no number below is taken or signed with, and Left tells the rest; a tree that was retired signs nothing.
-/
import Derived.Test.YtpldnjlfmagccaaDoorRiCounts
import Derived.Test.YtpldnjlfmagccaaDoorRiSkip
namespace Go.Proofs.YtpldnjlfmagccaaDoor
open Go.RowKit Go.Maps

attribute [local go_sem ↓] ldKey_def ldDigest_def

/-- A ring of one tree, of whose numbers from i on just those are open that op tells. -/
def SkW (B rb mb : Nat) (seed : List UInt8) (h x : Nat) (op : Nat → Bool) (i : Nat) (w : World) : Prop := ∃ e, RingW w B rb mb 1 [e] ∧ e.seed = seed ∧ e.h = h ∧ e.next = x ∧ ∀ j, i ≤ j → j < 2 ^ h → e.opens.getD j false = op j
variable {B rb mb h x i : Nat} {seed : List UInt8} {op : Nat → Bool} {w w' : World}
set_option maxRecDepth 100000 in
theorem SkW.call (s : SkW B rb mb seed h x op i w) (hb : Below w.heap.size w w') : SkW B rb mb seed h x op i w' := by
  obtain ⟨e, h1, h2⟩ := s
  exact ⟨e, h1.call hb, h2⟩
set_option maxRecDepth 100000 in
theorem SkW.later (s : SkW B rb mb seed h x op i w) : SkW B rb mb seed h x op (i + 1) w := by
  obtain ⟨e, h1, h2, h3, h4, h5⟩ := s
  exact ⟨e, h1, h2, h3, h4, fun j hj hq => h5 j (by omega) hq⟩
set_option maxRecDepth 100000 in
theorem getD_set (l : List Bool) (i : Nat) (b : Bool) (j : Nat) (hi : i < l.length) : (l.set i b).getD j false = if j = i then b else l.getD j false := by
  rw [List.getD_eq_getElem?_getD, List.getElem?_set, List.getD_eq_getElem?_getD]
  by_cases h : i = j
  · subst h
    simp [hi]
  · rw [if_neg h, if_neg (fun e => h e.symm)]
set_option maxRecDepth 100000 in
theorem sk_add (hR : RingW w B rb mb 0 []) (hs : seed.length = 32) (hh : h ≤ 6) (hT : Roots w) (hB : B ≤ w.heap.size) :
    Calls Tryd.prog 11 #[.pointer (some ⟨rb, 0, none⟩), .agg (seed.map bv).toArray, .int .i64 (h : Int)] w fun e' w' => e' = .returned (.tuple #[.agg (keyV (keyT seed h) (h : Int)), .int .i64 0]) ∧ SkW B rb mb seed h 0 (fun j => decide (j < 0)) 0 w' ∧ RFrame B w w' := by
  refine (radd_any hR seed hs h hh hT (fun x hx => by cases hx) (by decide) hB).mono ?_
  rintro e' w' ⟨rfl, ⟨sb, ob, tb, gb, h2⟩, h3⟩
  refine ⟨rfl, ⟨_, h2, rfl, rfl, rfl, fun j _ hj => ?_⟩, h3⟩
  simp [Ent.fresh, List.getD_eq_getElem?_getD, hj]
set_option maxRecDepth 100000 in
theorem sk_take (s : SkW B rb mb seed h x (fun j => decide (j < x)) 0 w) (hx : x < 2 ^ h) :
    Calls Tryd.prog 12 #[.pointer (some ⟨rb, 0, none⟩), .agg (keyV (keyT seed h) (h : Int))] w fun e' w' => (∃ v, e' = .returned v) ∧ SkW B rb mb seed h (x + 1) (fun j => decide (j < x + 1)) 0 w' ∧ RFrame B w w' := by
  obtain ⟨e, h1, rfl, rfl, rfl, h5⟩ := s
  refine (take_any h1 (List.mem_singleton.2 rfl) (one_is rfl rfl) hx).mono ?_
  rintro e' w' ⟨rfl, h2, h3⟩
  rw [upd_one (e := e) (e' := e.taken) rfl] at h2
  refine ⟨⟨_, rfl⟩, ⟨_, h2, rfl, rfl, rfl, fun j _ hj => ?_⟩, h3⟩
  have hm := (h1.ents e (List.mem_singleton.2 rfl)).many
  show (e.opens.set e.next true).getD j false = _
  rw [getD_set _ _ _ _ (by rw [hm]; exact hx), h5 j (Nat.zero_le _) hj]
  by_cases hj' : j = e.next
  · simp [hj']
  · rw [if_neg hj']
    exact decide_eq_decide.2 (by omega)
set_option maxRecDepth 100000 in
theorem sk_spent (s : SkW B rb mb seed h x op i w) (hx : x = 2 ^ h) :
    Calls Tryd.prog 12 #[.pointer (some ⟨rb, 0, none⟩), .agg (keyV (keyT seed h) (h : Int))] w fun e' w' => e' = .returned (.tuple #[.int .i64 0, .int .i64 6]) ∧ Below w.heap.size w w' := by
  obtain ⟨e, h1, rfl, rfl, rfl, _⟩ := s
  exact take_spent h1 (List.mem_singleton.2 rfl) (one_is rfl rfl) hx
set_option maxRecDepth 100000 in
theorem sk_next (s : SkW B rb mb seed h x op i w) (hx : x < 2 ^ h) :
    Calls Tryd.prog 12 #[.pointer (some ⟨rb, 0, none⟩), .agg (keyV (keyT seed h) (h : Int))] w fun e' w' => e' = .returned (.tuple #[.int .i64 (x : Int), .int .i64 0]) ∧ (∃ e, RingW w' B rb mb 1 [e] ∧ e.seed = seed ∧ e.h = h) ∧ RFrame B w w' := by
  obtain ⟨e, h1, rfl, rfl, rfl, _⟩ := s
  refine (take_any h1 (List.mem_singleton.2 rfl) (one_is rfl rfl) hx).mono ?_
  rintro e' w' ⟨rfl, h2, h3⟩
  rw [upd_one (e := e) (e' := e.taken) rfl] at h2
  exact ⟨rfl, ⟨_, h2, rfl, rfl⟩, h3⟩
set_option maxRecDepth 100000 in
theorem sk_left (s : SkW B rb mb seed h x op i w) :
    Calls Tryd.prog 17 #[.pointer (some ⟨rb, 0, none⟩), .agg (keyV (keyT seed h) (h : Int))] w fun e' w' => e' = .returned (.int .i64 ((2 ^ h - x : Nat) : Int)) ∧ Below w.heap.size w w' := by
  obtain ⟨e, h1, rfl, rfl, rfl, _⟩ := s
  exact rleft_any h1 (List.mem_singleton.2 rfl) (one_is rfl rfl)
set_option maxRecDepth 100000 in
theorem sk_skip (s : SkW B rb mb seed h x op 0 w) (n : Int) (c : Nat) (hc : (c : Int) = max 0 (min n ((2 ^ h : Nat) : Int))) :
    Calls Tryd.prog 15 #[.pointer (some ⟨rb, 0, none⟩), .agg (keyV (keyT seed h) (h : Int)), .int .i64 n] w fun e' w' => e' = .returned (.int .i64 0) ∧ SkW B rb mb seed h (max x c) (fun j => decide (c ≤ j) && op j) 0 w' ∧ RFrame B w w' := by
  obtain ⟨e, h1, rfl, rfl, rfl, h5⟩ := s
  refine (skip_any h1 (List.mem_singleton.2 rfl) (one_is rfl rfl) n c hc).mono ?_
  rintro e' w' ⟨rfl, h2, h3⟩
  rw [upd_one (e := e) (e' := e.skipped c) rfl] at h2
  refine ⟨rfl, ⟨_, h2, rfl, rfl, rfl, fun j _ hj => ?_⟩, h3⟩
  have hm := (h1.ents e (List.mem_singleton.2 rfl)).many
  show (List.replicate c false ++ e.opens.drop c).getD j false = _
  rw [List.getD_eq_getElem?_getD]
  by_cases hcj : c ≤ j
  · rw [List.getElem?_append_right (by simpa using hcj), List.length_replicate, List.getElem?_drop, show c + (j - c) = j by omega, ← List.getD_eq_getElem?_getD, h5 j (Nat.zero_le _) hj]
    simp [hcj]
  · rw [List.getElem?_append_left (by simp; omega), List.getElem?_replicate, if_pos (by omega)]
    simp [hcj]
set_option maxRecDepth 100000 in
theorem sk_sign (s : SkW B rb mb seed h x op i w) (hx : i < x) (hop : op i = true) (d : List UInt8) (hd : d.length = 32) (hT : Roots w) (hB : B ≤ w.heap.size) (hl : 1 < B) :
    Calls Tryd.prog 13 #[.pointer (some ⟨rb, 0, none⟩), .agg (keyV (keyT seed h) (h : Int)), .int .i64 (i : Int), .agg (d.map bv).toArray] w fun e' w' => (∃ cs, e' = .returned (.tuple #[.agg cs, .int .i64 0]) ∧ (cs.size = zsig.size ∧ (Tryd.prog.info? 45).map (·.size) = some cs.size ∧ (∀ v ∈ cs.toList, v.oneCell' = true))) ∧ SkW B rb mb seed h x op (i + 1) w' ∧ RFrame B w w' := by
  obtain ⟨e, h1, rfl, rfl, rfl, h5⟩ := s
  have hn := (h1.ents e (List.mem_singleton.2 rfl)).next
  have hm := (h1.ents e (List.mem_singleton.2 rfl)).many
  refine (rsign_ok h1 (List.mem_singleton.2 rfl) (one_is rfl rfl) i hx (by rw [h5 i (Nat.le_refl _) (by omega)]; exact hop) d hd hT hB hl).mono ?_
  rintro e' w' ⟨cs, rfl, hsg, h2, h3⟩
  rw [upd_one (e := e) (e' := e.opened i false) rfl] at h2
  have hf := hsg.facts
  refine ⟨⟨cs, rfl, hf.1, hf.2.1, hf.2.2.1⟩, ⟨_, h2, rfl, rfl, rfl, fun j hj hq => ?_⟩, h3⟩
  show (e.opens.set i false).getD j false = _
  rw [getD_set _ _ _ _ (by rw [hm]; omega), if_neg (by omega), h5 j (by omega) hq]
set_option maxRecDepth 100000 in
theorem sk_shut (s : SkW B rb mb seed h x op i w) (hi : i < 2 ^ h) (hop : op i = false) (d : List UInt8) :
    Calls Tryd.prog 13 #[.pointer (some ⟨rb, 0, none⟩), .agg (keyV (keyT seed h) (h : Int)), .int .i64 (i : Int), .agg (d.map bv).toArray] w fun e' w' => e' = .returned (.tuple #[.agg zsig, .int .i64 9]) ∧ Below w.heap.size w w' := by
  obtain ⟨e, h1, rfl, rfl, rfl, h5⟩ := s
  rcases Nat.lt_or_ge i e.next with hlt | hge
  · exact sign_used h1 (List.mem_singleton.2 rfl) (one_is rfl rfl) (i : Int) (by omega) (by omega) (by rw [Int.toNat_natCast, h5 i (Nat.le_refl _) hi]; exact hop) d
  · exact sign_past h1 (List.mem_singleton.2 rfl) (one_is rfl rfl) (i : Int) (by omega) (by omega) d
set_option maxRecDepth 100000 in
theorem sk_retire (s : ∃ e, RingW w B rb mb 1 [e] ∧ e.seed = seed ∧ e.h = h) :
    Calls Tryd.prog 16 #[.pointer (some ⟨rb, 0, none⟩), .agg (keyV (keyT seed h) (h : Int))] w fun e' w' => e' = .returned (.int .i64 0) ∧ RingW w' B rb mb 1 [] ∧ RFrame B w w' := by
  obtain ⟨e, h1, rfl, rfl⟩ := s
  refine (retire_any h1 (List.mem_singleton.2 rfl) (one_is rfl rfl)).mono ?_
  rintro e' w' ⟨rfl, h2, h3⟩
  have he : e.is (keyT e.seed e.h) (e.h : Int) = true := one_is rfl rfl
  rw [List.filter_cons_of_neg (by simp [he]), List.filter_nil] at h2
  exact ⟨rfl, h2, h3⟩
set_option maxRecDepth 100000 in
theorem SkW.any (s : SkW B rb mb seed h x op i w) : ∃ e, RingW w B rb mb 1 [e] ∧ e.seed = seed ∧ e.h = h := by
  obtain ⟨e, h1, h2, h3, _⟩ := s
  exact ⟨e, h1, h2, h3⟩
set_option maxRecDepth 100000 in
theorem none_keys (hr : RingW w B rb mb 1 []) :
    Calls Tryd.prog 18 #[.pointer (some ⟨rb, 0, none⟩)] w fun e' w' => (∃ A c, e' = .returned (.slice A 0 c)) ∧ Below w.heap.size w w' := by
  refine (rkeys_any hr (by simp)).mono ?_
  rintro e' w' ⟨xs, v, rfl, hk, ho, hb⟩
  have hl := hk.length hr.keys
  obtain ⟨A, c, rfl⟩ := own_slice_s ho
  exact ⟨⟨A, c, by rw [hl]; rfl⟩, hb⟩

set_option maxRecDepth 100000 in
theorem skips_a (seed d : List UInt8) (height takes n : Int) (hd1 : height < 0) (w : World) (hR : Roots w) : Calls Tryd.prog 4 #[.agg (seed.map bv).toArray, .int .i64 height, .int .i64 takes, .int .i64 n, .agg (d.map bv).toArray] w fun e w' => e = .returned (.bool true) ∧ Below w.heap.size w w' := by
  have HF : Hid (Below w.heap.size w ((w.alloc (.cells (seed.map bv).toArray 30)).alloc (.cells (d.map bv).toArray 30))) := ((Below.refl _ _).alloc (Nat.le_refl _) _).alloc (by simp) _
  have HA := Lib.hid (rialive_any _ (hR.of_below HF.out))
  have d1 : decide (height < 0) = true := by simpa using hd1
  clear hR
  go_enter Tryd.func4, Tryd.ntmps4
  go_wp2_with (go_at_call 7; (with_reducible refine (HA.out).mono ?_); rintro e w2 ⟨rfl, hb⟩; have H2 := Lib.hid hb; clear hb)
  go_ret
  exact ⟨rfl, HF.out.trans (H2.out.mono HF.out.size)⟩
set_option maxRecDepth 100000 in
theorem skips_b (seed d : List UInt8) (height takes n : Int) (hd2 : 2 < height) (w : World) (hR : Roots w) : Calls Tryd.prog 4 #[.agg (seed.map bv).toArray, .int .i64 height, .int .i64 takes, .int .i64 n, .agg (d.map bv).toArray] w fun e w' => e = .returned (.bool true) ∧ Below w.heap.size w w' := by
  have HF : Hid (Below w.heap.size w ((w.alloc (.cells (seed.map bv).toArray 30)).alloc (.cells (d.map bv).toArray 30))) := ((Below.refl _ _).alloc (Nat.le_refl _) _).alloc (by simp) _
  have HA := Lib.hid (rialive_any _ (hR.of_below HF.out))
  have d1 : decide (height < 0) = false := by
    rw [decide_eq_false_iff_not]
    omega
  have d2 : decide (2 < height) = true := by simpa using hd2
  clear hR
  go_enter Tryd.func4, Tryd.ntmps4
  go_wp2_with (go_at_call 7; (with_reducible refine (HA.out).mono ?_); rintro e w2 ⟨rfl, hb⟩; have H2 := Lib.hid hb; clear hb)
  go_ret
  exact ⟨rfl, HF.out.trans (H2.out.mono HF.out.size)⟩
set_option maxRecDepth 100000 in
theorem skips_c (seed d : List UInt8) (height takes n : Int) (h1 : 0 ≤ height) (h2 : height ≤ 2) (hd3 : takes < 0) (w : World) (hR : Roots w) : Calls Tryd.prog 4 #[.agg (seed.map bv).toArray, .int .i64 height, .int .i64 takes, .int .i64 n, .agg (d.map bv).toArray] w fun e w' => e = .returned (.bool true) ∧ Below w.heap.size w w' := by
  have HF : Hid (Below w.heap.size w ((w.alloc (.cells (seed.map bv).toArray 30)).alloc (.cells (d.map bv).toArray 30))) := ((Below.refl _ _).alloc (Nat.le_refl _) _).alloc (by simp) _
  have HA := Lib.hid (rialive_any _ (hR.of_below HF.out))
  have d1 : decide (height < 0) = false := by
    rw [decide_eq_false_iff_not]
    omega
  have d2 : decide (2 < height) = false := by
    rw [decide_eq_false_iff_not]
    omega
  have d3 : decide (takes < 0) = true := by simpa using hd3
  clear hR
  go_enter Tryd.func4, Tryd.ntmps4
  go_wp2_with (go_at_call 7; (with_reducible refine (HA.out).mono ?_); rintro e w2 ⟨rfl, hb⟩; have H2 := Lib.hid hb; clear hb)
  go_ret
  exact ⟨rfl, HF.out.trans (H2.out.mono HF.out.size)⟩
set_option maxRecDepth 100000 in
theorem skips_d (seed d : List UInt8) (height takes n : Int) (h1 : 0 ≤ height) (h2 : height ≤ 2) (hd4 : 4 < takes) (w : World) (hR : Roots w) : Calls Tryd.prog 4 #[.agg (seed.map bv).toArray, .int .i64 height, .int .i64 takes, .int .i64 n, .agg (d.map bv).toArray] w fun e w' => e = .returned (.bool true) ∧ Below w.heap.size w w' := by
  have HF : Hid (Below w.heap.size w ((w.alloc (.cells (seed.map bv).toArray 30)).alloc (.cells (d.map bv).toArray 30))) := ((Below.refl _ _).alloc (Nat.le_refl _) _).alloc (by simp) _
  have HA := Lib.hid (rialive_any _ (hR.of_below HF.out))
  have d1 : decide (height < 0) = false := by
    rw [decide_eq_false_iff_not]
    omega
  have d2 : decide (2 < height) = false := by
    rw [decide_eq_false_iff_not]
    omega
  have d3 : decide (takes < 0) = false := by
    rw [decide_eq_false_iff_not]
    omega
  have d4 : decide (4 < takes) = true := by simpa using hd4
  clear hR
  go_enter Tryd.func4, Tryd.ntmps4
  go_wp2_with (go_at_call 7; (with_reducible refine (HA.out).mono ?_); rintro e w2 ⟨rfl, hb⟩; have H2 := Lib.hid hb; clear hb)
  go_ret
  exact ⟨rfl, HF.out.trans (H2.out.mono HF.out.size)⟩

set_option maxRecDepth 100000 in
set_option maxHeartbeats 4000000 in
theorem skips_main (seed d : List UInt8) (hs : seed.length = 32) (hd : d.length = 32) (h : Nat) (hh : h ≤ 2) (T : Nat) (hT : T ≤ 4) (n : Int) (w : World) (hR : Roots w) : Calls Tryd.prog 4 #[.agg (seed.map bv).toArray, .int .i64 (h : Int), .int .i64 (T : Int), .int .i64 n, .agg (d.map bv).toArray] w fun e w' => e = .returned (.bool true) ∧ Below w.heap.size w w' := by
  obtain ⟨w1, hw1⟩ : ∃ w1, w1 = (w.alloc (.cells (seed.map bv).toArray 30)).alloc (.cells (d.map bv).toArray 30) := ⟨_, rfl⟩
  have HS1 : Hid (Box w1 w.heap.size 30 (seed.map bv).toArray) := by
    rw [hw1]
    exact (Box.made _ _ _).alloc _
  have HD1 : Hid (Box w1 (w.heap.size + 1) 30 (d.map bv).toArray) := by
    rw [hw1]
    exact Box.made_at (by simp) _ _
  have HF1 : Hid (Below w.heap.size w w1) := by
    rw [hw1]
    exact ((Below.refl _ _).alloc (Nat.le_refl _) _).alloc (by simp) _
  have HR1 := Lib.hid (hR.of_below HF1.out)
  have HA := Lib.hid (rialive_any w1 HR1.out)
  have d1 : decide ((h : Int) < 0) = false := by
    rw [decide_eq_false_iff_not]
    omega
  have d2 : decide ((2 : Int) < (h : Int)) = false := by
    rw [decide_eq_false_iff_not]
    omega
  have d2' : decide (2 < h) = false := by
    rw [decide_eq_false_iff_not]
    omega
  have d3 : decide ((T : Int) < 0) = false := by
    rw [decide_eq_false_iff_not]
    omega
  have d4 : decide ((4 : Int) < (T : Int)) = false := by
    rw [decide_eq_false_iff_not]
    omega
  have d4' : decide (4 < T) = false := by
    rw [decide_eq_false_iff_not]
    omega
  have HSL := Lib.hid hs
  have HDL := Lib.hid hd
  have HHH : Hid (h ≤ 6) := Lib.hid (by omega)
  have HH2 := Lib.hid hh
  have HT := Lib.hid hT
  clear hR hs hh hT hd
  go_enter Tryd.func4, Tryd.ntmps4
  go_upto_region 1 with fail
  change Code.wp _ _ _ _ ((w.alloc (.cells (seed.map bv).toArray 30)).alloc (.cells (d.map bv).toArray 30))
  rw [← hw1]
  clear hw1
  go_upto_region 5 with (go_at_call 7; (with_reducible refine (HA.out).mono ?_); rintro e w2 ⟨rfl, hb⟩; have HF2 := Lib.hid (HF1.out.trans (hb.mono HF1.out.size)); have HS2 := Lib.hid (HS1.out.below hb HS1.out.lt); have HD2 := Lib.hid (HD1.out.below hb HD1.out.lt); have HR2 := Lib.hid (HR1.out.of_below hb); clear hb)
  clear d1 d2 d2' d3 d4 d4' HA
  have HNW := Lib.hid (ring_new w2)
  have HBL : Hid (1 < w2.heap.size) := Lib.hid HR2.out.1
  go_upto_region 6 with (go_at_call 9; (with_reducible refine (HNW.out).mono ?_); rintro e w3 ⟨rb, mb, rfl, h3, hb⟩; have H3 := Lib.hid h3; have HF3 := Lib.hid hb; clear h3 hb)
  have HS3 := Lib.hid (HS2.out.below HF3.out HS2.out.lt)
  have HD3 := Lib.hid (HD2.out.below HF3.out HD2.out.lt)
  have HAD := Lib.hid (sk_add H3.out HSL.out HHH.out (HR2.out.of_below HF3.out) HF3.out.size)
  have ls := HS3.out.load_digest HSL.out
  obtain ⟨r, hr⟩ : ∃ r, r = keyT seed h := ⟨_, rfl⟩
  have HRL : Hid (r.length = 32) := by
    rw [hr]
    exact keyT_len seed h
  obtain ⟨q, hq⟩ : ∃ q, q = 2 ^ h := ⟨_, rfl⟩
  have HQ4 : Hid (q ≤ 4) := by
    rw [hq]
    exact Nat.le_trans (Nat.pow_le_pow_right (by decide) HH2.out) (by decide)
  obtain ⟨c, hc⟩ : ∃ c : Nat, (c : Int) = max 0 (min n (q : Int)) := ⟨(max 0 (min n (q : Int))).toNat, by omega⟩
  have HC := Lib.hid hc
  have KTK : Hid (∀ x w', SkW w2.heap.size rb mb seed h x (fun j => decide (j < x)) 0 w' → x < q → Calls Tryd.prog 12 #[.pointer (some ⟨rb, 0, none⟩), .agg (keyV r (h : Int))] w' fun e' w'' => (∃ v, e' = .returned v) ∧ SkW w2.heap.size rb mb seed h (x + 1) (fun j => decide (j < x + 1)) 0 w'' ∧ RFrame w2.heap.size w' w'') := by
    rw [hr, hq]
    exact fun x w' s hx => sk_take s hx
  have KTS : Hid (∀ op i w', SkW w2.heap.size rb mb seed h q op i w' → Calls Tryd.prog 12 #[.pointer (some ⟨rb, 0, none⟩), .agg (keyV r (h : Int))] w' fun e' w'' => e' = .returned (.tuple #[.int .i64 0, .int .i64 6]) ∧ Below w'.heap.size w' w'') := by
    rw [hr, hq]
    exact fun op i w' s => sk_spent s rfl
  have KTN : Hid (∀ x op i w', SkW w2.heap.size rb mb seed h x op i w' → x < q → Calls Tryd.prog 12 #[.pointer (some ⟨rb, 0, none⟩), .agg (keyV r (h : Int))] w' fun e' w'' => e' = .returned (.tuple #[.int .i64 (x : Int), .int .i64 0]) ∧ (∃ e, RingW w'' w2.heap.size rb mb 1 [e] ∧ e.seed = seed ∧ e.h = h) ∧ RFrame w2.heap.size w' w'') := by
    rw [hr, hq]
    exact fun x op i w' s hx => sk_next s hx
  have KLF : Hid (∀ x op i w', SkW w2.heap.size rb mb seed h x op i w' → Calls Tryd.prog 17 #[.pointer (some ⟨rb, 0, none⟩), .agg (keyV r (h : Int))] w' fun e' w'' => e' = .returned (.int .i64 ((q - x : Nat) : Int)) ∧ Below w'.heap.size w' w'') := by
    rw [hr, hq]
    exact fun x op i w' s => sk_left s
  have KSK : Hid (∀ x op w', SkW w2.heap.size rb mb seed h x op 0 w' → Calls Tryd.prog 15 #[.pointer (some ⟨rb, 0, none⟩), .agg (keyV r (h : Int)), .int .i64 n] w' fun e' w'' => e' = .returned (.int .i64 0) ∧ SkW w2.heap.size rb mb seed h (max x c) (fun j => decide (c ≤ j) && op j) 0 w'' ∧ RFrame w2.heap.size w' w'') := by
    rw [hr]
    exact fun x op w' s => sk_skip s n c (by rw [← hq]; exact HC.out)
  have KSG : Hid (∀ x op i w', SkW w2.heap.size rb mb seed h x op i w' → i < x → op i = true → Roots w' → w2.heap.size ≤ w'.heap.size → Calls Tryd.prog 13 #[.pointer (some ⟨rb, 0, none⟩), .agg (keyV r (h : Int)), .int .i64 (i : Int), .agg (d.map bv).toArray] w' fun e' w'' => (∃ cs, e' = .returned (.tuple #[.agg cs, .int .i64 0]) ∧ (cs.size = zsig.size ∧ (Tryd.prog.info? 45).map (·.size) = some cs.size ∧ (∀ v ∈ cs.toList, v.oneCell' = true))) ∧ SkW w2.heap.size rb mb seed h x op (i + 1) w'' ∧ RFrame w2.heap.size w' w'') := by
    rw [hr]
    exact fun x op i w' s hx ho ht hb => sk_sign s hx ho d HDL.out ht hb HBL.out
  have KSH : Hid (∀ x op i w', SkW w2.heap.size rb mb seed h x op i w' → i < q → op i = false → Calls Tryd.prog 13 #[.pointer (some ⟨rb, 0, none⟩), .agg (keyV r (h : Int)), .int .i64 (i : Int), .agg (d.map bv).toArray] w' fun e' w'' => e' = .returned (.tuple #[.agg zsig, .int .i64 9]) ∧ Below w'.heap.size w' w'') := by
    rw [hr, hq]
    exact fun x op i w' s hi ho => sk_shut s hi ho d
  have KRT : Hid (∀ w', (∃ e, RingW w' w2.heap.size rb mb 1 [e] ∧ e.seed = seed ∧ e.h = h) → Calls Tryd.prog 16 #[.pointer (some ⟨rb, 0, none⟩), .agg (keyV r (h : Int))] w' fun e' w'' => e' = .returned (.int .i64 0) ∧ RingW w'' w2.heap.size rb mb 1 [] ∧ RFrame w2.heap.size w' w'') := by
    rw [hr]
    exact fun w' s => sk_retire s
  have hwf : (Lit.int .i64 (h : Int)).wf = true := small_wf h (by have := HH2.out; omega)
  have KRN : Hid (∀ w', RingW w' w2.heap.size rb mb 1 [] → Calls Tryd.prog 16 #[.pointer (some ⟨rb, 0, none⟩), .agg (keyV r (h : Int))] w' fun e' w'' => e' = .returned (.int .i64 7) ∧ Below w'.heap.size w' w'') := Lib.hid (fun w' s => retire_not s HRL.out hwf (fun e he => by cases he))
  have KSN : Hid (∀ w' (i : Int), RingW w' w2.heap.size rb mb 1 [] → Calls Tryd.prog 13 #[.pointer (some ⟨rb, 0, none⟩), .agg (keyV r (h : Int)), .int .i64 i, .agg (d.map bv).toArray] w' fun e' w'' => e' = .returned (.tuple #[.agg zsig, .int .i64 7]) ∧ Below w'.heap.size w' w'') := Lib.hid (fun w' i s => sign_not s HRL.out hwf (fun e he => by cases he) i d)
  have hwr : IntKind.i64.wrap ((2 : Int) ^ h) = (q : Int) := by
    have e1 : ((2 : Int) ^ h) = ((2 ^ h : Nat) : Int) := by simp
    rw [e1, ← hq, IntKind.wrap_i64]
    have := HQ4.out
    omega
  rw [← hr] at HAD
  clear hr hq hc hwf
  have HKZ := Lib.hid (key_same HRL.out (s := noneD) rfl (h : Int) 0)
  have HKS := Lib.hid (key_size HRL.out (h : Int))
  have HKO := Lib.hid (keyL_one r (h : Int))
  go_upto_region 7 with (first
    | (go_at_call 11; (with_reducible refine (HAD.out).mono ?_); rintro e w4 ⟨rfl, h4, hf⟩; have H4 := Lib.hid h4; have F4 := Lib.hid hf; clear h4 hf)
    | (((with_reducible show wpList _ _ _ ((⟨none, Op.store _ (.tmp 12) (.tmp 44), _, _, _, _⟩ : Oper) :: _) _ _)); refine wpList_store_box rfl 34 (.tmp 12) (.tmp 44) rfl w4.heap.size (keyV r (h : Int)) rfl rfl 34 zkey (Box.made w4 _ _) HKZ.out HKS.out HKO.out ?_; intro w5 hb5 hg5; have HK5 := Lib.hid hb5; have G5 : Hid (Below w4.heap.size w4 w5) := Lib.hid (((Below.refl w4.heap.size w4).alloc (Nat.le_refl _) (.cells zkey 34)).trans (below_only hg5 (Nat.le_refl _) (by simp))); clear hb5 hg5))
  clear ls HAD HNW HKZ HKS HKO
  have H5 := Lib.hid (H4.out.call G5.out)
  have F5 : Hid (RFrame w2.heap.size w3 w5) := Lib.hid (F4.out.trans (RFrame.of_below G5.out))
  have HD5 := Lib.hid (F5.out.box HD3.out (by decide) (by decide))
  have HFF : Hid (∀ w', RFrame w2.heap.size w5 w' → Below w.heap.size w w') := Lib.hid (fun w' f => by
    have f1 := (F5.out.trans f).below HF3.out.size
    have f2 := HF3.out.trans f1
    exact HF2.out.trans (f2.mono HF2.out.size))
  have HRR : Hid (∀ w', RFrame w2.heap.size w5 w' → Roots w' ∧ w2.heap.size ≤ w'.heap.size) := Lib.hid (fun w' f => by
    have f1 := (F5.out.trans f).below HF3.out.size
    have f2 := HF3.out.trans f1
    exact ⟨HR2.out.of_below f2, f2.size⟩)
  clear F4 F5 HS1 HS2 HS3 HD1 HD2 HD3 HF1 HF2 HR1
  go_upto_region 9 with fail
  go_wp2
  go_loopw [14] (fun i wr => ∃ k : Nat, k ≤ T ∧ i = .int .i64 (k : Int) ∧ Hid (SkW w2.heap.size rb mb seed h (min k q) (fun j => decide (j < min k q)) 0 wr) ∧ Hid (RFrame w2.heap.size w5 wr)) (fun i _ => T - (intOf i).toNat)
  case atStart => exact ⟨0, Nat.zero_le _, rfl, by rw [Nat.zero_min]; exact H5, Lib.hid (RFrame.refl _ _)⟩
  case round =>
    obtain ⟨k, hk, rfl, HO, HFR⟩ := hrel
    have HKr := Lib.hid (HFR.out.box HK5.out (by decide) (by decide))
    have lk := HKr.out.load_key HRL.out
    by_cases hlt : k < T
    · have wk : IntKind.i64.wrap ((k : Int) + 1) = ((k + 1 : Nat) : Int) := by
        rw [IntKind.wrap_i64]
        have := HT.out
        omega
      have HLE := Lib.hid hlt
      have HT1 : Hid (Calls Tryd.prog 12 #[.pointer (some ⟨rb, 0, none⟩), .agg (keyV r (h : Int))] wr fun e' w'' => (∃ v, e' = .returned v) ∧ SkW w2.heap.size rb mb seed h (min (k + 1) q) (fun j => decide (j < min (k + 1) q)) 0 w'' ∧ RFrame w2.heap.size wr w'') := by
        by_cases hq : k < q
        · have h1 := HO.out
          rw [Nat.min_eq_left (by omega)] at h1
          rw [Nat.min_eq_left (show k + 1 ≤ q by omega)]
          exact KTK.out k wr h1 hq
        · have h1 := HO.out
          rw [Nat.min_eq_right (by omega)] at h1
          rw [Nat.min_eq_right (show q ≤ k + 1 by omega)]
          refine (KTS.out _ _ wr h1).mono ?_
          rintro e' w'' ⟨rfl, hb⟩
          exact ⟨⟨_, rfl⟩, h1.call hb, RFrame.of_below hb⟩
      go_wp2_with (go_at_call 12; (with_reducible refine (HT1.out).mono ?_); rintro e w6 ⟨⟨v, rfl⟩, h6, hf⟩; have H6 := Lib.hid h6; have F6 := Lib.hid (HFR.out.trans hf); clear h6 hf)
      go_roundw
      case rel => exact ⟨k + 1, HLE.out, by go_num, H6, F6⟩
      case measure => have := HLE.out; simp [intOf]; omega
    · obtain rfl : k = T := by omega
      clear hlt hk
      obtain ⟨a, ha⟩ : ∃ a, a = min k q := ⟨_, rfl⟩
      rw [← ha] at HO
      obtain ⟨x, hx⟩ : ∃ x, x = max a c := ⟨_, rfl⟩
      obtain ⟨t, ht⟩ : ∃ t, t = min n (q : Int) := ⟨_, rfl⟩
      have m1 : (if (q : Int) < (k : Int) then (q : Int) else (k : Int)) = (a : Int) := by
        rw [ha]
        split <;> omega
      have m1' : min (k : Int) (q : Int) = (a : Int) := by omega
      have m1n : min k q = a := ha.symm
      have m2 : (if (q : Int) < n then (q : Int) else n) = t := by
        rw [ht]
        split <;> omega
      have m2' : min n (q : Int) = t := ht.symm
      have m3 : (if (a : Int) < t then t else (a : Int)) = (x : Int) := by
        have := HC.out
        split <;> omega
      have m3' : max (a : Int) t = (x : Int) := by
        have := HC.out
        omega
      have HXQ : Hid (x ≤ q) := Lib.hid (by have := HC.out; omega)
      have HAX : Hid (x = max a c ∧ a = min k q) := ⟨hx, ha⟩
      have w77 : IntKind.i64.wrap ((q : Int) - (x : Int)) = ((q - x : Nat) : Int) := by
        rw [IntKind.wrap_i64]
        have := HXQ.out
        have := HQ4.out
        omega
      have b0 : (0 : Int) ≤ (h : Int) := by omega
      have b1 : (h : Int) ≤ 64 := by have := HH2.out; omega
      have HK1 := Lib.hid (KSK.out a _ wr HO.out)
      rw [← hx] at HK1
      clear ha hx ht KSK
      go_upto_region 15 with fail
      clear m1 m1' m1n m2 m2' m3 m3' b0 b1 hwr
      have lk6 : Hid (∀ w', RFrame w2.heap.size w5 w' → (ldKey (.pointer (some ⟨w4.heap.size, 0, none⟩))).run Tryd.prog w' = .ok (.agg (keyV r (h : Int))) w') := Lib.hid (fun w' f => (f.box HK5.out (by decide) (by decide)).load_key HRL.out)
      have ld6 : Hid (∀ w', RFrame w2.heap.size w5 w' → (ldDigest (.pointer (some ⟨w.heap.size + 1, 0, none⟩))).run Tryd.prog w' = .ok (.agg (d.map bv).toArray) w') := Lib.hid (fun w' f => (f.box HD5.out (by decide) (by decide)).load_digest HDL.out)
      go_upto_region 17 with (first
        | (go_at_call 15; (with_reducible refine (HK1.out).mono ?_); rintro e w6 ⟨rfl, h6, hf⟩; have H6 := Lib.hid h6; have F6 := Lib.hid (HFR.out.trans hf); clear h6 hf; have l6 := lk6.out _ F6.out; have HL6 := Lib.hid (KLF.out x _ 0 w6 H6.out))
        | (go_at_call 17; (with_reducible refine (HL6.out).mono ?_); rintro e w7 ⟨rfl, hb⟩; have H7 := Lib.hid (H6.out.call hb); have F7 := Lib.hid (F6.out.trans (RFrame.of_below hb)); clear hb))
      clear l6 HK1 HL6 w77 lk
      go_wp2
      go_loopw [17] (fun i wr => ∃ i' : Nat, i' ≤ q ∧ i = .int .i64 (i' : Int) ∧ Hid (SkW w2.heap.size rb mb seed h x (fun j => decide (c ≤ j) && decide (j < a)) i' wr) ∧ Hid (RFrame w2.heap.size w5 wr)) (fun i _ => q - (intOf i).toNat)
      case atStart => exact ⟨0, Nat.zero_le _, rfl, H7, F7⟩
      case round =>
        clear H6 F6 H7 F7 HO HFR HKr
        rename_i wr0 _ _
        obtain ⟨i, hi, rfl, HO, HFR⟩ := hrel
        have lk := lk6.out _ HFR.out
        have ld := ld6.out _ HFR.out
        by_cases hlt : i < q
        · have wk : IntKind.i64.wrap ((i : Int) + 1) = ((i + 1 : Nat) : Int) := by
            rw [IntKind.wrap_i64]
            have := HQ4.out
            omega
          have HLE := Lib.hid hlt
          have HRW := Lib.hid (HRR.out _ HFR.out)
          by_cases hop : i < k ∧ n ≤ (i : Int)
          · have e1 : decide ((i : Int) < (k : Int)) = true := by
              rw [decide_eq_true_iff]
              omega
            have e1' : decide (i < k) = true := by
              rw [decide_eq_true_iff]
              omega
            have e2 : decide (n ≤ (i : Int)) = true := by
              rw [decide_eq_true_iff]
              omega
            have hci : c ≤ i := by have := HC.out; omega
            have hia : i < a := by have := HAX.out; omega
            have hix : i < x := by have := HAX.out; omega
            have HS1 := Lib.hid (KSG.out x (fun j => decide (c ≤ j) && decide (j < a)) i wr HO.out hix (by simp [hci, hia]) HRW.out.1 HRW.out.2)
            clear hci hia hix hlt hop
            go_wp2_with (first
              | (go_at_call 13; (with_reducible refine (HS1.out).mono ?_); rintro e w8 ⟨⟨cs, rfl, hcs⟩, h8, hf⟩; have H8 := Lib.hid h8; have F8 := Lib.hid (HFR.out.trans hf); have HCS := Lib.hid hcs; clear h8 hf hcs)
              | (((with_reducible show wpList _ _ _ ((⟨none, Op.store _ (.tmp 18) (.tmp 91), _, _, _, _⟩ : Oper) :: _) _ _)); refine wpList_store_box rfl 45 (.tmp 18) (.tmp 91) rfl w8.heap.size cs rfl rfl 45 zsig (Box.made w8 _ _) HCS.out.1 HCS.out.2.1 HCS.out.2.2 ?_; intro w9 hb9 hg9; have G9 : Hid (Below w8.heap.size w8 w9) := Lib.hid (((Below.refl w8.heap.size w8).alloc (Nat.le_refl _) (.cells zsig 45)).trans (below_only hg9 (Nat.le_refl _) (by simp))); clear hb9 hg9))
            have H9 := Lib.hid (H8.out.call G9.out)
            have F9 := Lib.hid (F8.out.trans (RFrame.of_below G9.out))
            go_roundw
            case rel => exact ⟨i + 1, HLE.out, by go_num, H9, F9⟩
            case measure => have := HLE.out; simp [intOf]; omega
          · have HS1 := Lib.hid (KSH.out x (fun j => decide (c ≤ j) && decide (j < a)) i wr HO.out hlt (by
              have h1 := HC.out
              have h2 := HAX.out
              rw [Bool.and_eq_false_iff, decide_eq_false_iff_not, decide_eq_false_iff_not]
              omega))
            have HOL := Lib.hid HO.out.later
            by_cases hik : i < k
            · have e1 : decide ((i : Int) < (k : Int)) = true := by
                rw [decide_eq_true_iff]
                omega
              have e1' : decide (i < k) = true := by
                rw [decide_eq_true_iff]
                omega
              have e2 : decide (n ≤ (i : Int)) = false := by
                rw [decide_eq_false_iff_not]
                omega
              clear hop hlt HO hik
              go_wp2_with (first
                | (go_at_call 13; (with_reducible refine (HS1.out).mono ?_); rintro e w8 ⟨rfl, hb⟩; have G8 := Lib.hid hb; clear hb)
                | (((with_reducible show wpList _ _ _ ((⟨none, Op.store _ (.tmp 18) (.tmp 91), _, _, _, _⟩ : Oper) :: _) _ _)); refine wpList_store_box rfl 45 (.tmp 18) (.tmp 91) rfl w8.heap.size zsig rfl rfl 45 zsig (Box.made w8 _ _) rfl (sig_size 0 none 0 0 none 0 0 none 0 0) (sig_one 0 none 0 0 none 0 0 none 0 0) ?_; intro w9 hb9 hg9; have G9 : Hid (Below wr.heap.size wr w9) := Lib.hid (G8.out.trans ((((Below.refl w8.heap.size w8).alloc (Nat.le_refl _) (.cells zsig 45)).trans (below_only hg9 (Nat.le_refl _) (by simp))).mono G8.out.size)); clear hb9 hg9))
              have H9 := Lib.hid (HOL.out.call G9.out)
              have F9 := Lib.hid (HFR.out.trans (RFrame.of_below G9.out))
              go_roundw
              case rel => exact ⟨i + 1, HLE.out, by go_num, H9, F9⟩
              case measure => have := HLE.out; simp [intOf]; omega
            · have e1 : decide ((i : Int) < (k : Int)) = false := by
                rw [decide_eq_false_iff_not]
                omega
              have e1' : decide (i < k) = false := by
                rw [decide_eq_false_iff_not]
                omega
              clear hop hlt HO hik
              go_wp2_with (first
                | (go_at_call 13; (with_reducible refine (HS1.out).mono ?_); rintro e w8 ⟨rfl, hb⟩; have G8 := Lib.hid hb; clear hb)
                | (((with_reducible show wpList _ _ _ ((⟨none, Op.store _ (.tmp 18) (.tmp 91), _, _, _, _⟩ : Oper) :: _) _ _)); refine wpList_store_box rfl 45 (.tmp 18) (.tmp 91) rfl w8.heap.size zsig rfl rfl 45 zsig (Box.made w8 _ _) rfl (sig_size 0 none 0 0 none 0 0 none 0 0) (sig_one 0 none 0 0 none 0 0 none 0 0) ?_; intro w9 hb9 hg9; have G9 : Hid (Below wr.heap.size wr w9) := Lib.hid (G8.out.trans ((((Below.refl w8.heap.size w8).alloc (Nat.le_refl _) (.cells zsig 45)).trans (below_only hg9 (Nat.le_refl _) (by simp))).mono G8.out.size)); clear hb9 hg9))
              have H9 := Lib.hid (HOL.out.call G9.out)
              have F9 := Lib.hid (HFR.out.trans (RFrame.of_below G9.out))
              go_roundw
              case rel => exact ⟨i + 1, HLE.out, by go_num, H9, F9⟩
              case measure => have := HLE.out; simp [intOf]; omega
        · obtain rfl : i = q := by omega
          have HTK1 : Hid (Calls Tryd.prog 12 #[.pointer (some ⟨rb, 0, none⟩), .agg (keyV r (h : Int))] wr fun e' w'' => e' = .returned (.tuple #[.int .i64 (if x < i then (x : Int) else 0), .int .i64 (if x < i then 0 else 6)]) ∧ (∃ e, RingW w'' w2.heap.size rb mb 1 [e] ∧ e.seed = seed ∧ e.h = h) ∧ RFrame w2.heap.size wr w'') := by
            by_cases hxi : x < i
            · rw [if_pos hxi, if_pos hxi]
              exact KTN.out x _ _ wr HO.out hxi
            · rw [if_neg hxi, if_neg hxi]
              obtain rfl : x = i := by have := HXQ.out; omega
              refine (KTS.out _ _ wr HO.out).mono ?_
              rintro e' w'' ⟨rfl, hb⟩
              exact ⟨rfl, (HO.out.call hb).any, RFrame.of_below hb⟩
          by_cases hxi : x < i
          · have dx : decide ((x : Int) < (i : Int)) = true := by
              rw [decide_eq_true_iff]
              omega
            have dx' : decide (x < i) = true := by
              rw [decide_eq_true_iff]
              omega
            have de : ((x : Int) == (i : Int)) = false := by
              rw [beq_eq_false_iff_ne]
              omega
            have de' : (x == i) = false := by
              rw [beq_eq_false_iff_ne]
              omega
            rw [if_pos hxi, if_pos hxi] at HTK1
            clear ld
            go_upto_region 26 with (go_at_call 12; (with_reducible refine (HTK1.out).mono ?_); rintro e w8 ⟨rfl, h8, hf⟩; have H8 := Lib.hid h8; have F8 := Lib.hid (HFR.out.trans hf); clear h8 hf)
            clear lk
            have l8 := lk6.out _ F8.out
            have HRT := Lib.hid (KRT.out _ H8.out)
            go_upto_region 28 with (first
              | (go_at_call 16; (with_reducible refine (HRT.out).mono ?_); rintro e w9 ⟨rfl, h9, hf⟩; have H9 := Lib.hid h9; have F9 := Lib.hid (F8.out.trans hf); clear h9 hf; have l9 := lk6.out _ F9.out)
              | (go_at_call 16; (with_reducible refine (KRN.out _ H9.out).mono ?_); rintro e w10 ⟨rfl, hb⟩; have H10 := Lib.hid (H9.out.call hb); have F10 := Lib.hid (F9.out.trans (RFrame.of_below hb)); clear hb))
            clear l8 l9
            have l10 := lk6.out _ F10.out
            have d10 := ld6.out _ F10.out
            go_upto_region 29 with (go_at_call 13; (with_reducible refine (KSN.out _ _ H10.out).mono ?_); rintro e w11 ⟨rfl, hb⟩; have H11 := Lib.hid (H10.out.call hb); have F11 := Lib.hid (F10.out.trans (RFrame.of_below hb)); clear hb)
            clear l10 d10
            have HKY := Lib.hid (none_keys H11.out)
            go_wp2_with (go_at_call 18; (with_reducible refine (HKY.out).mono ?_); rintro e w12 ⟨⟨A, c', rfl⟩, hb⟩; have F12 := Lib.hid (F11.out.trans (RFrame.of_below hb)); clear hb)
            go_ret
            exact ⟨rfl, HFF.out _ F12.out⟩
          · have dx : decide ((x : Int) < (i : Int)) = false := by
              rw [decide_eq_false_iff_not]
              omega
            have dx' : decide (x < i) = false := by
              rw [decide_eq_false_iff_not]
              omega
            have de : ((x : Int) == (i : Int)) = true := by
              rw [beq_iff_eq]
              have := HXQ.out
              omega
            have de' : (x == i) = true := by
              rw [beq_iff_eq]
              have := HXQ.out
              omega
            rw [if_neg hxi, if_neg hxi] at HTK1
            clear ld
            go_upto_region 26 with (go_at_call 12; (with_reducible refine (HTK1.out).mono ?_); rintro e w8 ⟨rfl, h8, hf⟩; have H8 := Lib.hid h8; have F8 := Lib.hid (HFR.out.trans hf); clear h8 hf)
            clear lk
            have l8 := lk6.out _ F8.out
            have HRT := Lib.hid (KRT.out _ H8.out)
            go_upto_region 28 with (first
              | (go_at_call 16; (with_reducible refine (HRT.out).mono ?_); rintro e w9 ⟨rfl, h9, hf⟩; have H9 := Lib.hid h9; have F9 := Lib.hid (F8.out.trans hf); clear h9 hf; have l9 := lk6.out _ F9.out)
              | (go_at_call 16; (with_reducible refine (KRN.out _ H9.out).mono ?_); rintro e w10 ⟨rfl, hb⟩; have H10 := Lib.hid (H9.out.call hb); have F10 := Lib.hid (F9.out.trans (RFrame.of_below hb)); clear hb))
            clear l8 l9
            have l10 := lk6.out _ F10.out
            have d10 := ld6.out _ F10.out
            go_upto_region 29 with (go_at_call 13; (with_reducible refine (KSN.out _ _ H10.out).mono ?_); rintro e w11 ⟨rfl, hb⟩; have H11 := Lib.hid (H10.out.call hb); have F11 := Lib.hid (F10.out.trans (RFrame.of_below hb)); clear hb)
            clear l10 d10
            have HKY := Lib.hid (none_keys H11.out)
            go_wp2_with (go_at_call 18; (with_reducible refine (HKY.out).mono ?_); rintro e w12 ⟨⟨A, c', rfl⟩, hb⟩; have F12 := Lib.hid (F11.out.trans (RFrame.of_below hb)); clear hb)
            go_ret
            exact ⟨rfl, HFF.out _ F12.out⟩
set_option maxRecDepth 100000 in
theorem skips_walk (seed d : List UInt8) (hs : seed.length = 32) (hd : d.length = 32) (height takes n : Int) (w : World) (hR : Roots w) : Calls Tryd.prog 4 #[.agg (seed.map bv).toArray, .int .i64 height, .int .i64 takes, .int .i64 n, .agg (d.map bv).toArray] w fun e w' => e = .returned (.bool true) ∧ Below w.heap.size w w' := by
  by_cases h1 : height < 0
  · exact skips_a seed d height takes n h1 w hR
  by_cases h2 : 2 < height
  · exact skips_b seed d height takes n h2 w hR
  by_cases h3 : takes < 0
  · exact skips_c seed d height takes n (by omega) (by omega) h3 w hR
  by_cases h4 : 4 < takes
  · exact skips_d seed d height takes n (by omega) (by omega) h4 w hR
  obtain ⟨h, rfl⟩ : ∃ h : Nat, height = (h : Int) := ⟨height.toNat, by omega⟩
  obtain ⟨T, rfl⟩ : ∃ T : Nat, takes = (T : Int) := ⟨takes.toNat, by omega⟩
  exact skips_main seed d hs hd h (by omega) T (by omega) n w hR
end Go.Proofs.YtpldnjlfmagccaaDoor
