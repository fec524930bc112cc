/-
  Package tree: placed, beside, half, joined.
  Package tree: above.
  Package tree: Root, Leaf.
  Package tree: Leaf.
-/
import Derived.Test.YtejnfgcnifcpaaaGreatDoorTG
import Derived.Test.YtejnfgcnifcpaaaGreatDoorSD
namespace Go.Proofs.YtejnfgcnifcpaaaGreatDoor
open Go.RowKit

attribute [local go_sem ↓] ldDigest_def stDigest_def

set_option maxRecDepth 100000 in
theorem placed_any (x y : Int) (w : World) : Calls Tryz.prog 101 #[.int .i64 x, .int .i64 y] w fun e w' => e = .returned (.bool (decide (0 ≤ x) && decide (x < y))) ∧ w' = w := by
  by_cases h : 0 ≤ x
  · have h' : decide (0 ≤ x) = true := by simpa using h
    go_enter Tryz.func101, Tryz.ntmps101
    go_wp2
    go_ret
    exact ⟨by simp [h], rfl⟩
  · have h' : decide (0 ≤ x) = false := by simpa using h
    go_enter Tryz.func101, Tryz.ntmps101
    go_wp2
    go_ret
    exact ⟨by simp, rfl⟩

set_option maxRecDepth 100000 in
theorem beside_any (n : Nat) (hn : n < 9223372036854775808) (w : World) : Calls Tryz.prog 102 #[.int .i64 (n : Int)] w fun e w' => e = .returned (.int .i64 ((sib n : Nat) : Int)) ∧ w' = w := by
  have hx := xor_one n hn
  go_enter Tryz.func102, Tryz.ntmps102
  go_wp2
  go_ret
  exact ⟨rfl, rfl⟩

set_option maxRecDepth 100000 in
theorem half_any (n : Nat) (hn : n < 9223372036854775808) (w : World) : Calls Tryz.prog 122 #[.int .i64 (n : Int)] w fun e w' => e = .returned (.int .i64 (((n + 1) / 2 : Nat) : Int)) ∧ w' = w := by
  go_enter Tryz.func122, Tryz.ntmps122
  go_wp2
  go_ret
  exact ⟨ret_val (congrArg (Value.int .i64) (by omega)), rfl⟩

set_option maxRecDepth 100000 in
set_option maxHeartbeats 1000000 in
theorem tjoined_any (n : Nat) (a b : List UInt8) (ha : a.length = 32) (hb : b.length = 32) (w : World) (hR : Roots w) :
    Calls Tryz.prog 123 #[.int .i64 (n : Int), .agg (a.map bv).toArray, .agg (b.map bv).toArray] w fun e w' => e = .returned (.agg ((meet pT n a b).map bv).toArray) ∧ Below w.heap.size w w' := by
  have hF0 : Below w.heap.size w (((w.alloc (.cells (a.map bv).toArray 26)).alloc (.cells (b.map bv).toArray 26)).alloc (.cells (List.replicate 32 (Value.int .u8 0)).toArray 26)) := (((Below.refl _ _).alloc (Nat.le_refl _) _).alloc (by simp) _).alloc (by simp; omega) _
  have hA : Box (((w.alloc (.cells (a.map bv).toArray 26)).alloc (.cells (b.map bv).toArray 26)).alloc (.cells (List.replicate 32 (Value.int .u8 0)).toArray 26)) w.heap.size 26 (a.map bv).toArray := ((Box.made w _ _).alloc _).alloc _
  have hB : Box (((w.alloc (.cells (a.map bv).toArray 26)).alloc (.cells (b.map bv).toArray 26)).alloc (.cells (List.replicate 32 (Value.int .u8 0)).toArray 26)) (w.heap.size + 1) 26 (b.map bv).toArray := (Box.made_at (by simp) _ _).alloc _
  have hO : Box (((w.alloc (.cells (a.map bv).toArray 26)).alloc (.cells (b.map bv).toArray 26)).alloc (.cells (List.replicate 32 (Value.int .u8 0)).toArray 26)) (w.heap.size + 1 + 1) 26 (List.replicate 32 (Value.int .u8 0)).toArray := Box.made_at (by simp) _ _
  have HP := Lib.hid (pair_any 1 a b ha hb _ (hR.of_below hF0))
  have HP2 := Lib.hid (pair_any 1 b a hb ha _ (hR.of_below hF0))
  have lA := hA.load_digest ha
  have lB := hB.load_digest hb
  have HF := Lib.hid hF0
  have HO := Lib.hid hO
  clear hA hB hF0 hO
  go_enter Tryz.func123, Tryz.ntmps123
  go_upto_region 1 with fail
  change Code.wp _ _ _ _ (((w.alloc (.cells (a.map bv).toArray 26)).alloc (.cells (b.map bv).toArray 26)).alloc (.cells (List.replicate 32 (Value.int .u8 0)).toArray 26))
  generalize (((w.alloc (.cells (a.map bv).toArray 26)).alloc (.cells (b.map bv).toArray 26)).alloc (.cells (List.replicate 32 (Value.int .u8 0)).toArray 26)) = w1 at *
  by_cases h : n % 2 = 0
  · have h' : decide ((n : Int) % 2 = 0) = true := by simp; omega
    go_wp2_with (go_at_call 141; refine (HP.out).mono ?_; rintro e w2 ⟨rfl, hb1⟩; have HO1 := Lib.hid (HO.out.below hb1 HO.out.lt); have HF1 := Lib.hid (HF.out.trans (hb1.mono HF.out.size)); have sO := HO1.out.store_digest rfl (shaOf (1 :: (a ++ b))) rfl; clear hb1)
    refine bodyPost_ret (v := .agg ((shaOf (1 :: (a ++ b))).map bv).toArray) (results_cell_row rfl _ _ (w.heap.size + 1 + 1) 26 ((shaOf (1 :: (a ++ b))).map bv).toArray (0, 0) _ rfl (HO1.out.cells_all _ rfl) Tryz.underlying26 rfl (dig_size _ rfl)) rfl ⟨?_, below_cells HF1.out (by omega) HF1.out.size _ _⟩
    unfold meet
    rw [if_pos h]
    rfl
  · have h' : decide ((n : Int) % 2 = 0) = false := by simp; omega
    go_wp2_with (go_at_call 141; refine (HP2.out).mono ?_; rintro e w2 ⟨rfl, hb1⟩; have HO1 := Lib.hid (HO.out.below hb1 HO.out.lt); have HF1 := Lib.hid (HF.out.trans (hb1.mono HF.out.size)); have sO := HO1.out.store_digest rfl (shaOf (1 :: (b ++ a))) rfl; clear hb1)
    refine bodyPost_ret (v := .agg ((shaOf (1 :: (b ++ a))).map bv).toArray) (results_cell_row rfl _ _ (w.heap.size + 1 + 1) 26 ((shaOf (1 :: (b ++ a))).map bv).toArray (0, 0) _ rfl (HO1.out.cells_all _ rfl) Tryz.underlying26 rfl (dig_size _ rfl)) rfl ⟨?_, below_cells HF1.out (by omega) HF1.out.size _ _⟩
    unfold meet
    rw [if_neg h]
    rfl
end Go.Proofs.YtejnfgcnifcpaaaGreatDoor

namespace Go.Proofs.YtejnfgcnifcpaaaGreatDoor
open Go.RowKit

attribute [local go_sem ↓] ldDigest_def stDigest_def

/-- What the walk of above carries of memory. -/
structure AbW (w0 : World) (g : Nat) (R : List (List UInt8)) (k : Nat) (w : World) : Prop where
  box : Box w g 26 ((R.take k).flatten.map bv ++ zerosD ((R.length - k) * 32)).toArray
  far : Below w0.heap.size w0 w
  high : w0.heap.size ≤ g
  low : g < w.heap.size
theorem AbW.drew {w0 w : World} {g k : Nat} {R : List (List UInt8)} (h : AbW w0 g R k w) : AbW w0 g R k w.drew := ⟨h.box, h.far.drew, h.high, h.low⟩
theorem AbW.call {w0 w w' : World} {g k : Nat} {R : List (List UInt8)} (h : AbW w0 g R k w) (hb : Below w.heap.size w w') : AbW w0 g R k w' := ⟨h.box.below hb h.low, h.far.trans (hb.mono h.far.size), h.high, Nat.lt_of_lt_of_le h.low hb.size⟩
theorem abw_size {k : Nat} {R : List (List UInt8)} (h : AllD R) (hk : k ≤ R.length) : ((R.take k).flatten.map bv ++ zerosD ((R.length - k) * 32)).toArray.size = R.length * 32 := by
  have := (h.take k).flat
  rw [List.length_take] at this
  unfold zerosD
  rw [List.size_toArray, List.length_append, List.length_map, List.length_replicate, this]
  omega
theorem AbW.put {w0 w : World} {g k : Nat} {R : List (List UInt8)} (h : AbW w0 g R k w) (ha : AllD R) (hk : k < R.length) : AbW w0 g R (k + 1) (w.setCells g (k * 32) ((R.getD k []).map bv)) := by
  have hf := (ha.take k).flat
  rw [List.length_take] at hf
  have hb := h.box
  have e : zerosD ((R.length - k) * 32) = zerosD 32 ++ zerosD ((R.length - (k + 1)) * 32) := by
    unfold zerosD
    rw [List.replicate_append_replicate]
    congr 1
    omega
  rw [e] at hb
  have hp := hb.put_mid (o := k * 32) (vs := (R.getD k []).map bv) (by rw [List.length_map, hf]; omega) (by rw [List.length_map, ha.get hk []]; unfold zerosD; rw [List.length_replicate])
  have e2 : (R.take k).flatten.map bv ++ ((R.getD k []).map bv ++ zerosD ((R.length - (k + 1)) * 32)) = (R.take (k + 1)).flatten.map bv ++ zerosD ((R.length - (k + 1)) * 32) := by
    rw [List.take_succ_eq_append_getElem hk, List.flatten_append, List.map_append, List.append_assoc, List.getD_eq_getElem?_getD, List.getElem?_eq_getElem hk]
    simp
  rw [e2] at hp
  have hh := h.high
  have hl := h.low
  have hg := only_cells (g := g) ((R.getD k []).map bv) (k * 32) w
  exact ⟨hp, below_cells h.far h.high h.far.size _ _, hh, Nat.lt_of_lt_of_le hl hg.size⟩

set_option maxRecDepth 100000 in
set_option maxHeartbeats 2000000 in
theorem above_any (ds : List (List UInt8)) (A : Option Addr) (c : Nat) (w : World) (hD : Digs w w.heap.size A ds) (hn : ds.length ≤ 1099511627776) (hR : Roots w) :
    Calls Tryz.prog 96 #[.slice A ds.length c] w fun e w' => ∃ g, e = .returned (.slice (some ⟨g, 0, none⟩) ((ds.length + 1) / 2) ((ds.length + 1) / 2)) ∧ Digs w' w'.heap.size (some ⟨g, 0, none⟩) (up pT ds) ∧ Below w.heap.size w w' ∧ w.heap.size ≤ g := by
  have HD := Lib.hid hD
  have HR := Lib.hid hR
  clear hD hR
  have hh := half_any ds.length (by omega) w
  have hm := up_length pT ds
  rw [← hm] at hh ⊢
  have hau := HD.out.all.up
  have HM := Lib.hid hm
  have HAU := Lib.hid hau
  have hup := fun i => up_pair pT [] ds i
  have hul := fun i => up_last pT [] ds i
  have HUP := Lib.hid hup
  have HUL := Lib.hid hul
  clear hm hau hup hul
  generalize up pT ds = R at *
  have hmk := make_digs R.length (by have := HM.out; omega)
  have HH := Lib.hid hh
  clear hh
  go_enter Tryz.func96, Tryz.ntmps96
  go_wp2_with (go_at_call 122; refine (HH.out).mono ?_; rintro e w1 ⟨rfl, rfl⟩)
  have HA0 : Hid (AbW w1 w1.heap.size R 0 (w1.alloc (.cells (zerosD (R.length * 32)).toArray 26))) := by
    refine ⟨?_, (Below.refl _ _).alloc (Nat.le_refl _) _, Nat.le_refl _, by simp⟩
    have := Box.made w1 26 (zerosD (R.length * 32)).toArray
    simpa using this
  clear HH hmk
  generalize w1.alloc (.cells (zerosD (R.length * 32)).toArray 26) = w2 at *
  go_loopw [12] (fun i wr => ∃ k : Nat, k ≤ R.length ∧ i = .int .i64 k ∧ Hid (AbW w1 w1.heap.size R k wr)) (fun i _ => R.length - (intOf i).toNat)
  case atStart => exact ⟨0, Nat.zero_le _, rfl, HA0⟩
  case round =>
    clear HA0
    obtain ⟨k, hk, rfl, HW⟩ := hrel
    by_cases hlt : k < R.length
    · have hw2 : IntKind.i64.wrap (2 * (k : Int)) = ((2 * k : Nat) : Int) := by
        have := HM.out
        rw [IntWalk.i64_in _ (by omega)]
        omega
      have HBS := Lib.hid (beside_any (2 * k) (by have := HM.out; omega) wr)
      have hsb : sib (2 * k) = 2 * k + 1 := by unfold sib; rw [if_pos (by omega)]
      rw [hsb] at HBS
      by_cases hodd : 2 * k + 1 < ds.length
      · have hodd' : decide (((2 * k + 1 : Nat) : Int) < (ds.length : Int)) = true := by simp; omega
        go_upto_region 7 with (go_at_call 102; refine (HBS.out).mono ?_; rintro e w3 ⟨rfl, rfl⟩)
        have hD3 := (HD.out.keep (w' := w3.drew) (fun p hp => HW.out.far.drew.cell hp))
        obtain ⟨g0, o0, rfl, hg0, _⟩ := hD3.some_ (by omega)
        have lA := hD3.load (k := 2 * k) (by omega)
        have lB := hD3.load (k := 2 * k + 1) (by omega)
        have hHJ := tjoined_any (2 * k) (ds.getD (2 * k) []) (ds.getD (2 * k + 1) []) (HD.out.all.get (by omega) []) (HD.out.all.get (by omega) []) w3.drew (HR.out.of_below HW.out.far.drew)
        have hcast : ((2 * k : Nat) : Int) = 2 * (k : Int) := by omega
        have hmt : meet pT (2 * k) (ds.getD (2 * k) []) (ds.getD (2 * k + 1) []) = R.getD k [] := by
          rw [HUP.out k hodd]
          unfold meet
          rw [if_pos (by omega)]
        rw [hcast, hmt] at hHJ
        have HJ := Lib.hid hHJ
        have HRD := Lib.hid (HAU.out.get hlt [])
        have i1 : (2 : Int) * (k : Int) < (ds.length : Int) := by omega
        have i3 : (k : Int) < (R.length : Int) := by omega
        have i2 : (2 : Int) * (k : Int) + 1 < (ds.length : Int) := by omega
        have HW3 := Lib.hid HW.out.drew
        generalize ds.getD (2 * k) [] = x at *
        generalize ds.getD (2 * k + 1) [] = y at *
        clear hHJ hD3 HBS hsb hw2 hcast hmt
        have HZ := Lib.hid (abw_size HAU.out (Nat.le_of_lt hlt))
        have HPUT : Hid (∀ w, AbW w1 w1.heap.size R k w → AbW w1 w1.heap.size R (k + 1) (w.setCells w1.heap.size (k * 32) ((R.getD k []).map bv))) := fun w h => h.put HAU.out hlt
        generalize R.getD k [] = r at *
        have i4 : (0 : Int) ≤ 2 * (k : Int) + 1 := by omega
        have i5 : (0 : Int) ≤ 2 * (k : Int) := by omega
        have t1 : (2 * (k : Int)).toNat = 2 * k := by omega
        have t2 : IntKind.i64.wrap (2 * (k : Int) + 1) = 2 * (k : Int) + 1 := IntWalk.i64_in _ (by omega)
        have t3 : (2 * (k : Int) + 1).toNat = 2 * k + 1 := by omega
        go_region_with (go_at_call 123; refine (HJ.out).mono ?_; rintro e w6 ⟨rfl, hb6⟩; have HW6 := Lib.hid (HW3.out.call hb6); clear hb6; have hst := HW6.out.box.store_mid (o := k * 32) (by rw [HZ.out]; omega) r HRD.out)
        all_goals
          have HW7 := Lib.hid (HPUT.out _ HW6.out)
          clear hst lA lB HW6 HW3 HJ HPUT
          generalize w6.setCells w1.heap.size (k * 32) (r.map bv) = w7 at *
          go_wp2
          go_roundw
          case rel => exact ⟨k + 1, hlt, by go_num, HW7⟩
          case measure => simp [intOf]; omega
      · have hlen : 2 * k + 1 = ds.length := by have := HM.out; omega
        have hodd' : decide (((2 * k + 1 : Nat) : Int) < (ds.length : Int)) = false := by simp; omega
        have hD3 := (HD.out.keep (w' := wr) (fun p hp => HW.out.far.cell hp))
        obtain ⟨g0, o0, rfl, hg0, _⟩ := hD3.some_ (by omega)
        have lA := hD3.load (k := 2 * k) (by omega)
        have i1 : (2 : Int) * (k : Int) < (ds.length : Int) := by omega
        have HZ := Lib.hid (abw_size HAU.out (Nat.le_of_lt hlt))
        rw [← HUL.out k hlen] at lA
        have hst := HW.out.box.store_mid (o := k * 32) (by rw [HZ.out]; omega) (R.getD k []) (HAU.out.get hlt [])
        have HW7 := Lib.hid (HW.out.put HAU.out hlt)
        clear hD3 HW
        generalize R.getD k [] = r at *
        go_wp2_with (go_at_call 102; refine (HBS.out).mono ?_; rintro e w3 ⟨rfl, rfl⟩)
        clear hst lA
        go_roundw
        case rel => exact ⟨k + 1, hlt, by go_num, HW7⟩
        case measure => simp [intOf]; omega
    · obtain rfl : k = R.length := by omega
      have hb := HW.out.box
      rw [List.take_length, Nat.sub_self, Nat.zero_mul, show zerosD 0 = [] from rfl, List.append_nil] at hb
      have HQ : Hid (Digs wr wr.heap.size (some ⟨w1.heap.size, 0, none⟩) R) := ⟨HAU.out, by have h := Sees.of_box hb hb.lt; simpa using h⟩
      go_wp2
      go_ret
      exact ⟨w1.heap.size, rfl, HQ.out, HW.out.far, Nat.le_refl _⟩
end Go.Proofs.YtejnfgcnifcpaaaGreatDoor

namespace Go.Proofs.YtejnfgcnifcpaaaGreatDoor
open Go.RowKit

attribute [local go_sem ↓] ldDigest_def stDigest_def

/-- The root of digests' rows. -/
def rootT (ds : List (List UInt8)) : List UInt8 := top pT (shaOf []) ds
theorem rootT_len : ∀ (N : Nat) (ds : List (List UInt8)), ds.length ≤ N → AllD ds → (rootT ds).length = 32
  | 0, ds, hN, _ => by
    unfold rootT
    rw [top_one pT _ (by omega), List.getD_eq_getElem?_getD, List.getElem?_eq_none (by omega)]
    rfl
  | N + 1, ds, hN, h => by
    unfold rootT
    by_cases hl : ds.length ≤ 1
    · rw [top_one pT _ hl]
      rcases Nat.lt_or_ge 0 ds.length with hp | hp
      · exact h.get hp _
      · rw [List.getD_eq_getElem?_getD, List.getElem?_eq_none hp]
        rfl
    · rw [top_up pT _ (by omega)]
      exact rootT_len N _ (by rw [up_length]; omega) h.up
theorem AllD.root {ds : List (List UInt8)} (h : AllD ds) : (rootT ds).length = 32 := rootT_len _ ds (Nat.le_refl _) h
set_option maxRecDepth 100000 in
set_option maxHeartbeats 1000000 in
theorem root_any (ds : List (List UInt8)) (A : Option Addr) (c : Nat) (w : World) (hD : Digs w w.heap.size A ds) (hn : ds.length ≤ 1099511627776) (hR : Roots w) :
    Calls Tryz.prog 53 #[.slice A ds.length c] w fun e w' => e = .returned (.agg ((rootT ds).map bv).toArray) ∧ Below w.heap.size w w' := by
  have hF0 : Below w.heap.size w (w.alloc (.cells (zerosD 32).toArray 26)) := (Below.refl _ _).alloc (Nat.le_refl _) _
  have HW0 : Hid (RtW w (w.alloc (.cells (zerosD 32).toArray 26))) := ⟨Box.made w _ _, hF0⟩
  have HD0 := Lib.hid (hD.far hF0)
  have HR0 := Lib.hid (hR.of_below hF0)
  have HR := Lib.hid hR
  go_enter Tryz.func53, Tryz.ntmps53
  go_upto_region 1 with fail
  change Code.wp _ _ _ _ (w.alloc (.cells (zerosD 32).toArray 26))
  generalize w.alloc (.cells (zerosD 32).toArray 26) = w1 at *
  clear hF0 hD
  by_cases h0 : ds.length = 0
  · have h0' : decide ((ds.length : Int) = 0) = true := decide_eq_true (by omega)
    have hof := of_any [] none 0 w1 ⟨[], rfl, .inl rfl, fun i hi => by simp at hi⟩ (by simp) (by decide) HR0.out
    have HOF := Lib.hid hof
    clear hof
    have hroot : Hid (rootT ds = shaOf ([] : List (List UInt8)).flatten) := by
      show _ = _
      unfold rootT
      rw [top_one pT _ (by omega), List.getD_eq_getElem?_getD, List.getElem?_eq_none (by omega)]
      rfl
    have hdl : (shaOf ([] : List (List UInt8)).flatten).length = 32 := rfl
    generalize shaOf ([] : List (List UInt8)).flatten = d at *
    go_wp2_with (go_at_call 55; refine (HOF.out).mono ?_; rintro e w2 ⟨rfl, hb2⟩; have HW2 := Lib.hid (HW0.out.call hb2); clear hb2; have hst := HW2.out.out.store_digest rfl d hdl)
    exact ret_dig rfl rfl rfl (HW2.out.out.cells_dig rfl hdl) hdl ⟨by rw [hroot.out], below_cells HW2.out.far (Nat.le_refl _) HW2.out.far.size _ _⟩
  · have h0' : ((ds.length : Int) == 0) = false := by
      rw [beq_eq_false_iff_ne]
      omega
    go_wp2_with fail
    go_loopw [3] (fun v wr => ∃ (es : List (List UInt8)) (A' : Option Addr) (c' : Nat), v = .slice A' es.length c' ∧ 0 < es.length ∧ es.length ≤ ds.length ∧ Hid (Digs wr wr.heap.size A' es) ∧ Hid (rootT es = rootT ds) ∧ Hid (RtW w wr)) (fun v _ => lenOfV v)
    case atStart => exact ⟨ds, A, c, rfl, by omega, Nat.le_refl _, HD0, rfl, HW0⟩
    case round =>
      clear HD0 HW0
      obtain ⟨es, A', c', rfl, hpos, hle, HD, HT, HW⟩ := hrel
      by_cases hl : 1 < es.length
      · have hl' : decide ((1 : Int) < (es.length : Int)) = true := decide_eq_true (by omega)
        have HA := Lib.hid (above_any es A' c' wr HD.out (by omega) (HR.out.of_below HW.out.far))
        go_wp2_with (go_at_call 96; refine (HA.out).mono ?_; rintro e w2 ⟨g, rfl, hd2, hb2, _⟩; have HD2 := Lib.hid hd2; have HW2 := Lib.hid (HW.out.call hb2); clear hd2 hb2)
        have hul : (up pT es).length = (es.length + 1) / 2 := up_length pT es
        have HT2 : Hid (rootT (up pT es) = rootT ds) := by
          rw [← HT.out]
          exact (top_up pT _ hl).symm
        go_roundw
        case rel => exact ⟨up pT es, some ⟨g, 0, none⟩, (es.length + 1) / 2, by rw [hul], by omega, by omega, HD2, HT2, HW2⟩
        case measure => simp [lenOfV]; omega
      · have hl' : decide ((1 : Int) < (es.length : Int)) = false := decide_eq_false (by omega)
        obtain ⟨g0, o0, rfl, hg0, _⟩ := HD.out.some_ hpos
        have lA := HD.out.load (k := 0) hpos
        have hd0 := HD.out.all.get hpos []
        have hdr : Hid (rootT ds = es.getD 0 []) := by
          rw [← HT.out]
          show top pT _ es = _
          rw [top_one pT _ (by omega), List.getD_eq_getElem?_getD, List.getD_eq_getElem?_getD, List.getElem?_eq_getElem hpos]
          rfl
        have i1 : (0 : Int) < (es.length : Int) := by omega
        rw [Nat.zero_mul, Nat.add_zero] at lA
        generalize es.getD 0 [] = d at *
        have hst := HW.out.out.store_digest rfl d hd0
        go_wp2
        exact ret_dig rfl rfl rfl (HW.out.out.cells_dig rfl hd0) hd0 ⟨by rw [hdr.out], below_cells HW.out.far (Nat.le_refl _) HW.out.far.size _ _⟩
end Go.Proofs.YtejnfgcnifcpaaaGreatDoor

namespace Go.Proofs.YtejnfgcnifcpaaaGreatDoor
open Go.RowKit

attribute [local go_sem ↓] ldDigest_def stDigest_def

set_option maxRecDepth 100000 in
set_option maxHeartbeats 1000000 in
theorem leaf_any (l : List UInt8) (A : Option Addr) (c : Nat) (w : World) (hS : Sees w w.heap.size A (l.map bv)) (hc : l.length ≤ c) (hm : c ≤ maxLen) (hl : l.length ≤ 1099511627776) (hR : Roots w) :
    Calls Tryz.prog 92 #[.slice A l.length c] w fun e w' => e = .returned (.agg ((shaOf (0 :: l)).map bv).toArray) ∧ Below w.heap.size w w' := by
  have hF0 : Below w.heap.size w (w.alloc (.cells (zerosD 32).toArray 26)) := (Below.refl _ _).alloc (Nat.le_refl _) _
  have HW0 : Hid (RtW w (w.alloc (.cells (zerosD 32).toArray 26))) := ⟨Box.made w _ _, hF0⟩
  have hS1 := (hS.below hF0).more hF0.size
  have hR1 := hR.of_below hF0
  go_enter Tryz.func92, Tryz.ntmps92
  go_upto_region 1 with fail
  change Code.wp _ _ _ _ (w.alloc (.cells (zerosD 32).toArray 26))
  generalize w.alloc (.cells (zerosD 32).toArray 26) = w1 at *
  have hB0 : Box ((w1.alloc (.cells #[bv 0] 5)).alloc (.cells #[.slice (some ⟨w1.heap.size, 0, none⟩) 1 1, .slice A l.length c] 35)) w1.heap.size 5 #[bv 0] := (Box.made w1 _ _).alloc _
  have hB1 : Box ((w1.alloc (.cells #[bv 0] 5)).alloc (.cells #[.slice (some ⟨w1.heap.size, 0, none⟩) 1 1, .slice A l.length c] 35)) (w1.heap.size + 1) 35 #[.slice (some ⟨w1.heap.size, 0, none⟩) 1 1, .slice A l.length c] := Box.made_at (by simp) _ _
  have hF2 : Below w1.heap.size w1 ((w1.alloc (.cells #[bv 0] 5)).alloc (.cells #[.slice (some ⟨w1.heap.size, 0, none⟩) 1 1, .slice A l.length c] 35)) := ((Below.refl _ _).alloc (Nat.le_refl _) _).alloc (by simp) _
  have hP := Pieces.two (p := [0]) (q := l) hB1 hB1.lt (Nat.le_refl 1) (by simp [maxLen]) (Sees.of_box hB0 hB0.lt) hc hm ((hS1.below hF2).more hF2.size)
  have hof := of_any [[0], l] (some ⟨w1.heap.size + 1, 0, none⟩) 2 _ hP (by simp) (by simp; omega) (hR1.of_below hF2)
  have hfl : ([[0], l] : List (List UInt8)).flatten = 0 :: l := by simp
  rw [hfl] at hof
  have HOF := Lib.hid hof
  have HF2 := Lib.hid hF2
  have hdl : (shaOf (0 :: l)).length = 32 := rfl
  generalize hd : shaOf (0 :: l) = d at *
  have HDE := Lib.hid hd
  clear hd hof hF2 hP hB0 hB1 hS hS1 hR hR1 hF0
  go_wp2_with (go_at_call 55; refine (HOF.out).mono ?_; rintro e w2 ⟨rfl, hb2⟩; have HW2 := Lib.hid (HW0.out.call (HF2.out.trans (hb2.mono HF2.out.size))); clear hb2; have hst := HW2.out.out.store_digest rfl d hdl)
  exact ret_dig rfl rfl rfl (HW2.out.out.cells_dig rfl hdl) hdl ⟨by rw [HDE.out], below_cells HW2.out.far (Nat.le_refl _) HW2.out.far.size _ _⟩
end Go.Proofs.YtejnfgcnifcpaaaGreatDoor
