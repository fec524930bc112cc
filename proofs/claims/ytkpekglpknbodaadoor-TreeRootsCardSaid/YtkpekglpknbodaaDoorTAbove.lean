/-
  Package tree: above.
-/
import Derived.Test.YtkpekglpknbodaaDoorTSmall
namespace Go.Proofs.YtkpekglpknbodaaDoor
open Go.RowKit

attribute [local go_sem ↓] ldDigest_def stDigest_def

def zerosD (n : Nat) : List Value := List.replicate n (.int .u8 0)
theorem made_same (K n : Nat) (z : Value) : (madeCells (List.replicate (K + 1) z).toArray n).toList = List.replicate n z := by
  apply List.ext_getElem?
  intro j
  by_cases hj : j < n
  · have h := Nat.mod_lt j (Nat.succ_pos K)
    simp [madeCells, hj, h]
  · simp [madeCells, hj]
theorem made_zeros (n : Nat) : madeCells (List.replicate 32 (Value.int .u8 0)).toArray n = (zerosD n).toArray := by
  apply Array.ext'
  rw [made_same 31 n (.int .u8 0)]
  rfl
theorem make_digs (n : Nat) (hn : n ≤ 1099511627776) (w : World) :
    (Instr.makeSlice 23 (.int .i64 (n : Int)) (.int .i64 (n : Int))).run Tryd.prog w = .ok (.slice (some ⟨w.heap.size, 0, none⟩) n n) (w.alloc (.cells (zerosD (n * 32)).toArray 29)) := by
  obtain ⟨i0, hi0, hz0, hz1, hz2⟩ := info_parts dig_info3
  have hr := run_make (P := Tryd.prog) w 23 29 i0 _ Tryd.underlying23 hi0 hz0 .i64 .i64 n n (by omega) (Int.le_refl _) (by rw [hz2]; omega) (by omega)
  rw [hr, Int.toNat_natCast, hz1]
  show Result.ok _ (w.alloc (.cells (madeCells (List.replicate 32 (Value.int .u8 0)).toArray (n * 32)) _)) = _
  rw [made_zeros]

/-- What the walk of above carries of memory. -/
structure AbW (w0 : World) (g : Nat) (R : List (List UInt8)) (k : Nat) (w : World) : Prop where
  box : Box w g 29 ((R.take k).flatten.map bv ++ zerosD ((R.length - k) * 32)).toArray
  far : Below w0.heap.size w0 w
  high : w0.heap.size ≤ g
  low : g < w.heap.size
theorem AbW.drew {w0 w : World} {g k : Nat} {R : List (List UInt8)} (h : AbW w0 g R k w) : AbW w0 g R k w.drew := ⟨h.box, h.far.drew, h.high, h.low⟩
theorem AbW.call {w0 w w' : World} {g k : Nat} {R : List (List UInt8)} (h : AbW w0 g R k w) (hb : Below w.heap.size w w') : AbW w0 g R k w' := ⟨h.box.below hb h.low, h.far.trans (hb.mono h.far.size), h.high, Nat.lt_of_lt_of_le h.low hb.size⟩
theorem abw_size {k : Nat} {R : List (List UInt8)} (h : AllD R) (hk : k ≤ R.length) : ((R.take k).flatten.map bv ++ zerosD ((R.length - k) * 32)).toArray.size = R.length * 32 := by
  have := (h.take k).flat
  rw [List.length_take] at this
  unfold zerosD
  rw [List.size_toArray, List.length_append, List.length_map, List.length_replicate, this]
  omega
theorem AbW.put {w0 w : World} {g k : Nat} {R : List (List UInt8)} (h : AbW w0 g R k w) (ha : AllD R) (hk : k < R.length) : AbW w0 g R (k + 1) (w.setCells g (k * 32) ((R.getD k []).map bv)) := by
  have hf := (ha.take k).flat
  rw [List.length_take] at hf
  have hb := h.box
  have e : zerosD ((R.length - k) * 32) = zerosD 32 ++ zerosD ((R.length - (k + 1)) * 32) := by
    unfold zerosD
    rw [List.replicate_append_replicate]
    congr 1
    omega
  rw [e] at hb
  have hp := hb.put_mid (o := k * 32) (vs := (R.getD k []).map bv) (by rw [List.length_map, hf]; omega) (by rw [List.length_map, ha.get hk []]; unfold zerosD; rw [List.length_replicate])
  have e2 : (R.take k).flatten.map bv ++ ((R.getD k []).map bv ++ zerosD ((R.length - (k + 1)) * 32)) = (R.take (k + 1)).flatten.map bv ++ zerosD ((R.length - (k + 1)) * 32) := by
    rw [List.take_succ_eq_append_getElem hk, List.flatten_append, List.map_append, List.append_assoc, List.getD_eq_getElem?_getD, List.getElem?_eq_getElem hk]
    simp
  rw [e2] at hp
  have hh := h.high
  have hl := h.low
  have hg := only_cells (g := g) ((R.getD k []).map bv) (k * 32) w
  exact ⟨hp, below_cells h.far h.high h.far.size _ _, hh, Nat.lt_of_lt_of_le hl hg.size⟩

set_option maxRecDepth 100000 in
set_option maxHeartbeats 2000000 in
theorem above_any (ds : List (List UInt8)) (A : Option Addr) (c : Nat) (w : World) (hD : Digs w w.heap.size A ds) (hn : ds.length ≤ 1099511627776) (hR : Roots w) :
    Calls Tryd.prog 21 #[.slice A ds.length c] w fun e w' => ∃ g, e = .returned (.slice (some ⟨g, 0, none⟩) ((ds.length + 1) / 2) ((ds.length + 1) / 2)) ∧ Digs w' w'.heap.size (some ⟨g, 0, none⟩) (up pT ds) ∧ Below w.heap.size w w' ∧ w.heap.size ≤ g := by
  have HD := Lib.hid hD
  have HR := Lib.hid hR
  clear hD hR
  have hh := half_any ds.length (by omega) w
  have hm := up_length pT ds
  rw [← hm] at hh ⊢
  have hau := HD.out.all.up
  have HM := Lib.hid hm
  have HAU := Lib.hid hau
  have hup := fun i => up_pair pT [] ds i
  have hul := fun i => up_last pT [] ds i
  have HUP := Lib.hid hup
  have HUL := Lib.hid hul
  clear hm hau hup hul
  generalize up pT ds = R at *
  have hmk := make_digs R.length (by have := HM.out; omega)
  have HH := Lib.hid hh
  clear hh
  go_enter Tryd.func21, Tryd.ntmps21
  go_wp2_with (go_at_call 27; refine (HH.out).mono ?_; rintro e w1 ⟨rfl, rfl⟩)
  have HA0 : Hid (AbW w1 w1.heap.size R 0 (w1.alloc (.cells (zerosD (R.length * 32)).toArray 29))) := by
    refine ⟨?_, (Below.refl _ _).alloc (Nat.le_refl _) _, Nat.le_refl _, by simp⟩
    have := Box.made w1 29 (zerosD (R.length * 32)).toArray
    simpa using this
  clear HH hmk
  generalize w1.alloc (.cells (zerosD (R.length * 32)).toArray 29) = w2 at *
  go_loopw [12] (fun i wr => ∃ k : Nat, k ≤ R.length ∧ i = .int .i64 k ∧ Hid (AbW w1 w1.heap.size R k wr)) (fun i _ => R.length - (intOf i).toNat)
  case atStart => exact ⟨0, Nat.zero_le _, rfl, HA0⟩
  case round =>
    clear HA0
    obtain ⟨k, hk, rfl, HW⟩ := hrel
    by_cases hlt : k < R.length
    · have hw2 : IntKind.i64.wrap (2 * (k : Int)) = ((2 * k : Nat) : Int) := by
        have := HM.out
        rw [IntWalk.i64_in _ (by omega)]
        omega
      have HBS := Lib.hid (beside_any (2 * k) (by have := HM.out; omega) wr)
      have hsb : sib (2 * k) = 2 * k + 1 := by unfold sib; rw [if_pos (by omega)]
      rw [hsb] at HBS
      by_cases hodd : 2 * k + 1 < ds.length
      · have hodd' : decide (((2 * k + 1 : Nat) : Int) < (ds.length : Int)) = true := by simp; omega
        go_upto_region 7 with (go_at_call 22; refine (HBS.out).mono ?_; rintro e w3 ⟨rfl, rfl⟩)
        have hD3 := (HD.out.keep (w' := w3.drew) (fun p hp => HW.out.far.drew.cell hp))
        obtain ⟨g0, o0, rfl, hg0, _⟩ := hD3.some_ (by omega)
        have lA := hD3.load (k := 2 * k) (by omega)
        have lB := hD3.load (k := 2 * k + 1) (by omega)
        have hHJ := tjoined_any (2 * k) (ds.getD (2 * k) []) (ds.getD (2 * k + 1) []) (HD.out.all.get (by omega) []) (HD.out.all.get (by omega) []) w3.drew (HR.out.of_below HW.out.far.drew)
        have hcast : ((2 * k : Nat) : Int) = 2 * (k : Int) := by omega
        have hmt : meet pT (2 * k) (ds.getD (2 * k) []) (ds.getD (2 * k + 1) []) = R.getD k [] := by
          rw [HUP.out k hodd]
          unfold meet
          rw [if_pos (by omega)]
        rw [hcast, hmt] at hHJ
        have HJ := Lib.hid hHJ
        have HRD := Lib.hid (HAU.out.get hlt [])
        have i1 : (2 : Int) * (k : Int) < (ds.length : Int) := by omega
        have i3 : (k : Int) < (R.length : Int) := by omega
        have i2 : (2 : Int) * (k : Int) + 1 < (ds.length : Int) := by omega
        have HW3 := Lib.hid HW.out.drew
        generalize ds.getD (2 * k) [] = x at *
        generalize ds.getD (2 * k + 1) [] = y at *
        clear hHJ hD3 HBS hsb hw2 hcast hmt
        have HZ := Lib.hid (abw_size HAU.out (Nat.le_of_lt hlt))
        have HPUT : Hid (∀ w, AbW w1 w1.heap.size R k w → AbW w1 w1.heap.size R (k + 1) (w.setCells w1.heap.size (k * 32) ((R.getD k []).map bv))) := fun w h => h.put HAU.out hlt
        generalize R.getD k [] = r at *
        have i4 : (0 : Int) ≤ 2 * (k : Int) + 1 := by omega
        have i5 : (0 : Int) ≤ 2 * (k : Int) := by omega
        have t1 : (2 * (k : Int)).toNat = 2 * k := by omega
        have t2 : IntKind.i64.wrap (2 * (k : Int) + 1) = 2 * (k : Int) + 1 := IntWalk.i64_in _ (by omega)
        have t3 : (2 * (k : Int) + 1).toNat = 2 * k + 1 := by omega
        go_region_with (go_at_call 26; refine (HJ.out).mono ?_; rintro e w6 ⟨rfl, hb6⟩; have HW6 := Lib.hid (HW3.out.call hb6); clear hb6; have hst := HW6.out.box.store_mid (o := k * 32) (by rw [HZ.out]; omega) r HRD.out)
        all_goals
          have HW7 := Lib.hid (HPUT.out _ HW6.out)
          clear hst lA lB HW6 HW3 HJ HPUT
          generalize w6.setCells w1.heap.size (k * 32) (r.map bv) = w7 at *
          go_wp2
          go_roundw
          case rel => exact ⟨k + 1, hlt, by go_num, HW7⟩
          case measure => simp [intOf]; omega
      · have hlen : 2 * k + 1 = ds.length := by have := HM.out; omega
        have hodd' : decide (((2 * k + 1 : Nat) : Int) < (ds.length : Int)) = false := by simp; omega
        have hD3 := (HD.out.keep (w' := wr) (fun p hp => HW.out.far.cell hp))
        obtain ⟨g0, o0, rfl, hg0, _⟩ := hD3.some_ (by omega)
        have lA := hD3.load (k := 2 * k) (by omega)
        have i1 : (2 : Int) * (k : Int) < (ds.length : Int) := by omega
        have HZ := Lib.hid (abw_size HAU.out (Nat.le_of_lt hlt))
        rw [← HUL.out k hlen] at lA
        have hst := HW.out.box.store_mid (o := k * 32) (by rw [HZ.out]; omega) (R.getD k []) (HAU.out.get hlt [])
        have HW7 := Lib.hid (HW.out.put HAU.out hlt)
        clear hD3 HW
        generalize R.getD k [] = r at *
        go_wp2_with (go_at_call 22; refine (HBS.out).mono ?_; rintro e w3 ⟨rfl, rfl⟩)
        clear hst lA
        go_roundw
        case rel => exact ⟨k + 1, hlt, by go_num, HW7⟩
        case measure => simp [intOf]; omega
    · obtain rfl : k = R.length := by omega
      have hb := HW.out.box
      rw [List.take_length, Nat.sub_self, Nat.zero_mul, show zerosD 0 = [] from rfl, List.append_nil] at hb
      have HQ : Hid (Digs wr wr.heap.size (some ⟨w1.heap.size, 0, none⟩) R) := ⟨HAU.out, by have h := Sees.of_box hb hb.lt; simpa using h⟩
      go_wp2
      go_ret
      exact ⟨w1.heap.size, rfl, HQ.out, HW.out.far, Nat.le_refl _⟩
end Go.Proofs.YtkpekglpknbodaaDoor
