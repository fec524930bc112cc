/-
  wapentakeref03.Root and Path.
-/
import Derived.Test.YtkpekglpknbodaaDoorTRAbove
namespace Go.Proofs.YtkpekglpknbodaaDoor
open Go.RowKit

attribute [local go_sem ↓] ldDigest_def stDigest_def bsAll_def apAll_def

set_option maxRecDepth 100000 in
set_option maxHeartbeats 1000000 in
theorem rroot_all (N : Nat) : ∀ (ds : List (List UInt8)) (A : Option Addr) (c : Nat) (w : World), ds.length ≤ N → Digs w w.heap.size A ds → ds.length ≤ 1099511627000 →
    Calls Tryd.prog 15 #[.slice A ds.length c] w fun e w' => e = .returned (.agg ((rootT ds).map bv).toArray) ∧ Below w.heap.size w w' := by
  induction N with
  | zero =>
    intro ds A c w hN hD hn
    have h0 : ds = [] := List.eq_nil_of_length_eq_zero (by omega)
    subst h0
    have hF0 : Below w.heap.size w (w.alloc (.cells (zerosD 32).toArray 29)) := (Below.refl _ _).alloc (Nat.le_refl _) _
    have HW0 : Hid (RtW w (w.alloc (.cells (zerosD 32).toArray 29))) := ⟨Box.made w _ _, hF0⟩
    have hr : rootT [] = shaOf [] := by
      unfold rootT
      rw [top_one pT _ (by simp)]
      rfl
    have HT := Lib.hid (text_any [] (by simp) (w.alloc (.cells (zerosD 32).toArray 29)))
    rw [← hr] at HT
    have hdl : (rootT []).length = 32 := by rw [hr]; rfl
    clear hr hF0 hD
    go_enter Tryd.func15, Tryd.ntmps15
    go_upto_region 1 with fail
    change Code.wp _ _ _ _ (w.alloc (.cells (zerosD 32).toArray 29))
    generalize w.alloc (.cells (zerosD 32).toArray 29) = w1 at *
    generalize hd : rootT [] = d at *
    have HDE := Lib.hid hd
    clear hd
    go_wp2_with (go_at_call 25; refine (HT.out).mono ?_; rintro e w2 ⟨rfl, hb2⟩; have HW2 := Lib.hid (HW0.out.call hb2); clear hb2; have hst := HW2.out.out.store_digest rfl d hdl)
    exact ret_dig rfl rfl rfl (HW2.out.out.cells_dig rfl hdl) hdl ⟨by first | rfl | rw [HDE.out], below_cells HW2.out.far (Nat.le_refl _) HW2.out.far.size _ _⟩
  | succ N ih =>
    intro ds A c w hN hD hn
    by_cases h0 : ds.length = 0
    · exact ih ds A c w (by omega) hD hn
    have hF0 : Below w.heap.size w (w.alloc (.cells (zerosD 32).toArray 29)) := (Below.refl _ _).alloc (Nat.le_refl _) _
    have HW0 : Hid (RtW w (w.alloc (.cells (zerosD 32).toArray 29))) := ⟨Box.made w _ _, hF0⟩
    have hD1 := hD.far hF0
    have hdl := hD.all.root
    have h0' : ((ds.length : Int) == 0) = false := by
      rw [beq_eq_false_iff_ne]
      omega
    by_cases h1 : ds.length = 1
    · have h1' : ((ds.length : Int) == 1) = true := by
        rw [beq_iff_eq]
        omega
      obtain ⟨g0, o0, rfl, _, _⟩ := hD1.some_ (by omega)
      have lA := hD1.load (k := 0) (by omega)
      rw [Nat.zero_mul, Nat.add_zero] at lA
      have hr : ds.getD 0 [] = rootT ds := by
        show _ = top pT _ ds
        rw [top_one pT _ (by omega), List.getD_eq_getElem?_getD, List.getD_eq_getElem?_getD, List.getElem?_eq_getElem (by omega)]
        rfl
      rw [hr] at lA
      have i1 : (0 : Int) < (ds.length : Int) := by omega
      have hst := HW0.out.out.store_digest rfl (rootT ds) hdl
      clear hr hF0 hD1 hD
      generalize hd : rootT ds = d at *
      have HDE := Lib.hid hd
      clear hd
      go_enter Tryd.func15, Tryd.ntmps15
      go_upto_region 1 with fail
      change Code.wp _ _ _ _ (w.alloc (.cells (zerosD 32).toArray 29))
      generalize w.alloc (.cells (zerosD 32).toArray 29) = w1 at *
      go_wp2
      exact ret_dig rfl rfl rfl (HW0.out.out.cells_dig rfl hdl) hdl ⟨by first | rfl | rw [HDE.out], below_cells HW0.out.far (Nat.le_refl _) HW0.out.far.size _ _⟩
    · have h1' : ((ds.length : Int) == 1) = false := by
        rw [beq_eq_false_iff_ne]
        omega
      have HAB := Lib.hid (rabove_any ds A c _ hD1 hn)
      have hul := up_length pT ds
      have hr : rootT (up pT ds) = rootT ds := (top_up pT _ (by omega)).symm
      have IH : Hid (∀ (A' : Option Addr) (c' : Nat) (w' : World), Digs w' w'.heap.size A' (up pT ds) → Calls Tryd.prog 15 #[.slice A' (up pT ds).length c'] w' fun e w'' => e = .returned (.agg ((rootT (up pT ds)).map bv).toArray) ∧ Below w'.heap.size w' w'') := fun A' c' w' h => ih _ A' c' w' (by omega) h (by omega)
      rw [hr] at IH
      clear hr hF0 hD1 hD ih hul
      generalize hd : rootT ds = d at *
      have HDE := Lib.hid hd
      clear hd
      generalize up pT ds = R at *
      go_enter Tryd.func15, Tryd.ntmps15
      go_upto_region 1 with fail
      change Code.wp _ _ _ _ (w.alloc (.cells (zerosD 32).toArray 29))
      generalize w.alloc (.cells (zerosD 32).toArray 29) = w1 at *
      go_wp2_with (first
        | (go_at_call 23; refine (HAB.out).mono ?_; rintro e w2 ⟨A2, c2, rfl, hd2, hb2⟩; have HR2 := Lib.hid (IH.out A2 c2 w2 hd2); have HW2 := Lib.hid (HW0.out.call hb2); clear hd2 hb2)
        | (go_at_call 15; refine (HR2.out).mono ?_; rintro e w3 ⟨rfl, hb3⟩; have HW3 := Lib.hid (HW2.out.call hb3); clear hb3; have hst := HW3.out.out.store_digest rfl d hdl))
      exact ret_dig rfl rfl rfl (HW3.out.out.cells_dig rfl hdl) hdl ⟨by first | rfl | rw [HDE.out], below_cells HW3.out.far (Nat.le_refl _) HW3.out.far.size _ _⟩
theorem rroot_any (ds : List (List UInt8)) (A : Option Addr) (c : Nat) (w : World) (hD : Digs w w.heap.size A ds) (hn : ds.length ≤ 1099511627000) :
    Calls Tryd.prog 15 #[.slice A ds.length c] w fun e w' => e = .returned (.agg ((rootT ds).map bv).toArray) ∧ Below w.heap.size w w' := rroot_all ds.length ds A c w (Nat.le_refl _) hD hn

/-- What the document's Path answers. -/
def RPathIs (w0 : World) (ps : List (List UInt8)) (e : Ending) (w : World) : Prop := ∃ A c, e = .returned (.slice A ps.length c) ∧ Digs w w.heap.size A ps ∧ Below w0.heap.size w0 w

/-- append([]Digest{d}, es...): what the frozen append answers. -/
theorem front_dig {w : World} {d : List UInt8} (hd : d.length = 32) {A : Option Addr} {m c : Nat} {es : List (List UInt8)} (hm : m = es.length) (he : Digs w w.heap.size A es) (hle : m + 1 ≤ 1099511627776) :
    ∃ A6 c6 w6, (apAll #[23, 23] 23 #[.slice (some ⟨w.heap.size, 0, none⟩) 1 1, .slice A m c]).run Tryd.prog (w.alloc (.cells (d.map bv).toArray 29)) = .ok (.slice A6 (m + 1) c6) w6 ∧ Digs w6 w6.heap.size A6 (d :: es) ∧ Below w.heap.size w w6 := by
  have hB5 : Below w.heap.size w (w.alloc (.cells (d.map bv).toArray 29)) := (Below.refl _ _).alloc (Nat.le_refl _) _
  have hown := World.ownsRow_lit (base := w.heap.size) (size := 32) w (e := 29) (d.map bv).toArray 1 (Nat.le_refl _) (by simp [maxLen]) (by rw [List.size_toArray, List.length_map, hd])
  have hfl : (d.map bv).toArray.toList = ([d] : List (List UInt8)).flatten.map bv := by simp
  rw [hfl] at hown
  obtain ⟨v6, w6, hap, hown6, hg6⟩ := append_digs (n := 1) (ds := [d]) rfl hown (A := A) (m := m) (c := c) (es := es) hm (he.far hB5) (by omega) hB5.size
  rw [Nat.add_comm 1 m] at hown6
  obtain ⟨A6, c6, rfl⟩ := own_slice_s hown6
  subst hm
  refine ⟨A6, c6, w6, hap, ⟨(AllD.one hd).append he.all, sees_own hown6⟩, hB5.trans (below_own hown hg6 hB5.size)⟩

set_option maxRecDepth 100000 in
set_option maxHeartbeats 1000000 in
theorem rpath_all (N : Nat) : ∀ (ds : List (List UInt8)) (A : Option Addr) (c n : Nat) (w : World), ds.length ≤ N → n < ds.length → Digs w w.heap.size A ds → ds.length ≤ 1099511627000 →
    Calls Tryd.prog 11 #[.slice A ds.length c, .int .i64 (n : Int)] w (RPathIs w (pathT ds n)) := by
  induction N with
  | zero =>
    intro ds A c n w hN hnl hD hn
    omega
  | succ N ih =>
    intro ds A c n w hN hnl hD hn
    by_cases h1 : ds.length ≤ 1
    · have h1' : decide ((ds.length : Int) ≤ 1) = true := decide_eq_true (by omega)
      have hp : pathT ds n = [] := way_one pT _ h1 n
      rw [hp]
      go_enter Tryd.func11, Tryd.ntmps11
      go_wp2
      go_ret
      exact ⟨none, 0, rfl, Digs.empty _ _ _, Below.refl _ _⟩
    · have h1' : decide ((ds.length : Int) ≤ 1) = false := decide_eq_false (by omega)
      have HAB := Lib.hid (rabove_any ds A c w hD hn)
      have hul := up_length pT ds
      have hpe : pathT ds n = (if sib n < ds.length then [ds.getD (sib n) (shaOf [])] else []) ++ pathT (up pT ds) (n / 2) := way_up pT _ (by omega) n
      have HPL : Hid ((pathT (up pT ds) (n / 2)).length + 1 ≤ 1099511627776) := by
        have h1 := way_steps pT (shaOf []) (up pT ds) (n / 2) (by omega)
        have h2 := steps_lt (up pT ds).length (up pT ds).length (n / 2) (Nat.le_refl _) (by omega)
        rw [← h1] at h2
        have h3 := Nat.lt_two_pow_self (n := (way pT (shaOf []) (up pT ds) (n / 2)).length)
        show (way pT (shaOf []) (up pT ds) (n / 2)).length + 1 ≤ _
        omega
      have hi := fun (A' : Option Addr) (c' : Nat) (w' : World) (h : Digs w' w'.heap.size A' (up pT ds)) => ih (up pT ds) A' c' (n / 2) w' (by omega) (by omega) h (by omega)
      have hcast : ((n / 2 : Nat) : Int) = (n : Int) / 2 := by omega
      simp only [hcast] at hi
      have IH := Lib.hid hi
      have HD := Lib.hid hD
      clear ih hi hul hcast hD
      generalize pathT (up pT ds) (n / 2) = us at *
      generalize up pT ds = R at *
      by_cases hodd : n % 2 = 1
      · have ho' : ((n : Int) % 2 == 1) = true := by
          rw [beq_iff_eq]
          omega
        have hs : sib n = n - 1 := by unfold sib; rw [if_neg (by omega)]
        rw [hs, if_pos (by omega)] at hpe
        obtain ⟨g0, o0, rfl, _, _⟩ := HD.out.some_ (by omega)
        have HX := Lib.hid (HD.out.all.get (k := n - 1) (by omega) [])
        rw [show ds.getD (n - 1) (shaOf []) = ds.getD (n - 1) [] by rw [List.getD_eq_getElem?_getD, List.getD_eq_getElem?_getD, List.getElem?_eq_getElem (by omega)]; rfl] at hpe
        generalize hx : ds.getD (n - 1) [] = x at *
        have HXD := Lib.hid hx
        have HPE := Lib.hid hpe
        clear hx hpe
        have hbs := build_one x HX.out
        have i1 : (0 : Int) ≤ (n : Int) - 1 := by omega
        have i2 : (n : Int) - 1 < (ds.length : Int) := by omega
        have t1 : ((n : Int) - 1).toNat = n - 1 := by omega
        have t2 : IntKind.i64.wrap ((n : Int) - 1) = (n : Int) - 1 := IntWalk.i64_in _ (by omega)
        go_enter Tryd.func11, Tryd.ntmps11
        go_wp2_with (first
          | (go_at_call 23; refine (HAB.out).mono ?_; rintro e w2 ⟨A2, c2, rfl, hd2, hb2⟩; have HI := Lib.hid (IH.out A2 c2 w2 hd2); have HB2 := Lib.hid hb2; clear hd2 hb2)
          | (go_at_call 11; refine (HI.out).mono ?_; rintro e w3 ⟨A3, c3, rfl, hd3, hb3⟩; have HB3 := Lib.hid (HB2.out.trans (hb3.mono HB2.out.size)); have HD3 := Lib.hid hd3; clear hd3 hb3; obtain ⟨A6, c6, w6, hap, hd6, hb6⟩ := front_dig (c := c3) HX.out rfl HD3.out HPL.out; have HD6 := Lib.hid hd6; have HB6 := Lib.hid (HB3.out.trans (hb6.mono HB3.out.size)); clear hd6 hb6; have lA := (HD.out.far HB3.out).load (k := n - 1) (by omega); rw [HXD.out] at lA))
        clear hbs hap lA
        go_ret
        rw [HPE.out]
        exact ⟨A6, c6, rfl, HD6.out, HB6.out⟩
      · have ho' : ((n : Int) % 2 == 1) = false := by
          rw [beq_eq_false_iff_ne]
          omega
        have hs : sib n = n + 1 := by unfold sib; rw [if_pos (by omega)]
        rw [hs] at hpe
        by_cases hlt : n + 1 < ds.length
        · have hlt' : decide ((n : Int) + 1 < (ds.length : Int)) = true := decide_eq_true (by omega)
          rw [if_pos hlt] at hpe
          obtain ⟨g0, o0, rfl, _, _⟩ := HD.out.some_ (by omega)
          have HX := Lib.hid (HD.out.all.get (k := n + 1) (by omega) [])
          rw [show ds.getD (n + 1) (shaOf []) = ds.getD (n + 1) [] by rw [List.getD_eq_getElem?_getD, List.getD_eq_getElem?_getD, List.getElem?_eq_getElem (by omega)]; rfl] at hpe
          generalize hx : ds.getD (n + 1) [] = x at *
          have HXD := Lib.hid hx
          have HPE := Lib.hid hpe
          clear hx hpe
          have hbs := build_one x HX.out
          have i2 : (n : Int) + 1 < (ds.length : Int) := by omega
          have i1 : (0 : Int) ≤ (n : Int) + 1 := by omega
          have t1 : ((n : Int) + 1).toNat = n + 1 := by omega
          have t2 : IntKind.i64.wrap ((n : Int) + 1) = (n : Int) + 1 := IntWalk.i64_in _ (by omega)
          go_enter Tryd.func11, Tryd.ntmps11
          go_wp2_with (first
            | (go_at_call 23; refine (HAB.out).mono ?_; rintro e w2 ⟨A2, c2, rfl, hd2, hb2⟩; have HI := Lib.hid (IH.out A2 c2 w2 hd2); have HB2 := Lib.hid hb2; clear hd2 hb2)
            | (go_at_call 11; refine (HI.out).mono ?_; rintro e w3 ⟨A3, c3, rfl, hd3, hb3⟩; have HB3 := Lib.hid (HB2.out.trans (hb3.mono HB2.out.size)); have HD3 := Lib.hid hd3; clear hd3 hb3; obtain ⟨A6, c6, w6, hap, hd6, hb6⟩ := front_dig (c := c3) HX.out rfl HD3.out HPL.out; have HD6 := Lib.hid hd6; have HB6 := Lib.hid (HB3.out.trans (hb6.mono HB3.out.size)); clear hd6 hb6; have lA := (HD.out.far HB3.out).load (k := n + 1) (by omega); rw [HXD.out] at lA))
          clear hbs hap lA
          go_ret
          rw [HPE.out]
          exact ⟨A6, c6, rfl, HD6.out, HB6.out⟩
        · have hlt' : decide ((n : Int) + 1 < (ds.length : Int)) = false := decide_eq_false (by omega)
          rw [if_neg hlt, List.nil_append] at hpe
          have HPE := Lib.hid hpe
          clear hpe
          have t2 : IntKind.i64.wrap ((n : Int) + 1) = (n : Int) + 1 := IntWalk.i64_in _ (by omega)
          go_enter Tryd.func11, Tryd.ntmps11
          go_wp2_with (first
            | (go_at_call 23; refine (HAB.out).mono ?_; rintro e w2 ⟨A2, c2, rfl, hd2, hb2⟩; have HI := Lib.hid (IH.out A2 c2 w2 hd2); have HB2 := Lib.hid hb2; clear hd2 hb2)
            | (go_at_call 11; refine (HI.out).mono ?_; rintro e w3 ⟨A3, c3, rfl, hd3, hb3⟩; have HB3 := Lib.hid (HB2.out.trans (hb3.mono HB2.out.size)); have HD3 := Lib.hid hd3; clear hd3 hb3))
          go_ret
          rw [HPE.out]
          exact ⟨A3, c3, rfl, HD3.out, HB3.out⟩
theorem rpath_any (ds : List (List UInt8)) (A : Option Addr) (c n : Nat) (w : World) (hnl : n < ds.length) (hD : Digs w w.heap.size A ds) (hn : ds.length ≤ 1099511627000) :
    Calls Tryd.prog 11 #[.slice A ds.length c, .int .i64 (n : Int)] w (RPathIs w (pathT ds n)) := rpath_all ds.length ds A c n w (Nat.le_refl _) hnl hD hn
end Go.Proofs.YtkpekglpknbodaaDoor
