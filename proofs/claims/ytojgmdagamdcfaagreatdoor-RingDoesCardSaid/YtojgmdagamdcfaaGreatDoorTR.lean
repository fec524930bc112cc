/-
  The document's own answers, below the rows: wapentakeref01.Digest, wapentakeref02.Text, wapentakeref03.Leaf and Pair.
  wapentakeref03.Above.
  wapentakeref03.Root and Path.
-/
import Derived.Test.YtojgmdagamdcfaaGreatDoorTG
import Derived.Test.YtojgmdagamdcfaaGreatDoorTU
import Derived.Test.YtojgmdagamdcfaaGreatDoorSRef
import Derived.Lib.ConvBytes
import Derived.Lib.SmallJoins
import Derived.Test.YtojgmdagamdcfaaGreatDoorTV
namespace Go.Proofs.YtojgmdagamdcfaaGreatDoor
open Go.RowKit

attribute [local go_sem ↓] ldDigest_def stDigest_def

set_option maxRecDepth 100000 in
set_option maxHeartbeats 1000000 in
theorem rleaf_any (l : List UInt8) (hl : l.length ≤ 1099511627000) (w : World) :
    Calls Tryz.prog 47 #[str l] w fun e w' => e = .returned (.agg ((shaOf (0 :: l)).map bv).toArray) ∧ Below w.heap.size w w' := by
  have hF0 : Below w.heap.size w (w.alloc (.cells (zerosD 32).toArray 33)) := (Below.refl _ _).alloc (Nat.le_refl _) _
  have HW0 : Hid (RtW w (w.alloc (.cells (zerosD 32).toArray 33))) := ⟨Box.made w _ _, hF0⟩
  have ht := text_any (0 :: l) (by rw [List.length_cons]; omega) (w.alloc (.cells (zerosD 32).toArray 33))
  obtain ⟨X, hX⟩ : ∃ X : ByteArray, X = ⟨(0 :: l).toArray⟩ := ⟨_, rfl⟩
  have hcat : ({ data := #[0] } : ByteArray) ++ { data := l.toArray } = X := (bytes_cat [0] l).trans hX.symm
  change Calls _ _ #[Value.string ⟨(0 :: l).toArray⟩] _ _ at ht
  rw [← hX] at ht
  have HT := Lib.hid ht
  clear ht hX
  go_enter Tryz.func47, Tryz.ntmps47
  go_upto_region 1 with fail
  change Code.wp _ _ _ _ (w.alloc (.cells (zerosD 32).toArray 33))
  generalize w.alloc (.cells (zerosD 32).toArray 33) = w1 at *
  have hdl : (shaOf (0 :: l)).length = 32 := rfl
  generalize hd : shaOf (0 :: l) = d at *
  have HDE := Lib.hid hd
  clear hd hF0
  go_wp2_with (go_at_call 72; refine (HT.out).mono ?_; rintro e w3 ⟨rfl, hb3⟩; have HW3 := Lib.hid (HW0.out.call hb3); clear hb3; have hst := HW3.out.out.store_digest rfl d hdl)
  exact ret_dig rfl rfl rfl (HW3.out.out.cells_dig rfl hdl) hdl ⟨by rw [HDE.out], below_cells HW3.out.far (Nat.le_refl _) HW3.out.far.size _ _⟩

/-- What the walk of wapentakeref03.Pair carries of memory. -/
structure PrW (w0 : World) (a b : List UInt8) (w : World) : Prop where
  a : Box w w0.heap.size 33 (a.map bv).toArray
  b : Box w (w0.heap.size + 1) 33 (b.map bv).toArray
  out : Box w (w0.heap.size + 1 + 1) 33 (zerosD 32).toArray
  far : Below w0.heap.size w0 w
theorem PrW.call {w0 w w' : World} {a b : List UInt8} (h : PrW w0 a b w) (hb : Below w.heap.size w w') : PrW w0 a b w' := ⟨h.a.below hb h.a.lt, h.b.below hb h.b.lt, h.out.below hb h.out.lt, h.far.trans (hb.mono h.far.size)⟩
theorem PrW.drew {w0 w : World} {a b : List UInt8} (h : PrW w0 a b w) : PrW w0 a b w.drew := ⟨h.a, h.b, h.out, h.far.drew⟩

set_option maxRecDepth 100000 in
set_option maxHeartbeats 1000000 in
theorem rpair_any (a b : List UInt8) (ha : a.length = 32) (hb : b.length = 32) (w : World) :
    Calls Tryz.prog 95 #[.agg (a.map bv).toArray, .agg (b.map bv).toArray] w fun e w' => e = .returned (.agg ((pT a b).map bv).toArray) ∧ Below w.heap.size w w' := by
  have hF0 : Below w.heap.size w (((w.alloc (.cells (a.map bv).toArray 33)).alloc (.cells (b.map bv).toArray 33)).alloc (.cells (zerosD 32).toArray 33)) := (((Below.refl _ _).alloc (Nat.le_refl _) _).alloc (by simp) _).alloc (by simp; omega) _
  have HP0 : Hid (PrW w a b (((w.alloc (.cells (a.map bv).toArray 33)).alloc (.cells (b.map bv).toArray 33)).alloc (.cells (zerosD 32).toArray 33))) := ⟨((Box.made w _ _).alloc _).alloc _, (Box.made_at (by simp) _ _).alloc _, Box.made_at (by simp) _ _, hF0⟩
  have ht := text_any (1 :: (a ++ b)) (by rw [List.length_cons, List.length_append, ha, hb]; omega)
  obtain ⟨X1, hX1⟩ : ∃ X : ByteArray, X = ⟨(1 :: a).toArray⟩ := ⟨_, rfl⟩
  have hcat1 : ({ data := #[1] } : ByteArray) ++ { data := a.toArray } = X1 := (bytes_cat [1] a).trans hX1.symm
  obtain ⟨X2, hX2⟩ : ∃ X : ByteArray, X = ⟨(1 :: (a ++ b)).toArray⟩ := ⟨_, rfl⟩
  have hcat2 : X1 ++ { data := b.toArray } = X2 := by
    rw [hX1, hX2]
    exact bytes_cat (1 :: a) b
  change ∀ w, Calls _ _ #[Value.string ⟨(1 :: (a ++ b)).toArray⟩] w (fun e w' => e = .returned (.agg ((pT a b).map bv).toArray) ∧ Below w.heap.size w w') at ht
  rw [← hX2] at ht
  have HT := Lib.hid ht
  have hs1 : X1.size = 33 := by
    rw [hX1]
    show (1 :: a).toArray.size = 33
    simp [ha]
  clear ht hX1 hX2 hF0
  go_enter Tryz.func95, Tryz.ntmps95
  go_upto_region 1 with fail
  change Code.wp _ _ _ _ (((w.alloc (.cells (a.map bv).toArray 33)).alloc (.cells (b.map bv).toArray 33)).alloc (.cells (zerosD 32).toArray 33))
  generalize (((w.alloc (.cells (a.map bv).toArray 33)).alloc (.cells (b.map bv).toArray 33)).alloc (.cells (zerosD 32).toArray 33)) = w1 at *
  have hdl : (pT a b).length = 32 := rfl
  generalize hd : pT a b = d at *
  have HDE := Lib.hid hd
  have HA := Lib.hid ha
  have HB := Lib.hid hb
  have HP1 := Lib.hid HP0.out.drew
  have l1 := HP1.out.a.load_digest ha
  have l2 := HP1.out.b.load_digest hb
  clear hd HP0
  go_region_with (first
    | (go_at_call 48; refine (digstr_any _ (by first | exact HA.out | exact HB.out) _).mono ?_; rintro e w4 ⟨rfl, hb4⟩; have HP3 := Lib.hid (HP2.out.call hb4); clear hb4)
    | (go_at_call 48; refine (digstr_any _ (by first | exact HA.out | exact HB.out) _).mono ?_; rintro e w3 ⟨rfl, hb3⟩; have HP2 := Lib.hid (HP1.out.call hb3); clear hb3; have l3 := HP2.out.a.load_digest HA.out; have l4 := HP2.out.b.load_digest HB.out)
    | (go_at_call 72; refine (HT.out _).mono ?_; rintro e w5 ⟨rfl, hb5⟩; have HP5 := Lib.hid (HP3.out.call hb5); clear hb5; have hst := HP5.out.out.store_digest rfl d hdl))
  all_goals
    clear l1 l2
    go_wp2
    exact ret_dig rfl rfl rfl (HP5.out.out.cells_dig rfl hdl) hdl ⟨by rw [HDE.out], below_cells HP5.out.far (by omega) HP5.out.far.size _ _⟩
end Go.Proofs.YtojgmdagamdcfaaGreatDoor

namespace Go.Proofs.YtojgmdagamdcfaaGreatDoor
open Go.RowKit

attribute [local go_sem ↓] ldDigest_def stDigest_def bsAll_def apAll_def

/-- How many rows' digests are made of the first i places. -/
def madeOf (i n : Nat) : Nat := if i = n then (n + 1) / 2 else i / 2

set_option maxRecDepth 100000 in
set_option maxHeartbeats 2000000 in
theorem rabove_any (ds : List (List UInt8)) (A : Option Addr) (c : Nat) (w : World) (hD : Digs w w.heap.size A ds) (hn : ds.length ≤ 1099511627000) :
    Calls Tryz.prog 73 #[.slice A ds.length c] w fun e w' => ∃ A' c', e = .returned (.slice A' (up pT ds).length c') ∧ Digs w' w'.heap.size A' (up pT ds) ∧ Below w.heap.size w w' := by
  have HD := Lib.hid hD
  have hm := up_length pT ds
  have HAU := Lib.hid HD.out.all.up
  have HUP := Lib.hid (fun i => up_pair pT [] ds i)
  have HUL := Lib.hid (fun i => up_last pT [] ds i)
  have HM := Lib.hid hm
  clear hD hm
  generalize up pT ds = R at *
  have HW0 : Hid (PaW w (.slice none 0 0) [] w) := ⟨World.ownsRow_nil _ _ _ _, AllD.nil, Below.refl _ _⟩
  go_enter Tryz.func73, Tryz.ntmps73
  go_wp2
  go_loopw [3, 7] (fun v i wr => ∃ (k n : Nat) (Ap : Option Addr) (cp : Nat), k ≤ ds.length ∧ i = .int .i64 k ∧ v = .slice Ap n cp ∧ Hid (n = madeOf k ds.length) ∧ Hid (PaW w (.slice Ap n cp) (R.take n) wr)) (fun _ i _ => ds.length - (intOf i).toNat)
  case atStart => exact ⟨0, 0, none, 0, Nat.zero_le _, rfl, rfl, by show _ = _; unfold madeOf; split <;> omega, HW0⟩
  case round =>
    clear HW0
    obtain ⟨k, n, Ap, cp, hk, rfl, rfl, HN, HW⟩ := hrel
    by_cases hlt : k < ds.length
    · have hnk : n = k / 2 := by
        rw [HN.out]
        unfold madeOf
        rw [if_neg (by omega)]
      have hnR : n < R.length := by have := HM.out; omega
      have hnl : n = (R.take n).length := by rw [List.length_take]; omega
      have HTS : Hid (R.take n ++ [R.getD n []] = R.take (n + 1)) := by
        show _ = _
        rw [List.take_succ_eq_append_getElem hnR, List.getD_eq_getElem?_getD, List.getElem?_eq_getElem hnR]
        rfl
      have HRD := Lib.hid (HAU.out.get hnR [])
      have hnb : n + 1 ≤ 1099511627776 := by omega
      have HNB := Lib.hid hnb
      have HNK := Lib.hid hnk
      have HNL := Lib.hid hnl
      clear hnk hnl hnb
      by_cases hodd : k % 2 = 1
      · have ho' : ((k : Int) % 2 == 1) = true := by
          rw [beq_iff_eq]
          omega
        have hD3 := (HD.out.keep (w' := wr.drew) (fun p hp => HW.out.far.drew.cell hp))
        obtain ⟨g0, o0, rfl, hg0, _⟩ := hD3.some_ (by omega)
        have lA := hD3.load (k := k - 1) (by omega)
        have lB := hD3.load (k := k) hlt
        have hup := HUP.out n (by have := HNK.out; omega)
        rw [show 2 * n = k - 1 by have := HNK.out; omega, show k - 1 + 1 = k by omega] at hup
        have HX := Lib.hid (HD.out.all.get (k := k - 1) (by omega) [])
        have HY := Lib.hid (HD.out.all.get hlt [])
        generalize ds.getD (k - 1) [] = x at *
        generalize ds.getD k [] = y at *
        have HPR := Lib.hid (rpair_any x y HX.out HY.out wr.drew)
        rw [← hup] at HPR
        clear hup hD3
        generalize R.getD n [] = r at *
        have hbs := build_one r HRD.out
        have i1 : (0 : Int) ≤ (k : Int) - 1 := by omega
        have i2 : (k : Int) - 1 < (ds.length : Int) := by omega
        have i3 : (k : Int) < (ds.length : Int) := by omega
        have i4 : (0 : Int) ≤ (k : Int) := by omega
        have t1 : ((k : Int) - 1).toNat = k - 1 := by omega
        have t2 : IntKind.i64.wrap ((k : Int) - 1) = (k : Int) - 1 := IntWalk.i64_in _ (by omega)
        have HWD := Lib.hid HW.out.drew
        go_upto_region 6 with fail
        go_region_with (go_at_call 95; refine (HPR.out).mono ?_; rintro e w6 ⟨rfl, hb6⟩; obtain ⟨A6, c6, w7, hap, hw7⟩ := push_dig HNL.out (HWD.out.call hb6) HNB.out HRD.out; have HW7 := Lib.hid hw7; clear hb6 hw7)
        all_goals
          rw [HTS.out] at HW7
          clear lA lB hbs hap HW HWD HPR
          go_wp2
          go_roundw
          case rel => exact ⟨k + 1, n + 1, A6, c6, hlt, by go_num, rfl, by show _ = _; unfold madeOf; have := HNK.out; split <;> omega, HW7⟩
          case measure => simp [intOf]; omega
        skip; done
      · have ho' : ((k : Int) % 2 == 1) = false := by
          rw [beq_eq_false_iff_ne]
          omega
        by_cases hlast : k + 1 = ds.length
        · have hl' : ((k : Int) == (ds.length : Int) - 1) = true := by
            rw [beq_iff_eq]
            omega
          have hD3 := (HD.out.keep (w' := wr) (fun p hp => HW.out.far.cell hp))
          obtain ⟨g0, o0, rfl, hg0, _⟩ := hD3.some_ (by omega)
          have lB := hD3.load (k := k) hlt
          have hul := HUL.out n (by have := HNK.out; omega)
          rw [show 2 * n = k by have := HNK.out; omega] at hul
          rw [← hul] at lB
          clear hul hD3
          generalize R.getD n [] = r at *
          have hbs := build_one r HRD.out
          have i3 : (k : Int) < (ds.length : Int) := by omega
          obtain ⟨A6, c6, w7, hap, hw7⟩ := push_dig HNL.out HW.out HNB.out HRD.out
          have HW7 := Lib.hid hw7
          clear hw7
          go_wp2
          rw [HTS.out] at HW7
          clear lB hbs hap HW
          go_roundw
          case rel => exact ⟨k + 1, n + 1, A6, c6, hlt, by go_num, rfl, by show _ = _; unfold madeOf; have := HNK.out; rw [if_pos hlast]; omega, HW7⟩
          case measure => simp [intOf]; omega
        · have hl' : ((k : Int) == (ds.length : Int) - 1) = false := by
            rw [beq_eq_false_iff_ne]
            omega
          go_wp2
          go_roundw
          case rel => exact ⟨k + 1, n, Ap, cp, hlt, by go_num, rfl, by show _ = _; unfold madeOf; have := HNK.out; rw [if_neg hlast]; omega, HW⟩
          case measure => simp [intOf]; omega
    · obtain rfl : k = ds.length := by omega
      have hnR : n = R.length := by
        rw [HN.out, HM.out]
        unfold madeOf
        rw [if_pos rfl]
      subst hnR
      have HW2 := HW.out
      rw [List.take_length] at HW2
      have HQ : Hid (Digs wr wr.heap.size Ap R) := OwnD.digs HW2.own HAU.out
      clear HW2
      go_wp2
      go_ret
      exact ⟨Ap, cp, rfl, HQ.out, HW.out.far⟩
end Go.Proofs.YtojgmdagamdcfaaGreatDoor

namespace Go.Proofs.YtojgmdagamdcfaaGreatDoor
open Go.RowKit

attribute [local go_sem ↓] ldDigest_def stDigest_def bsAll_def apAll_def

set_option maxRecDepth 100000 in
set_option maxHeartbeats 1000000 in
theorem rroot_all (N : Nat) : ∀ (ds : List (List UInt8)) (A : Option Addr) (c : Nat) (w : World), ds.length ≤ N → Digs w w.heap.size A ds → ds.length ≤ 1099511627000 →
    Calls Tryz.prog 46 #[.slice A ds.length c] w fun e w' => e = .returned (.agg ((rootT ds).map bv).toArray) ∧ Below w.heap.size w w' := by
  induction N with
  | zero =>
    intro ds A c w hN hD hn
    have h0 : ds = [] := List.eq_nil_of_length_eq_zero (by omega)
    subst h0
    have hF0 : Below w.heap.size w (w.alloc (.cells (zerosD 32).toArray 33)) := (Below.refl _ _).alloc (Nat.le_refl _) _
    have HW0 : Hid (RtW w (w.alloc (.cells (zerosD 32).toArray 33))) := ⟨Box.made w _ _, hF0⟩
    have hr : rootT [] = shaOf [] := by
      unfold rootT
      rw [top_one pT _ (by simp)]
      rfl
    have HT := Lib.hid (text_any [] (by simp) (w.alloc (.cells (zerosD 32).toArray 33)))
    rw [← hr] at HT
    have hdl : (rootT []).length = 32 := by rw [hr]; rfl
    clear hr hF0 hD
    go_enter Tryz.func46, Tryz.ntmps46
    go_upto_region 1 with fail
    change Code.wp _ _ _ _ (w.alloc (.cells (zerosD 32).toArray 33))
    generalize w.alloc (.cells (zerosD 32).toArray 33) = w1 at *
    generalize hd : rootT [] = d at *
    have HDE := Lib.hid hd
    clear hd
    go_wp2_with (go_at_call 72; refine (HT.out).mono ?_; rintro e w2 ⟨rfl, hb2⟩; have HW2 := Lib.hid (HW0.out.call hb2); clear hb2; have hst := HW2.out.out.store_digest rfl d hdl)
    exact ret_dig rfl rfl rfl (HW2.out.out.cells_dig rfl hdl) hdl ⟨by first | rfl | rw [HDE.out], below_cells HW2.out.far (Nat.le_refl _) HW2.out.far.size _ _⟩
  | succ N ih =>
    intro ds A c w hN hD hn
    by_cases h0 : ds.length = 0
    · exact ih ds A c w (by omega) hD hn
    have hF0 : Below w.heap.size w (w.alloc (.cells (zerosD 32).toArray 33)) := (Below.refl _ _).alloc (Nat.le_refl _) _
    have HW0 : Hid (RtW w (w.alloc (.cells (zerosD 32).toArray 33))) := ⟨Box.made w _ _, hF0⟩
    have hD1 := hD.far hF0
    have hdl := hD.all.root
    have h0' : ((ds.length : Int) == 0) = false := by
      rw [beq_eq_false_iff_ne]
      omega
    by_cases h1 : ds.length = 1
    · have h1' : ((ds.length : Int) == 1) = true := by
        rw [beq_iff_eq]
        omega
      obtain ⟨g0, o0, rfl, _, _⟩ := hD1.some_ (by omega)
      have lA := hD1.load (k := 0) (by omega)
      rw [Nat.zero_mul, Nat.add_zero] at lA
      have hr : ds.getD 0 [] = rootT ds := by
        show _ = top pT _ ds
        rw [top_one pT _ (by omega), List.getD_eq_getElem?_getD, List.getD_eq_getElem?_getD, List.getElem?_eq_getElem (by omega)]
        rfl
      rw [hr] at lA
      have i1 : (0 : Int) < (ds.length : Int) := by omega
      have hst := HW0.out.out.store_digest rfl (rootT ds) hdl
      clear hr hF0 hD1 hD
      generalize hd : rootT ds = d at *
      have HDE := Lib.hid hd
      clear hd
      go_enter Tryz.func46, Tryz.ntmps46
      go_upto_region 1 with fail
      change Code.wp _ _ _ _ (w.alloc (.cells (zerosD 32).toArray 33))
      generalize w.alloc (.cells (zerosD 32).toArray 33) = w1 at *
      go_wp2
      exact ret_dig rfl rfl rfl (HW0.out.out.cells_dig rfl hdl) hdl ⟨by first | rfl | rw [HDE.out], below_cells HW0.out.far (Nat.le_refl _) HW0.out.far.size _ _⟩
    · have h1' : ((ds.length : Int) == 1) = false := by
        rw [beq_eq_false_iff_ne]
        omega
      have HAB := Lib.hid (rabove_any ds A c _ hD1 hn)
      have hul := up_length pT ds
      have hr : rootT (up pT ds) = rootT ds := (top_up pT _ (by omega)).symm
      have IH : Hid (∀ (A' : Option Addr) (c' : Nat) (w' : World), Digs w' w'.heap.size A' (up pT ds) → Calls Tryz.prog 46 #[.slice A' (up pT ds).length c'] w' fun e w'' => e = .returned (.agg ((rootT (up pT ds)).map bv).toArray) ∧ Below w'.heap.size w' w'') := fun A' c' w' h => ih _ A' c' w' (by omega) h (by omega)
      rw [hr] at IH
      clear hr hF0 hD1 hD ih hul
      generalize hd : rootT ds = d at *
      have HDE := Lib.hid hd
      clear hd
      generalize up pT ds = R at *
      go_enter Tryz.func46, Tryz.ntmps46
      go_upto_region 1 with fail
      change Code.wp _ _ _ _ (w.alloc (.cells (zerosD 32).toArray 33))
      generalize w.alloc (.cells (zerosD 32).toArray 33) = w1 at *
      go_wp2_with (first
        | (go_at_call 73; refine (HAB.out).mono ?_; rintro e w2 ⟨A2, c2, rfl, hd2, hb2⟩; have HR2 := Lib.hid (IH.out A2 c2 w2 hd2); have HW2 := Lib.hid (HW0.out.call hb2); clear hd2 hb2)
        | (go_at_call 46; refine (HR2.out).mono ?_; rintro e w3 ⟨rfl, hb3⟩; have HW3 := Lib.hid (HW2.out.call hb3); clear hb3; have hst := HW3.out.out.store_digest rfl d hdl))
      exact ret_dig rfl rfl rfl (HW3.out.out.cells_dig rfl hdl) hdl ⟨by first | rfl | rw [HDE.out], below_cells HW3.out.far (Nat.le_refl _) HW3.out.far.size _ _⟩
theorem rroot_any (ds : List (List UInt8)) (A : Option Addr) (c : Nat) (w : World) (hD : Digs w w.heap.size A ds) (hn : ds.length ≤ 1099511627000) :
    Calls Tryz.prog 46 #[.slice A ds.length c] w fun e w' => e = .returned (.agg ((rootT ds).map bv).toArray) ∧ Below w.heap.size w w' := rroot_all ds.length ds A c w (Nat.le_refl _) hD hn

/-- What the document's Path answers. -/
def RPathIs (w0 : World) (ps : List (List UInt8)) (e : Ending) (w : World) : Prop := ∃ A c, e = .returned (.slice A ps.length c) ∧ Digs w w.heap.size A ps ∧ Below w0.heap.size w0 w

set_option maxRecDepth 100000 in
set_option maxHeartbeats 1000000 in
theorem rpath_all (N : Nat) : ∀ (ds : List (List UInt8)) (A : Option Addr) (c n : Nat) (w : World), ds.length ≤ N → n < ds.length → Digs w w.heap.size A ds → ds.length ≤ 1099511627000 →
    Calls Tryz.prog 53 #[.slice A ds.length c, .int .i64 (n : Int)] w (RPathIs w (pathT ds n)) := by
  induction N with
  | zero =>
    intro ds A c n w hN hnl hD hn
    omega
  | succ N ih =>
    intro ds A c n w hN hnl hD hn
    by_cases h1 : ds.length ≤ 1
    · have h1' : decide ((ds.length : Int) ≤ 1) = true := decide_eq_true (by omega)
      have hp : pathT ds n = [] := way_one pT _ h1 n
      rw [hp]
      go_enter Tryz.func53, Tryz.ntmps53
      go_wp2
      go_ret
      exact ⟨none, 0, rfl, Digs.empty _ _ _, Below.refl _ _⟩
    · have h1' : decide ((ds.length : Int) ≤ 1) = false := decide_eq_false (by omega)
      have HAB := Lib.hid (rabove_any ds A c w hD hn)
      have hul := up_length pT ds
      have hpe : pathT ds n = (if sib n < ds.length then [ds.getD (sib n) (shaOf [])] else []) ++ pathT (up pT ds) (n / 2) := way_up pT _ (by omega) n
      have HPL : Hid ((pathT (up pT ds) (n / 2)).length + 1 ≤ 1099511627776) := by
        have h1 := way_steps pT (shaOf []) (up pT ds) (n / 2) (by omega)
        have h2 := steps_lt (up pT ds).length (up pT ds).length (n / 2) (Nat.le_refl _) (by omega)
        rw [← h1] at h2
        have h3 := Nat.lt_two_pow_self (n := (way pT (shaOf []) (up pT ds) (n / 2)).length)
        show (way pT (shaOf []) (up pT ds) (n / 2)).length + 1 ≤ _
        omega
      have hi := fun (A' : Option Addr) (c' : Nat) (w' : World) (h : Digs w' w'.heap.size A' (up pT ds)) => ih (up pT ds) A' c' (n / 2) w' (by omega) (by omega) h (by omega)
      have hcast : ((n / 2 : Nat) : Int) = (n : Int) / 2 := by omega
      simp only [hcast] at hi
      have IH := Lib.hid hi
      have HD := Lib.hid hD
      clear ih hi hul hcast hD
      generalize pathT (up pT ds) (n / 2) = us at *
      generalize up pT ds = R at *
      by_cases hodd : n % 2 = 1
      · have ho' : ((n : Int) % 2 == 1) = true := by
          rw [beq_iff_eq]
          omega
        have hs : sib n = n - 1 := by unfold sib; rw [if_neg (by omega)]
        rw [hs, if_pos (by omega)] at hpe
        obtain ⟨g0, o0, rfl, _, _⟩ := HD.out.some_ (by omega)
        have HX := Lib.hid (HD.out.all.get (k := n - 1) (by omega) [])
        rw [show ds.getD (n - 1) (shaOf []) = ds.getD (n - 1) [] by rw [List.getD_eq_getElem?_getD, List.getD_eq_getElem?_getD, List.getElem?_eq_getElem (by omega)]; rfl] at hpe
        generalize hx : ds.getD (n - 1) [] = x at *
        have HXD := Lib.hid hx
        have HPE := Lib.hid hpe
        clear hx hpe
        have hbs := build_one x HX.out
        have i1 : (0 : Int) ≤ (n : Int) - 1 := by omega
        have i2 : (n : Int) - 1 < (ds.length : Int) := by omega
        have t1 : ((n : Int) - 1).toNat = n - 1 := by omega
        have t2 : IntKind.i64.wrap ((n : Int) - 1) = (n : Int) - 1 := IntWalk.i64_in _ (by omega)
        go_enter Tryz.func53, Tryz.ntmps53
        go_wp2_with (first
          | (go_at_call 73; refine (HAB.out).mono ?_; rintro e w2 ⟨A2, c2, rfl, hd2, hb2⟩; have HI := Lib.hid (IH.out A2 c2 w2 hd2); have HB2 := Lib.hid hb2; clear hd2 hb2)
          | (go_at_call 53; refine (HI.out).mono ?_; rintro e w3 ⟨A3, c3, rfl, hd3, hb3⟩; have HB3 := Lib.hid (HB2.out.trans (hb3.mono HB2.out.size)); have HD3 := Lib.hid hd3; clear hd3 hb3; obtain ⟨A6, c6, w6, hap, hd6, hb6⟩ := front_dig (c := c3) HX.out rfl HD3.out HPL.out; have HD6 := Lib.hid hd6; have HB6 := Lib.hid (HB3.out.trans (hb6.mono HB3.out.size)); clear hd6 hb6; have lA := (HD.out.far HB3.out).load (k := n - 1) (by omega); rw [HXD.out] at lA))
        clear hbs hap lA
        go_ret
        rw [HPE.out]
        exact ⟨A6, c6, rfl, HD6.out, HB6.out⟩
      · have ho' : ((n : Int) % 2 == 1) = false := by
          rw [beq_eq_false_iff_ne]
          omega
        have hs : sib n = n + 1 := by unfold sib; rw [if_pos (by omega)]
        rw [hs] at hpe
        by_cases hlt : n + 1 < ds.length
        · have hlt' : decide ((n : Int) + 1 < (ds.length : Int)) = true := decide_eq_true (by omega)
          rw [if_pos hlt] at hpe
          obtain ⟨g0, o0, rfl, _, _⟩ := HD.out.some_ (by omega)
          have HX := Lib.hid (HD.out.all.get (k := n + 1) (by omega) [])
          rw [show ds.getD (n + 1) (shaOf []) = ds.getD (n + 1) [] by rw [List.getD_eq_getElem?_getD, List.getD_eq_getElem?_getD, List.getElem?_eq_getElem (by omega)]; rfl] at hpe
          generalize hx : ds.getD (n + 1) [] = x at *
          have HXD := Lib.hid hx
          have HPE := Lib.hid hpe
          clear hx hpe
          have hbs := build_one x HX.out
          have i2 : (n : Int) + 1 < (ds.length : Int) := by omega
          have i1 : (0 : Int) ≤ (n : Int) + 1 := by omega
          have t1 : ((n : Int) + 1).toNat = n + 1 := by omega
          have t2 : IntKind.i64.wrap ((n : Int) + 1) = (n : Int) + 1 := IntWalk.i64_in _ (by omega)
          go_enter Tryz.func53, Tryz.ntmps53
          go_wp2_with (first
            | (go_at_call 73; refine (HAB.out).mono ?_; rintro e w2 ⟨A2, c2, rfl, hd2, hb2⟩; have HI := Lib.hid (IH.out A2 c2 w2 hd2); have HB2 := Lib.hid hb2; clear hd2 hb2)
            | (go_at_call 53; refine (HI.out).mono ?_; rintro e w3 ⟨A3, c3, rfl, hd3, hb3⟩; have HB3 := Lib.hid (HB2.out.trans (hb3.mono HB2.out.size)); have HD3 := Lib.hid hd3; clear hd3 hb3; obtain ⟨A6, c6, w6, hap, hd6, hb6⟩ := front_dig (c := c3) HX.out rfl HD3.out HPL.out; have HD6 := Lib.hid hd6; have HB6 := Lib.hid (HB3.out.trans (hb6.mono HB3.out.size)); clear hd6 hb6; have lA := (HD.out.far HB3.out).load (k := n + 1) (by omega); rw [HXD.out] at lA))
          clear hbs hap lA
          go_ret
          rw [HPE.out]
          exact ⟨A6, c6, rfl, HD6.out, HB6.out⟩
        · have hlt' : decide ((n : Int) + 1 < (ds.length : Int)) = false := decide_eq_false (by omega)
          rw [if_neg hlt, List.nil_append] at hpe
          have HPE := Lib.hid hpe
          clear hpe
          have t2 : IntKind.i64.wrap ((n : Int) + 1) = (n : Int) + 1 := IntWalk.i64_in _ (by omega)
          go_enter Tryz.func53, Tryz.ntmps53
          go_wp2_with (first
            | (go_at_call 73; refine (HAB.out).mono ?_; rintro e w2 ⟨A2, c2, rfl, hd2, hb2⟩; have HI := Lib.hid (IH.out A2 c2 w2 hd2); have HB2 := Lib.hid hb2; clear hd2 hb2)
            | (go_at_call 53; refine (HI.out).mono ?_; rintro e w3 ⟨A3, c3, rfl, hd3, hb3⟩; have HB3 := Lib.hid (HB2.out.trans (hb3.mono HB2.out.size)); have HD3 := Lib.hid hd3; clear hd3 hb3))
          go_ret
          rw [HPE.out]
          exact ⟨A3, c3, rfl, HD3.out, HB3.out⟩
theorem rpath_any (ds : List (List UInt8)) (A : Option Addr) (c n : Nat) (w : World) (hnl : n < ds.length) (hD : Digs w w.heap.size A ds) (hn : ds.length ≤ 1099511627000) :
    Calls Tryz.prog 53 #[.slice A ds.length c, .int .i64 (n : Int)] w (RPathIs w (pathT ds n)) := rpath_all ds.length ds A c n w (Nat.le_refl _) hnl hD hn
end Go.Proofs.YtojgmdagamdcfaaGreatDoor
