/-
  wapentakeref03.Above.
-/
import Derived.Test.YtkpekglpknbodaaDoorTRef
import Derived.Test.YtkpekglpknbodaaDoorTBuild
import Derived.Test.YtkpekglpknbodaaDoorTPath
namespace Go.Proofs.YtkpekglpknbodaaDoor
open Go.RowKit

attribute [local go_sem ↓] ldDigest_def stDigest_def bsAll_def apAll_def

theorem digs_one (w : World) {d : List UInt8} (hd : d.length = 32) : Digs (w.alloc (.cells (d.map bv).toArray 29)) (w.alloc (.cells (d.map bv).toArray 29)).heap.size (some ⟨w.heap.size, 0, none⟩) [d] := by
  have hX : Box (w.alloc (.cells (d.map bv).toArray 29)) w.heap.size 29 (d.map bv).toArray := Box.made _ _ _
  exact ⟨AllD.one hd, by simpa using Sees.of_box hX hX.lt⟩
theorem build_one (d : List UInt8) (hd : d.length = 32) (w : World) :
    (bsAll 1 #[(0, .agg (d.map bv).toArray)]).run Tryd.prog w = .ok (.slice (some ⟨w.heap.size, 0, none⟩) 1 1) (w.alloc (.cells (d.map bv).toArray 29)) := by
  have h := build_digs [d] (AllD.one hd) (by simp) (by simp) w
  have e : ([d] : List (List UInt8)).flatten = d := by simp
  rw [e] at h
  exact h
/-- One digest more, made where the literal is: what the frozen append answers, whatever world it is asked in. -/
theorem push_dig {w0 w : World} {ps : List (List UInt8)} {Ap : Option Addr} {n cp : Nat} (hn : n = ps.length) (h : PaW w0 (.slice Ap n cp) ps w) (hle : n + 1 ≤ 1099511627776) {d : List UInt8} (hd : d.length = 32) :
    ∃ A6 c6 w6, (apAll #[23, 23] 23 #[.slice Ap n cp, .slice (some ⟨w.heap.size, 0, none⟩) 1 1]).run Tryd.prog (w.alloc (.cells (d.map bv).toArray 29)) = .ok (.slice A6 (n + 1) c6) w6 ∧ PaW w0 (.slice A6 (n + 1) c6) (ps ++ [d]) w6 := by
  subst hn
  have hB5 : Below w.heap.size w (w.alloc (.cells (d.map bv).toArray 29)) := (Below.refl _ _).alloc (Nat.le_refl _) _
  have hown5 := h.own.alloc (.cells (d.map bv).toArray 29)
  have hsz5 := Nat.le_trans h.far.size hB5.size
  obtain ⟨v6, w6, hap, hown6, hg6⟩ := append_digs rfl hown5 (A := some ⟨w.heap.size, 0, none⟩) (m := 1) (c := 1) (es := [d]) rfl (digs_one w hd) hle hsz5
  obtain ⟨A6, c6, rfl⟩ := own_slice_s hown6
  exact ⟨A6, c6, w6, hap, by rw [List.length_append]; exact hown6, h.all.append (AllD.one hd), (h.far.trans (hB5.mono h.far.size)).trans (below_own hown5 hg6 hsz5)⟩

theorem PaW.call {w0 w w' : World} {v : Value} {ps : List (List UInt8)} (h : PaW w0 v ps w) (hb : Below w.heap.size w w') : PaW w0 v ps w' :=
  ⟨World.ownsRow.kept h.own (only_below hb none) (by cases v.ownBlock <;> simp), h.all, h.far.trans (hb.mono h.far.size)⟩
theorem PaW.drew {w0 w : World} {v : Value} {ps : List (List UInt8)} (h : PaW w0 v ps w) : PaW w0 v ps w.drew := ⟨h.own, h.all, h.far.drew⟩

/-- How many rows' digests are made of the first i places. -/
def madeOf (i n : Nat) : Nat := if i = n then (n + 1) / 2 else i / 2

set_option maxRecDepth 100000 in
set_option maxHeartbeats 2000000 in
theorem rabove_any (ds : List (List UInt8)) (A : Option Addr) (c : Nat) (w : World) (hD : Digs w w.heap.size A ds) (hn : ds.length ≤ 1099511627000) :
    Calls Tryd.prog 23 #[.slice A ds.length c] w fun e w' => ∃ A' c', e = .returned (.slice A' (up pT ds).length c') ∧ Digs w' w'.heap.size A' (up pT ds) ∧ Below w.heap.size w w' := by
  have HD := Lib.hid hD
  have hm := up_length pT ds
  have HAU := Lib.hid HD.out.all.up
  have HUP := Lib.hid (fun i => up_pair pT [] ds i)
  have HUL := Lib.hid (fun i => up_last pT [] ds i)
  have HM := Lib.hid hm
  clear hD hm
  generalize up pT ds = R at *
  have HW0 : Hid (PaW w (.slice none 0 0) [] w) := ⟨World.ownsRow_nil _ _ _ _, AllD.nil, Below.refl _ _⟩
  go_enter Tryd.func23, Tryd.ntmps23
  go_wp2
  go_loopw [3, 7] (fun v i wr => ∃ (k n : Nat) (Ap : Option Addr) (cp : Nat), k ≤ ds.length ∧ i = .int .i64 k ∧ v = .slice Ap n cp ∧ Hid (n = madeOf k ds.length) ∧ Hid (PaW w (.slice Ap n cp) (R.take n) wr)) (fun _ i _ => ds.length - (intOf i).toNat)
  case atStart => exact ⟨0, 0, none, 0, Nat.zero_le _, rfl, rfl, by show _ = _; unfold madeOf; split <;> omega, HW0⟩
  case round =>
    clear HW0
    obtain ⟨k, n, Ap, cp, hk, rfl, rfl, HN, HW⟩ := hrel
    by_cases hlt : k < ds.length
    · have hnk : n = k / 2 := by
        rw [HN.out]
        unfold madeOf
        rw [if_neg (by omega)]
      have hnR : n < R.length := by have := HM.out; omega
      have hnl : n = (R.take n).length := by rw [List.length_take]; omega
      have HTS : Hid (R.take n ++ [R.getD n []] = R.take (n + 1)) := by
        show _ = _
        rw [List.take_succ_eq_append_getElem hnR, List.getD_eq_getElem?_getD, List.getElem?_eq_getElem hnR]
        rfl
      have HRD := Lib.hid (HAU.out.get hnR [])
      have hnb : n + 1 ≤ 1099511627776 := by omega
      have HNB := Lib.hid hnb
      have HNK := Lib.hid hnk
      have HNL := Lib.hid hnl
      clear hnk hnl hnb
      by_cases hodd : k % 2 = 1
      · have ho' : ((k : Int) % 2 == 1) = true := by
          rw [beq_iff_eq]
          omega
        have hD3 := (HD.out.keep (w' := wr.drew) (fun p hp => HW.out.far.drew.cell hp))
        obtain ⟨g0, o0, rfl, hg0, _⟩ := hD3.some_ (by omega)
        have lA := hD3.load (k := k - 1) (by omega)
        have lB := hD3.load (k := k) hlt
        have hup := HUP.out n (by have := HNK.out; omega)
        rw [show 2 * n = k - 1 by have := HNK.out; omega, show k - 1 + 1 = k by omega] at hup
        have HX := Lib.hid (HD.out.all.get (k := k - 1) (by omega) [])
        have HY := Lib.hid (HD.out.all.get hlt [])
        generalize ds.getD (k - 1) [] = x at *
        generalize ds.getD k [] = y at *
        have HPR := Lib.hid (rpair_any x y HX.out HY.out wr.drew)
        rw [← hup] at HPR
        clear hup hD3
        generalize R.getD n [] = r at *
        have hbs := build_one r HRD.out
        have i1 : (0 : Int) ≤ (k : Int) - 1 := by omega
        have i2 : (k : Int) - 1 < (ds.length : Int) := by omega
        have i3 : (k : Int) < (ds.length : Int) := by omega
        have i4 : (0 : Int) ≤ (k : Int) := by omega
        have t1 : ((k : Int) - 1).toNat = k - 1 := by omega
        have t2 : IntKind.i64.wrap ((k : Int) - 1) = (k : Int) - 1 := IntWalk.i64_in _ (by omega)
        have HWD := Lib.hid HW.out.drew
        go_upto_region 6 with fail
        go_region_with (go_at_call 19; refine (HPR.out).mono ?_; rintro e w6 ⟨rfl, hb6⟩; obtain ⟨A6, c6, w7, hap, hw7⟩ := push_dig HNL.out (HWD.out.call hb6) HNB.out HRD.out; have HW7 := Lib.hid hw7; clear hb6 hw7)
        all_goals
          rw [HTS.out] at HW7
          clear lA lB hbs hap HW HWD HPR
          go_wp2
          go_roundw
          case rel => exact ⟨k + 1, n + 1, A6, c6, hlt, by go_num, rfl, by show _ = _; unfold madeOf; have := HNK.out; split <;> omega, HW7⟩
          case measure => simp [intOf]; omega
        skip; done
      · have ho' : ((k : Int) % 2 == 1) = false := by
          rw [beq_eq_false_iff_ne]
          omega
        by_cases hlast : k + 1 = ds.length
        · have hl' : ((k : Int) == (ds.length : Int) - 1) = true := by
            rw [beq_iff_eq]
            omega
          have hD3 := (HD.out.keep (w' := wr) (fun p hp => HW.out.far.cell hp))
          obtain ⟨g0, o0, rfl, hg0, _⟩ := hD3.some_ (by omega)
          have lB := hD3.load (k := k) hlt
          have hul := HUL.out n (by have := HNK.out; omega)
          rw [show 2 * n = k by have := HNK.out; omega] at hul
          rw [← hul] at lB
          clear hul hD3
          generalize R.getD n [] = r at *
          have hbs := build_one r HRD.out
          have i3 : (k : Int) < (ds.length : Int) := by omega
          obtain ⟨A6, c6, w7, hap, hw7⟩ := push_dig HNL.out HW.out HNB.out HRD.out
          have HW7 := Lib.hid hw7
          clear hw7
          go_wp2
          rw [HTS.out] at HW7
          clear lB hbs hap HW
          go_roundw
          case rel => exact ⟨k + 1, n + 1, A6, c6, hlt, by go_num, rfl, by show _ = _; unfold madeOf; have := HNK.out; rw [if_pos hlast]; omega, HW7⟩
          case measure => simp [intOf]; omega
        · have hl' : ((k : Int) == (ds.length : Int) - 1) = false := by
            rw [beq_eq_false_iff_ne]
            omega
          go_wp2
          go_roundw
          case rel => exact ⟨k + 1, n, Ap, cp, hlt, by go_num, rfl, by show _ = _; unfold madeOf; have := HNK.out; rw [if_neg hlast]; omega, HW⟩
          case measure => simp [intOf]; omega
    · obtain rfl : k = ds.length := by omega
      have hnR : n = R.length := by
        rw [HN.out, HM.out]
        unfold madeOf
        rw [if_pos rfl]
      subst hnR
      have HW2 := HW.out
      rw [List.take_length] at HW2
      have HQ : Hid (Digs wr wr.heap.size Ap R) := OwnD.digs HW2.own HAU.out
      clear HW2
      go_wp2
      go_ret
      exact ⟨Ap, cp, rfl, HQ.out, HW.out.far⟩
end Go.Proofs.YtkpekglpknbodaaDoor
