/-
  TreeKeeps, the walk: for every input the law returns true, and nothing that was there is turned.
-/
import Derived.Test.YtkpekglpknbodaaDoorTAlive
import Derived.Test.YtkpekglpknbodaaDoorTSame
import Derived.Test.YtkpekglpknbodaaDoorTRRoot
namespace Go.Proofs.YtkpekglpknbodaaDoor
open Go.RowKit

attribute [local go_sem ↓] ldDigest_def stDigest_def bsAll_def apAll_def

theorem build_none (w : World) : (bsAll 0 #[]).run Tryd.prog w = .ok (.slice (some ⟨w.heap.size, 0, none⟩) 0 0) (w.alloc (.cells #[] 29)) := by
  obtain ⟨i0, hi0, hz0, hz1, hz2⟩ := info_parts dig_info3
  have hu : Tryd.prog.underlying 23 = some (.slice 29) := Tryd.underlying23
  have hs : (sizeOf 29).run Tryd.prog w = .ok 32 w := by kernel_rfl
  unfold bsAll Instr.buildSlice
  simp [Sem.run_bind, run_underlying hu, hs, newRow, Instr.fill, Array.range_zero']
/-- append([]Digest{}, ds...): what the frozen append answers. -/
theorem copy_digs {w : World} {A : Option Addr} {m c : Nat} {es : List (List UInt8)} (hm : m = es.length) (he : Digs w w.heap.size A es) (hle : m ≤ 1099511627000) :
    ∃ A6 c6 w6, (apAll #[23, 23] 23 #[.slice (some ⟨w.heap.size, 0, none⟩) 0 0, .slice A m c]).run Tryd.prog (w.alloc (.cells #[] 29)) = .ok (.slice A6 m c6) w6 ∧ PaW w (.slice A6 m c6) es w6 := by
  have hB5 : Below w.heap.size w (w.alloc (.cells #[] 29)) := (Below.refl _ _).alloc (Nat.le_refl _) _
  have hown := World.ownsRow_lit (base := w.heap.size) (size := 32) w (e := 29) #[] 0 (Nat.le_refl _) (by simp [maxLen]) (by simp)
  obtain ⟨v6, w6, hap, hown6, hg6⟩ := append_digs (n := 0) (ds := []) rfl hown (A := A) (m := m) (c := c) (es := es) hm (he.far hB5) (by omega) hB5.size
  rw [Nat.zero_add, List.nil_append] at hown6
  obtain ⟨A6, c6, rfl⟩ := own_slice_s hown6
  subst hm
  exact ⟨A6, c6, w6, hap, hown6, he.all, hB5.trans (below_own hown hg6 hB5.size)⟩

theorem pathT_steps (ds : List (List UInt8)) (n : Nat) (h : n < ds.length) : (pathT ds n).length = steps n ds.length := way_steps pT (shaOf []) ds n h
theorem pathT_pow (ds : List (List UInt8)) (n : Nat) (h : n < ds.length) : 2 ^ (pathT ds n).length < 2 * ds.length := by
  rw [pathT_steps ds n h]
  exact steps_lt ds.length ds.length n (Nat.le_refl _) (by omega)
theorem pathT_short (ds : List (List UInt8)) (n : Nat) (h : n < ds.length) : (pathT ds n).length < 2 * ds.length :=
  Nat.lt_of_lt_of_le Nat.lt_two_pow_self (Nat.le_of_lt (pathT_pow ds n h))

/-- What the walk of TreeKeeps carries of memory while it turns the path. -/
structure KpW (w0 w5 : World) (A5 : Option Addr) (ds : List (List UInt8)) (Ap : Option Addr) (n : Nat) (w : World) : Prop where
  mine : Digs w w5.heap.size A5 ds
  far : Below w0.heap.size w0 w
  row : n = 0 ∨ ∃ g cur, Ap = some ⟨g, 0, none⟩ ∧ w5.heap.size ≤ g ∧ Box w g 29 cur ∧ n * 32 ≤ cur.size
def seven : List UInt8 := 7 :: List.replicate 31 0
theorem KpW.call {w0 w5 w w' : World} {A5 Ap : Option Addr} {ds : List (List UInt8)} {n : Nat} (h : KpW w0 w5 A5 ds Ap n w) (h5 : w5.heap.size ≤ w.heap.size) (hb : Below w.heap.size w w') : KpW w0 w5 A5 ds Ap n w' := by
  refine ⟨h.mine.keep (fun p hp => hb.cell (by omega)), h.far.trans (hb.mono h.far.size), ?_⟩
  rcases h.row with h0 | ⟨g, cur, e, hg, hx, hc⟩
  · exact .inl h0
  · exact .inr ⟨g, cur, e, hg, hx.below hb hx.lt, hc⟩
theorem KpW.turn {w0 w5 w : World} {A5 Ap : Option Addr} {ds : List (List UInt8)} {n : Nat} (h : KpW w0 w5 A5 ds Ap n w) (hs : w0.heap.size ≤ w5.heap.size) (h5 : w5.heap.size ≤ w.heap.size) {k : Nat} (hk : k < n) :
    ∃ g w', Ap = some ⟨g, 0, none⟩ ∧ (stDigest (.pointer (some ⟨g, k * 32, none⟩)) (.agg #[Value.int .u8 7, Value.int .u8 0, Value.int .u8 0, Value.int .u8 0, Value.int .u8 0, Value.int .u8 0, Value.int .u8 0, Value.int .u8 0, Value.int .u8 0, Value.int .u8 0, Value.int .u8 0, Value.int .u8 0, Value.int .u8 0, Value.int .u8 0, Value.int .u8 0, Value.int .u8 0, Value.int .u8 0, Value.int .u8 0, Value.int .u8 0, Value.int .u8 0, Value.int .u8 0, Value.int .u8 0, Value.int .u8 0, Value.int .u8 0, Value.int .u8 0, Value.int .u8 0, Value.int .u8 0, Value.int .u8 0, Value.int .u8 0, Value.int .u8 0, Value.int .u8 0, Value.int .u8 0])).run Tryd.prog w = .ok () w' ∧ KpW w0 w5 A5 ds Ap n w' ∧ w5.heap.size ≤ w'.heap.size := by
  rcases h.row with h0 | ⟨g, cur, rfl, hg, hb, hc⟩
  · omega
  · have hst := hb.store_mid (o := k * 32) (by omega) seven rfl
    obtain ⟨cs', hb', hsz, _⟩ := Box.cells_at (seven.map bv) (k * 32) w cur hb (by rw [List.length_map]; show k * 32 + 32 ≤ _; omega)
    have hgr := only_cells (g := g) (seven.map bv) (k * 32) w
    exact ⟨g, _, rfl, hst, ⟨h.mine.keep (fun p hp => World.cell?_of_block (hgr.block p.block (by omega) (fun e => by injection e with e; omega))), below_cells h.far (by omega) h.far.size _ _, .inr ⟨g, cs', rfl, hg, hb', by omega⟩⟩, Nat.le_trans h5 hgr.size⟩

set_option maxRecDepth 100000 in
set_option maxHeartbeats 1000000 in
theorem tkeeps_walk (ds : List (List UInt8)) (A : Option Addr) (c : Nat) (x : Int) (w : World) (hD : Digs w w.heap.size A ds) (hR : Roots w) :
    Calls Tryd.prog 6 #[.slice A ds.length c, .int .i64 x] w fun e w' => e = .returned (.bool true) ∧ Below w.heap.size w w' := by
  have HAL := Lib.hid (alive_any w hR)
  have HD := Lib.hid hD
  have HR := Lib.hid hR
  clear hD hR
  go_enter Tryd.func6, Tryd.ntmps6
  by_cases h1 : (100 : Int) < (ds.length : Int)
  · go_wp2_with (go_at_call 9; refine (HAL.out).mono ?_; rintro e w2 ⟨rfl, hb2⟩; have HF2 := Lib.hid hb2; clear hb2)
    go_ret
    exact ⟨rfl, HF2.out⟩
  have h1' : decide ((100 : Int) < (ds.length : Int)) = false := decide_eq_false h1
  have hbn := build_none
  go_upto_region 5 with (go_at_call 9; refine (HAL.out).mono ?_; rintro e w2 ⟨rfl, hb2⟩; have HF2 := Lib.hid hb2; have HD2 := Lib.hid (HD.out.far hb2); clear hb2)
  obtain ⟨A5, c5, w5, hap, hw5⟩ := copy_digs (c := c) rfl HD2.out (by omega)
  have HW5 := Lib.hid hw5
  have HM5 : Hid (Digs w5 w5.heap.size A5 ds) := OwnD.digs hw5.own hw5.all
  have HF5 := Lib.hid (HF2.out.trans (hw5.far.mono HF2.out.size))
  clear hw5
  go_upto_region 6 with fail
  clear hbn hap
  have HS65 : Hid (w.heap.size ≤ w5.heap.size) := HF5.out.size
  by_cases hp : 0 ≤ x ∧ x < (ds.length : Int)
  · obtain ⟨n, rfl⟩ : ∃ n : Nat, x = (n : Int) := ⟨x.toNat, by omega⟩
    have HPA := Lib.hid (path_any ds A5 c5 n (by omega) w5 HM5.out (by omega) (HR.out.of_below HF5.out))
    go_upto_region 7 with (go_at_call 10; refine (HPA.out).mono ?_; rintro e w6 ⟨Ap, cp, rfl, hp6⟩; have HP6 := Lib.hid hp6; clear hp6)
    have HRT := Lib.hid (root_any ds A5 c5 w6 (HM5.out.far HP6.out.far) (by omega) (HR.out.of_below (HF5.out.trans (HP6.out.far.mono HF5.out.size))))
    have HK6 : Hid (KpW w w5 A5 ds Ap (pathT ds n).length w6) := by
      refine ⟨HM5.out.keep (fun p hp => HP6.out.far.cell hp), HF5.out.trans (HP6.out.far.mono HF5.out.size), ?_⟩
      have ho := HP6.out.own
      rcases ho.2 with ⟨_, h2⟩ | ⟨g, cap, cur, h1, hg, hh, hn, _, hc, _⟩
      · exact .inl h2
      · injection h1 with e1 e2 e3
        subst e1
        exact .inr ⟨g, cur, rfl, hg, hh, by have := Nat.mul_le_mul_right 32 hn; omega⟩
    have HS6 : Hid (w5.heap.size ≤ w6.heap.size) := HP6.out.far.size
    clear HP6
    have hN := pathT_short ds n (by omega)
    generalize (pathT ds n).length = N at *
    have HSM : Hid (∀ wr, KpW w w5 A5 ds Ap N wr → w5.heap.size ≤ wr.heap.size → Calls Tryd.prog 16 #[.slice A5 ds.length c5, .slice A ds.length c] wr fun e w'' => e = .returned (.bool true) ∧ Below wr.heap.size wr w'') := fun wr h h5 => by
      have hs := same_any ds ds A5 A c5 c wr (h.mine.more h5) (HD.out.far h.far) (by omega)
      rw [decide_eq_true rfl] at hs
      exact hs
    go_upto_region 8 with (go_at_call 14; refine (HRT.out).mono ?_; rintro e w7 ⟨rfl, hb7⟩; have HK7 := Lib.hid (HK6.out.call HS6.out hb7); have HS7 : Hid (w5.heap.size ≤ w7.heap.size) := Nat.le_trans HS6.out hb7.size; clear hb7)
    go_wp2
    go_loopw [27] (fun i wr => ∃ k : Nat, k ≤ N ∧ i = .int .i64 k ∧ Hid (KpW w w5 A5 ds Ap N wr) ∧ Hid (w5.heap.size ≤ wr.heap.size)) (fun i _ => N - (intOf i).toNat)
    case atStart => exact ⟨0, Nat.zero_le _, rfl, HK7, HS7⟩
    case round =>
      clear HK6 HK7 HS6 HS7 HRT HPA
      obtain ⟨k, hk, rfl, HK, HS⟩ := hrel
      by_cases hlt : k < N
      · obtain ⟨g, w8, rfl, hst, hk8, hs8⟩ := HK.out.turn HS65.out HS.out hlt
        have HK8 := Lib.hid hk8
        have HS8 := Lib.hid hs8
        have i1 : (k : Int) < (N : Int) := by omega
        clear hk8 hs8
        go_wp2
        clear hst
        go_roundw
        case rel => exact ⟨k + 1, hlt, by go_num, HK8, HS8⟩
        case measure => simp [intOf]; omega
      · obtain rfl : k = N := by omega
        have HQ := Lib.hid (HSM.out _ HK.out HS.out)
        go_wp2_with (go_at_call 16; refine (HQ.out).mono ?_; rintro e w9 ⟨rfl, hb9⟩; have HF9 := Lib.hid (HK.out.far.trans (hb9.mono HK.out.far.size)); clear hb9)
        go_ret
        exact ⟨rfl, HF9.out⟩
  · have hx : (decide ((0 : Int) ≤ x) && decide (x < (ds.length : Int))) = false := by
      rw [Bool.eq_false_iff]
      intro h
      rw [Bool.and_eq_true, decide_eq_true_eq, decide_eq_true_eq] at h
      exact hp h
    have HPA := Lib.hid (path_not x ds.length c5 A5 hx w5)
    go_upto_region 7 with (go_at_call 10; refine (HPA.out).mono ?_; rintro e w6 ⟨rfl, hw6⟩; have HW6 := Lib.hid hw6; clear hw6)
    obtain rfl : w6 = w5 := HW6.out
    clear HW6
    have HRT := Lib.hid (root_any ds A5 c5 w6 HM5.out (by omega) (HR.out.of_below HF5.out))
    have HK6 : Hid (KpW w w6 A5 ds none 0 w6) := ⟨HM5.out, HF5.out, .inl rfl⟩
    have HS6 : Hid (w6.heap.size ≤ w6.heap.size) := Nat.le_refl _
    have HSM : Hid (∀ wr, KpW w w6 A5 ds none 0 wr → w6.heap.size ≤ wr.heap.size → Calls Tryd.prog 16 #[.slice A5 ds.length c5, .slice A ds.length c] wr fun e w'' => e = .returned (.bool true) ∧ Below wr.heap.size wr w'') := fun wr h h5 => by
      have hs := same_any ds ds A5 A c5 c wr (h.mine.more h5) (HD.out.far h.far) (by omega)
      rw [decide_eq_true rfl] at hs
      exact hs
    go_upto_region 8 with (go_at_call 14; refine (HRT.out).mono ?_; rintro e w7 ⟨rfl, hb7⟩; have HK7 := Lib.hid (HK6.out.call HS6.out hb7); have HS7 : Hid (w6.heap.size ≤ w7.heap.size) := Nat.le_trans HS6.out hb7.size; clear hb7)
    go_wp2
    go_loopw [27] (fun i wr => i = .int .i64 0 ∧ Hid (KpW w w6 A5 ds none 0 wr) ∧ Hid (w6.heap.size ≤ wr.heap.size)) (fun _ _ => 0)
    case atStart => exact ⟨rfl, HK7, HS7⟩
    case round =>
      clear HK6 HK7 HS6 HS7 HRT HPA
      obtain ⟨rfl, HK, HS⟩ := hrel
      have HQ := Lib.hid (HSM.out _ HK.out HS.out)
      go_wp2_with (go_at_call 16; refine (HQ.out).mono ?_; rintro e w9 ⟨rfl, hb9⟩; have HF9 := Lib.hid (HK.out.far.trans (hb9.mono HK.out.far.size)); clear hb9)
      go_ret
      exact ⟨rfl, HF9.out⟩
end Go.Proofs.YtkpekglpknbodaaDoor
