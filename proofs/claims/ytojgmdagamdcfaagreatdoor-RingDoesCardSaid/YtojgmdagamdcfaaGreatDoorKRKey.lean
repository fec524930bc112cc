/-
  The document's trees: wapentakeref05.Leaves, Key, Sign.
-/
import Derived.Test.YtojgmdagamdcfaaGreatDoorKD
import Derived.Test.YtojgmdagamdcfaaGreatDoorOC
import Derived.Test.YtojgmdagamdcfaaGreatDoorORSign
import Derived.Test.YtojgmdagamdcfaaGreatDoorTR
namespace Go.Proofs.YtojgmdagamdcfaaGreatDoor
open Go.RowKit

section
attribute [local go_sem ↓] ldDigest_def stDigest_def apAll_def bsAll_def

set_option maxRecDepth 100000 in
set_option maxHeartbeats 2000000 in
theorem rleaves_any (seed : List UInt8) (hs : seed.length = 32) (h : Nat) (hh : h ≤ 6) (w : World) :
    Calls Tryz.prog 28 #[.agg (seed.map bv).toArray, .int .i64 (h : Int)] w fun e w' => ∃ A c, e = .returned (.slice A (leavesT seed h).length c) ∧ Digs w' w'.heap.size A (leavesT seed h) ∧ Below w.heap.size w w' := by
  have HB : Hid (Box (w.alloc (.cells (seed.map bv).toArray 33)) w.heap.size 33 (seed.map bv).toArray) := Box.made _ _ _
  have HF : Hid (Below w.heap.size w (w.alloc (.cells (seed.map bv).toArray 33))) := (Below.refl _ _).alloc (Nat.le_refl _) _
  have HXA := Lib.hid (leaves_all seed h)
  have HXL : Hid ((leavesT seed h).length = 2 ^ h) := Lib.hid (leaves_len seed h)
  have HXP : Hid (∀ k, k < (leavesT seed h).length → (leavesT seed h).getD k [] = leafT (pubT seed (k : Int))) := Lib.hid (fun k hk => leaves_at seed h (by rw [← leaves_len seed h]; exact hk))
  have HSL := Lib.hid hs
  clear hs
  generalize leavesT seed h = X at *
  go_enter Tryz.func28, Tryz.ntmps28
  go_upto_region 1 with fail
  change Code.wp _ _ _ _ (w.alloc (.cells (seed.map bv).toArray 33))
  generalize w.alloc (.cells (seed.map bv).toArray 33) = w1 at *
  go_upto_region 4 with fail
  go_loopw [6, 7] (fun n i wr => ∃ k m : Nat, k ≤ h ∧ Hid (m = 2 ^ k) ∧ n = .int .i64 (m : Int) ∧ i = .int .i64 (k : Int) ∧ wr = w1) (fun _ i _ => h - (intOf i).toNat)
  case atStart => exact ⟨0, 1, Nat.zero_le _, by exact Lib.hid rfl, rfl, rfl, rfl⟩
  case round =>
    obtain ⟨k, m, hk, HM, rfl, rfl, rfl⟩ := hrel
    by_cases hlt : k < h
    · have hm : m ≤ 32 := by
        rw [HM.out]
        exact Nat.le_trans (Nat.pow_le_pow_right (by decide) (show k ≤ 5 by omega)) (by decide)
      have HM2 : Hid (2 * m = 2 ^ (k + 1)) := by
        show _ = _
        rw [HM.out, Nat.pow_succ, Nat.mul_comm]
      clear HM
      go_wp2
      go_roundw
      case rel => exact ⟨k + 1, 2 * m, hlt, HM2, by go_num, by go_num, trivial⟩
      case measure => simp [intOf]; omega
    · obtain rfl : k = h := by omega
      obtain rfl : m = X.length := by rw [HM.out, HXL.out]
      have hpow : X.length ≤ 64 := by
        rw [HXL.out]
        exact Nat.le_trans (Nat.pow_le_pow_right (by decide) hh) (by decide)
      have HW0 : Hid (PaW wr (.slice none 0 0) [] wr) := ⟨World.ownsRow_nil _ _ _ _, AllD.nil, Below.refl _ _⟩
      clear HM HXL hlt hk
      go_upto_region 8 with fail
      go_loopw [5, 8] (fun v i wx => ∃ (q : Nat) (Ap : Option Addr) (cp : Nat), q ≤ X.length ∧ i = .int .i64 (q : Int) ∧ v = .slice Ap q cp ∧ Hid (PaW wr (.slice Ap q cp) (X.take q) wx)) (fun _ i _ => X.length - (intOf i).toNat)
      case atStart => exact ⟨0, none, 0, Nat.zero_le _, rfl, rfl, HW0⟩
      case round =>
        clear HW0
        obtain ⟨q, Ap, cp, hq, rfl, rfl, HW⟩ := hrel
        by_cases hlt : q < X.length
        · have HPB : Hid (∀ w', Calls Tryz.prog 49 #[.agg (seed.map bv).toArray, .int .i64 (q : Int)] w' fun e w'' => e = .returned (.agg ((pubT seed (q : Int)).map bv).toArray) ∧ Below w'.heap.size w' w'') := fun w' => rpublic_any seed HSL.out q (by omega) (by omega) w'
          have HDG : Hid (∀ w', Calls Tryz.prog 48 #[.agg ((pubT seed (q : Int)).map bv).toArray] w' fun e w'' => e = .returned (str (pubT seed (q : Int))) ∧ Below w'.heap.size w' w'') := fun w' => digstr_any _ rfl w'
          have HLF : Hid (∀ w', Calls Tryz.prog 47 #[str (pubT seed (q : Int))] w' fun e w'' => e = .returned (.agg ((X.getD q []).map bv).toArray) ∧ Below w'.heap.size w' w'') := fun w' => by
            rw [HXP.out q hlt]
            exact rleaf_any _ (by rw [show (pubT seed (q : Int)).length = 32 from rfl]; decide) w'
          have HTS : Hid (X.take q ++ [X.getD q []] = X.take (q + 1)) := by
            show _ = _
            rw [List.take_succ_eq_append_getElem hlt, List.getD_eq_getElem?_getD, List.getElem?_eq_getElem hlt]
            rfl
          have HNL : Hid (q = (X.take q).length) := by
            show _ = _
            rw [List.length_take]
            omega
          have HRD := Lib.hid (HXA.out.get hlt [])
          have HBX := Lib.hid (HB.out.below HW.out.far HB.out.lt)
          have HLS := Lib.hid (dig_list seed HSL.out)
          have hbs := build_one (X.getD q []) HRD.out
          generalize X.getD q [] = r at *
          generalize pubT seed (q : Int) = p at *
          go_wp2_with (first
            | ((with_reducible show wpList _ _ _ ((⟨some 22, _, _, _, _, _⟩ : Oper) :: _) _ _); refine wpList_load_mid rfl 33 (.tmp 2) rfl w.heap.size 0 rfl (seed.map bv) _ HBX.out.range Tryz.underlying33 rfl HLS.out ?_)
            | (go_at_call 49; (with_reducible refine (HPB.out _).mono ?_); rintro e w2 ⟨rfl, hb⟩; have HW2 := Lib.hid (HW.out.call hb); clear hb)
            | (go_at_call 48; (with_reducible refine (HDG.out _).mono ?_); rintro e w3 ⟨rfl, hb⟩; have HW3 := Lib.hid (HW2.out.call hb); clear hb)
            | (go_at_call 47; (with_reducible refine (HLF.out _).mono ?_); rintro e w4 ⟨rfl, hb⟩; obtain ⟨A6, c6, w7, hap, hw7⟩ := push_dig HNL.out (HW3.out.call hb) (by omega) HRD.out; have HW7 := Lib.hid hw7; clear hb hw7))
          rw [HTS.out] at HW7
          clear hbs hap HW HPB HDG HLF
          go_roundw
          case rel => exact ⟨q + 1, A6, c6, hlt, by go_num, rfl, HW7⟩
          case measure => simp [intOf]; omega
        · obtain rfl : q = X.length := by omega
          have HW2 := HW.out
          rw [List.take_length] at HW2
          have HQ := Lib.hid (OwnD.digs HW2.own HXA.out)
          have HFF := Lib.hid (HF.out.trans (HW2.far.mono HF.out.size))
          clear HW2
          go_wp2
          go_ret
          exact ⟨Ap, cp, rfl, HQ.out, HFF.out⟩
end

set_option maxRecDepth 100000 in
set_option maxHeartbeats 2000000 in
theorem rkey_any (seed : List UInt8) (hs : seed.length = 32) (h : Nat) (hh : h ≤ 6) (w : World) :
    Calls Tryz.prog 26 #[.agg (seed.map bv).toArray, .int .i64 (h : Int)] w fun e w' => e = .returned (.agg (keyV (keyT seed h) h)) ∧ Below w.heap.size w w' := by
  have HB : Hid (Box ((w.alloc (.cells (seed.map bv).toArray 33)).alloc (.cells zkey 37)) w.heap.size 33 (seed.map bv).toArray) := (Box.made _ _ _).alloc _
  have HO : Hid (Box ((w.alloc (.cells (seed.map bv).toArray 33)).alloc (.cells zkey 37)) (w.heap.size + 1) 37 zkey) := Box.made_at (by simp) _ _
  have HF : Hid (Below w.heap.size w ((w.alloc (.cells (seed.map bv).toArray 33)).alloc (.cells zkey 37))) := ((Below.refl _ _).alloc (Nat.le_refl _) _).alloc (by simp) _
  have HLV : Hid (∀ w', Calls Tryz.prog 28 #[.agg (seed.map bv).toArray, .int .i64 (h : Int)] w' fun e w'' => ∃ A c, e = .returned (.slice A (leavesT seed h).length c) ∧ Digs w'' w''.heap.size A (leavesT seed h) ∧ Below w'.heap.size w' w'') := fun w' => rleaves_any seed hs h hh w'
  have hpow : (leavesT seed h).length ≤ 64 := by
    rw [leaves_len]
    exact Nat.le_trans (Nat.pow_le_pow_right (by decide) hh) (by decide)
  have HRT : Hid (∀ w' A c, Digs w' w'.heap.size A (leavesT seed h) → Calls Tryz.prog 46 #[.slice A (leavesT seed h).length c] w' fun e w'' => e = .returned (.agg ((keyT seed h).map bv).toArray) ∧ Below w'.heap.size w' w'') := fun w' A c hd => rroot_any (leavesT seed h) A c w' hd (by omega)
  have HKL := Lib.hid (keyT_len seed h)
  have HLS := Lib.hid (dig_list seed hs)
  clear hs hpow
  generalize leavesT seed h = X at *
  generalize hr : keyT seed h = r at *
  have HRE := Lib.hid hr
  clear hr
  have HKB := Lib.hid (built_key HKL.out (h : Int))
  have HKS := Lib.hid (key_size HKL.out (h : Int))
  have HON := Lib.hid (keyL_one r (h : Int))
  have HZK : Hid ((keyV r (h : Int)).size = zkey.size) := by
    show _ = _
    unfold keyV
    rw [List.size_toArray, keyL_len HKL.out]
    rfl
  go_enter Tryz.func26, Tryz.ntmps26
  go_upto_region 1 with fail
  change Code.wp _ _ _ _ ((w.alloc (.cells (seed.map bv).toArray 33)).alloc (.cells zkey 37))
  generalize (w.alloc (.cells (seed.map bv).toArray 33)).alloc (.cells zkey 37) = w1 at *
  go_wp2_with (first
    | ((with_reducible show wpList _ _ _ ((⟨some 5, _, _, _, _, _⟩ : Oper) :: _) _ _); refine wpList_load_mid rfl 33 (.tmp 2) rfl w.heap.size 0 rfl (seed.map bv) _ HB.out.range Tryz.underlying33 rfl HLS.out ?_)
    | (go_at_call 28; (with_reducible refine (HLV.out _).mono ?_); rintro e w2 ⟨A, c, rfl, hd, hb⟩; have HD2 := Lib.hid hd; have HB2 := Lib.hid hb; clear hd hb)
    | (go_at_call 46; (with_reducible refine (HRT.out _ _ _ HD2.out).mono ?_); rintro e w3 ⟨rfl, hb⟩; have HB3 := Lib.hid (HB2.out.trans (hb.mono HB2.out.size)); clear hb)
    | ((with_reducible show wpList _ _ _ ((⟨some 10, _, _, _, _, _⟩ : Oper) :: _) _ _); refine wpList_build_list rfl 37 [(0, .tmp 8), (1, .tmp 9)] rfl [(0, .agg (r.map bv).toArray), (1, .int .i64 (h : Int))] rfl (keyV r (h : Int)) HKB.out ?_)
    | (((with_reducible show wpList _ _ _ ((⟨none, Op.store _ (.tmp 4) (.tmp 10), _, _, _, _⟩ : Oper) :: _) _ _)); refine wpList_store_box rfl 37 (.tmp 4) (.tmp 10) rfl (w.heap.size + 1) (keyV r (h : Int)) rfl rfl 37 zkey (HO.out.below HB3.out HO.out.lt) HZK.out HKS.out HON.out ?_; intro w7 hb7 hg7))
  exact bodyPost_ret (v := .agg (keyV r (h : Int))) (results_cell_row rfl _ w7 (w.heap.size + 1) 37 (keyV r (h : Int)) (0, 0) _ rfl hb7 Tryz.underlying37 rfl HKS.out) rfl ⟨rfl, (HF.out.trans (HB3.out.mono HF.out.size)).trans (below_only hg7 (by omega) (HF.out.trans (HB3.out.mono HF.out.size)).size)⟩

/-- No byte lies in a block of such cells: what reads as digests lies elsewhere. -/
def NoByte (cs : Array Value) : Prop := ∀ (j : Nat) (v : Value), cs[j]? = some v → ∀ b : UInt8, v ≠ bv b
theorem Digs.aside {w w' : World} {A : Option Addr} {ds : List (List UInt8)} (h : Digs w w.heap.size A ds) {g : Nat} {t : TypeId} {cs : Array Value} (hb : Box w g t cs) (hn : NoByte cs) (hg : w.grownBy w' (some g)) : Digs w' w'.heap.size A ds := by
  rcases Nat.eq_zero_or_pos ds.length with h0 | hp
  · rw [List.eq_nil_of_length_eq_zero h0]
    exact Digs.empty _ _ _
  · obtain ⟨g', o, rfl, _, hr⟩ := h.some_ hp
    refine h.apart hg ?_
    intro g2 o2 e e2
    injection e with e
    injection e with e e3
    injection e2 with e2
    subst e
    subst e2
    have hf := h.all.flat
    have hp2 : 0 < ds.flatten.length := by omega
    have h1 := hr 0 (bv ds.flatten[0]) (by rw [List.getElem?_map, List.getElem?_eq_getElem hp2]; rfl)
    rw [hb.cell] at h1
    exact hn _ _ h1 _ rfl
theorem sig_nobyte (n : Int) (A : Option Addr) (x a : Nat) (B : Option Addr) (y b : Nat) (C : Option Addr) (z c : Nat) : NoByte (sigV n A x a B y b C z c) := by
  intro j v hv q e
  have hm := Array.mem_of_getElem? hv
  simp at hm
  rcases hm with rfl | rfl | rfl | rfl <;> simp [bv] at e

/-- The document's signature, in memory. -/
def RKSignIs (w : World) (n : Int) (X Y P : List (List UInt8)) (e : Ending) (w' : World) : Prop :=
  ∃ A B C a b c, e = .returned (.agg (sigV n A 32 a B 32 b C P.length c)) ∧ Digs w' w'.heap.size A X ∧ Digs w' w'.heap.size B Y ∧ Digs w' w'.heap.size C P ∧ Below w.heap.size w w'

set_option maxRecDepth 100000 in
set_option maxHeartbeats 2000000 in
theorem rksign_any (seed : List UInt8) (hs : seed.length = 32) (X : List (List UInt8)) (A0 : Option Addr) (c0 n : Nat) (hn : n < X.length) (hl : X.length ≤ 1099511627000) (d : List UInt8) (hd : d.length = 32) (w : World) (hX : Digs w w.heap.size A0 X) :
    Calls Tryz.prog 32 #[.agg (seed.map bv).toArray, .slice A0 X.length c0, .int .i64 (n : Int), .agg (d.map bv).toArray] w (RKSignIs w n (openT seed n d) (shutT seed n d) (pathT X n)) := by
  obtain ⟨w1, hw1⟩ : ∃ w1, w1 = ((w.alloc (.cells (seed.map bv).toArray 33)).alloc (.cells (d.map bv).toArray 33)).alloc (.cells zsig 48) := ⟨_, rfl⟩
  have HB : Hid (Box w1 w.heap.size 33 (seed.map bv).toArray) := by
    rw [hw1]
    exact ((Box.made _ _ _).alloc _).alloc _
  have HD : Hid (Box w1 (w.heap.size + 1) 33 (d.map bv).toArray) := by
    rw [hw1]
    exact (Box.made_at (by simp) _ _).alloc _
  have HO : Hid (Box w1 (w.heap.size + 1 + 1) 48 zsig) := by
    rw [hw1]
    exact Box.made_at (by simp) _ _
  have HF : Hid (Below w.heap.size w w1) := by
    rw [hw1]
    exact (((Below.refl _ _).alloc (Nat.le_refl _) _).alloc (by simp) _).alloc (by simp; omega) _
  have HSG : Hid (∀ w', Calls Tryz.prog 52 #[.agg (seed.map bv).toArray, .int .i64 (n : Int), .agg (d.map bv).toArray] w' (RSignIs w' (openT seed n d) (shutT seed n d))) := fun w' => rsign_any seed hs n (by omega) (by omega) d hd w'
  have HPT : Hid (∀ w', Below w1.heap.size w1 w' → Calls Tryz.prog 53 #[.slice A0 X.length c0, .int .i64 (n : Int)] w' (RPathIs w' (pathT X n))) := fun w' hb => rpath_any X A0 c0 n w' hn ((hX.far HF.out).far hb) hl
  have HLS := Lib.hid (dig_list seed hs)
  have HLD := Lib.hid (dig_list d hd)
  clear hs hd hn hX hl
  generalize openT seed (n : Int) d = XO at *
  generalize shutT seed (n : Int) d = YO at *
  generalize pathT X n = P at *
  go_enter Tryz.func32, Tryz.ntmps32
  go_upto_region 1 with fail
  change Code.wp _ _ _ _ (((w.alloc (.cells (seed.map bv).toArray 33)).alloc (.cells (d.map bv).toArray 33)).alloc (.cells zsig 48))
  rw [← hw1]
  have HZ : Hid (w1.heap.size = w.heap.size + 1 + 1 + 1) := by
    rw [hw1]
    exact Lib.hid (by simp)
  clear hw1
  go_wp2_with (first
    | ((with_reducible show wpList _ _ _ ((⟨some 10, _, _, _, _, _⟩ : Oper) :: _) _ _); refine wpList_load_mid rfl 33 (.tmp 4) rfl w.heap.size 0 rfl (seed.map bv) _ HB.out.range Tryz.underlying33 rfl HLS.out ?_)
    | ((with_reducible show wpList _ _ _ ((⟨some 12, _, _, _, _, _⟩ : Oper) :: _) _ _); refine wpList_load_mid rfl 33 (.tmp 7) rfl (w.heap.size + 1) 0 rfl (d.map bv) _ HD.out.range Tryz.underlying33 rfl HLD.out ?_)
    | (go_at_call 52; (with_reducible refine (HSG.out _).mono ?_); rintro e w2 ⟨A, B, a, b, rfl, d1, d2, hb⟩; have HX2 := Lib.hid (And.intro d1 d2); have HB2 := Lib.hid hb; clear d1 d2 hb)
    | (go_at_call 53; (with_reducible refine (HPT.out _ HB2.out).mono ?_); rintro e w3 ⟨C, c, rfl, d3, hb⟩; have HX3 := Lib.hid (And.intro (HX2.out.1.far hb) (And.intro (HX2.out.2.far hb) d3)); have HB3 := Lib.hid (HB2.out.trans (hb.mono HB2.out.size)); have HBS := Lib.hid (built_sig (n : Int) A 32 a B 32 b C P.length c); have HSZ := Lib.hid (sig_size (n : Int) A 32 a B 32 b C P.length c); have HON := Lib.hid (sig_one (n : Int) A 32 a B 32 b C P.length c); clear d3 hb)
    | ((with_reducible show wpList _ _ _ ((⟨some 17, _, _, _, _, _⟩ : Oper) :: _) _ _); refine wpList_build_list rfl 48 [(0, .tmp 9), (1, .tmp 13), (2, .tmp 16)] rfl [(0, .int .i64 (n : Int)), (1, .agg #[.slice A 32 a, .slice B 32 b]), (2, .slice C P.length c)] rfl (sigV (n : Int) A 32 a B 32 b C P.length c) HBS.out ?_)
    | (((with_reducible show wpList _ _ _ ((⟨none, Op.store _ (.tmp 8) (.tmp 17), _, _, _, _⟩ : Oper) :: _) _ _)); refine wpList_store_box rfl 48 (.tmp 8) (.tmp 17) rfl (w.heap.size + 1 + 1) (sigV (n : Int) A 32 a B 32 b C P.length c) rfl rfl 48 zsig (HO.out.below HB3.out HO.out.lt) rfl HSZ.out HON.out ?_; intro w7 hb7 hg7))
  have HO3 := HO.out.below HB3.out HO.out.lt
  have hnb := sig_nobyte 0 none 0 0 none 0 0 none 0 0
  have hsz := (HF.out.trans (HB3.out.mono HF.out.size)).size
  exact bodyPost_ret (v := .agg (sigV (n : Int) A 32 a B 32 b C P.length c)) (results_cell_row rfl _ w7 (w.heap.size + 1 + 1) 48 (sigV (n : Int) A 32 a B 32 b C P.length c) (0, 0) _ rfl hb7 Tryz.underlying48 rfl HSZ.out) rfl
    ⟨A, B, C, a, b, c, rfl, HX3.out.1.aside HO3 hnb hg7, HX3.out.2.1.aside HO3 hnb hg7, HX3.out.2.2.aside HO3 hnb hg7, (HF.out.trans (HB3.out.mono HF.out.size)).trans (below_only hg7 (by omega) hsz)⟩
end Go.Proofs.YtojgmdagamdcfaaGreatDoor
