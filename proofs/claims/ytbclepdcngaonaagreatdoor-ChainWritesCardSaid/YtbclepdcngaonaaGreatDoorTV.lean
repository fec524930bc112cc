/-
  Package tree: Path.
  Package tree: Check.
-/
import Derived.Test.YtbclepdcngaonaaGreatDoorTU
namespace Go.Proofs.YtbclepdcngaonaaGreatDoor
open Go.RowKit

attribute [local go_sem ↓] ldDigest_def stDigest_def apAll_def

/-- The path of a leaf. -/
def pathT (ds : List (List UInt8)) (n : Nat) : List (List UInt8) := way pT (shaOf []) ds n
theorem pathT_all : ∀ (N : Nat) (ds : List (List UInt8)) (n : Nat), ds.length ≤ N → AllD ds → AllD (pathT ds n)
  | 0, ds, n, hN, _ => by
    unfold pathT
    rw [way_one pT _ (by omega)]
    exact AllD.nil
  | N + 1, ds, n, hN, h => by
    unfold pathT
    by_cases hl : ds.length ≤ 1
    · rw [way_one pT _ hl]
      exact AllD.nil
    · rw [way_up pT _ (by omega)]
      refine AllD.append ?_ (pathT_all N _ _ (by rw [up_length]; omega) h.up)
      split
      · rename_i hs
        exact AllD.one (h.get hs _)
      · exact AllD.nil
theorem AllD.path {ds : List (List UInt8)} (h : AllD ds) (n : Nat) : AllD (pathT ds n) := pathT_all _ ds n (Nat.le_refl _) h

end Go.Proofs.YtbclepdcngaonaaGreatDoor

namespace Go.Proofs.YtbclepdcngaonaaGreatDoor
open Go.RowKit

attribute [local go_sem ↓] ldDigest_def stDigest_def

/-- Does a path lead to the root? -/
def checkT (root leaf : List UInt8) (n count : Nat) (ps : List (List UInt8)) : Bool := decide (ends pT n count leaf ps = some root)

set_option maxRecDepth 100000 in
theorem check_not (root leaf : List UInt8) (x y : Int) (A : Option Addr) (n c : Nat) (hx : (decide (0 ≤ x) && decide (x < y)) = false) (w : World) :
    Calls Tryz.prog 142 #[.agg (root.map bv).toArray, .agg (leaf.map bv).toArray, .int .i64 x, .int .i64 y, .slice A n c] w fun e w' => e = .returned (.bool false) ∧ Below w.heap.size w w' := by
  have hp := placed_any x y ((w.alloc (.cells (root.map bv).toArray 29)).alloc (.cells (leaf.map bv).toArray 29))
  rw [hx] at hp
  have HPL := Lib.hid hp
  have HF : Hid (Below w.heap.size w ((w.alloc (.cells (root.map bv).toArray 29)).alloc (.cells (leaf.map bv).toArray 29))) := ((Below.refl _ _).alloc (Nat.le_refl _) _).alloc (by simp) _
  clear hp hx
  go_enter Tryz.func142, Tryz.ntmps142
  go_upto_region 1 with fail
  change Code.wp _ _ _ _ ((w.alloc (.cells (root.map bv).toArray 29)).alloc (.cells (leaf.map bv).toArray 29))
  generalize (w.alloc (.cells (root.map bv).toArray 29)).alloc (.cells (leaf.map bv).toArray 29) = w1 at *
  go_wp2_with (go_at_call 156; refine (HPL.out).mono ?_; rintro e w2 ⟨rfl, rfl⟩)
  go_ret
  exact ⟨rfl, HF.out⟩

theorem digs_tail {A : Option Addr} {n c : Nat} (hn : 1 ≤ n) (w : World) :
    (Instr.slice 68 (.slice A n c) (some (.int .i64 1)) none none).run Tryz.prog w = .ok (.slice (if c = 1 then A else A.map (·.add 32)) (n - 1) (c - 1)) w := digs_from (m := 1) hn w
theorem ends_first {k cnt : Nat} (h : 1 < cnt) (hs : sib k < cnt) (own : List UInt8) : ∀ {qs : List (List UInt8)}, 0 < qs.length → ends pT k cnt own qs = ends pT (k / 2) ((cnt + 1) / 2) (meet pT k own (qs.getD 0 [])) (qs.drop 1)
  | [], hq => by simp at hq
  | x :: r, _ => ends_cons pT h hs own x r

/-- What the walk of Check carries of memory. -/
structure CkW (w0 : World) (b : Nat) (root own : List UInt8) (w : World) : Prop where
  root : Box w w0.heap.size 29 (root.map bv).toArray
  own : Box w b 29 (own.map bv).toArray
  far : Below w0.heap.size w0 w
  high : w0.heap.size < b
theorem CkW.call {w0 w w' : World} {b : Nat} {root own : List UInt8} (h : CkW w0 b root own w) (hb : Below w.heap.size w w') : CkW w0 b root own w' := ⟨h.root.below hb h.root.lt, h.own.below hb h.own.lt, h.far.trans (hb.mono h.far.size), h.high⟩
theorem CkW.drew {w0 w : World} {b : Nat} {root own : List UInt8} (h : CkW w0 b root own w) : CkW w0 b root own w.drew := ⟨h.root, h.own, h.far.drew, h.high⟩
theorem CkW.put {w0 w : World} {b : Nat} {root own own' : List UInt8} (h : CkW w0 b root own w) (hl : own.length = 32) (hl' : own'.length = 32) : CkW w0 b root own' (w.setCells b 0 (own'.map bv)) := by
  have hh := h.high
  exact ⟨h.root.grown (only_cells _ _ _) (fun e => by injection e with e; omega), h.own.cells_dig (by rw [List.size_toArray, List.length_map, hl]) hl', below_cells h.far (by omega) h.far.size _ _, hh⟩

set_option maxRecDepth 100000 in
set_option maxHeartbeats 2000000 in
theorem check_any (root leaf : List UInt8) (hr : root.length = 32) (hlf : leaf.length = 32) (n count : Nat) (hnc : n < count) (hc63 : count < 9223372036854775808) (ps : List (List UInt8)) (A : Option Addr) (c : Nat) (w : World) (hD : Digs w w.heap.size A ps) (hcap : ps.length ≤ c) (hR : Roots w) :
    Calls Tryz.prog 142 #[.agg (root.map bv).toArray, .agg (leaf.map bv).toArray, .int .i64 (n : Int), .int .i64 (count : Int), .slice A ps.length c] w fun e w' => e = .returned (.bool (checkT root leaf n count ps)) ∧ Below w.heap.size w w' := by
  have HR := Lib.hid hR
  have hp := placed_any n count ((w.alloc (.cells (root.map bv).toArray 29)).alloc (.cells (leaf.map bv).toArray 29))
  rw [show (decide (0 ≤ (n : Int)) && decide ((n : Int) < (count : Int))) = true by simp; omega] at hp
  have HPL := Lib.hid hp
  have hF0 : Below w.heap.size w ((w.alloc (.cells (root.map bv).toArray 29)).alloc (.cells (leaf.map bv).toArray 29)) := ((Below.refl _ _).alloc (Nat.le_refl _) _).alloc (by simp) _
  have hA1 : Box ((w.alloc (.cells (root.map bv).toArray 29)).alloc (.cells (leaf.map bv).toArray 29)) w.heap.size 29 (root.map bv).toArray := (Box.made w _ _).alloc _
  have hB1 : Box ((w.alloc (.cells (root.map bv).toArray 29)).alloc (.cells (leaf.map bv).toArray 29)) (w.heap.size + 1) 29 (leaf.map bv).toArray := Box.made_at (by simp) _ _
  have hsz : ((w.alloc (.cells (root.map bv).toArray 29)).alloc (.cells (leaf.map bv).toArray 29)).heap.size = w.heap.size + 2 := by simp
  have HSZ := Lib.hid hsz
  have HF := Lib.hid hF0
  have HA := Lib.hid hA1
  have lB := hB1.load_digest hlf
  have HD := Lib.hid (hD.below hF0)
  clear hp hF0 hA1 hB1 hD hR hsz
  go_enter Tryz.func142, Tryz.ntmps142
  go_upto_region 1 with fail
  change Code.wp _ _ _ _ ((w.alloc (.cells (root.map bv).toArray 29)).alloc (.cells (leaf.map bv).toArray 29))
  generalize (w.alloc (.cells (root.map bv).toArray 29)).alloc (.cells (leaf.map bv).toArray 29) = w1 at *
  have hX1 : Hid (Box (w1.alloc (.cells (List.replicate 32 (Value.int .u8 0)).toArray 29)) w1.heap.size 29 (List.replicate 32 (Value.int .u8 0)).toArray) := Box.made_at rfl _ _
  have hsz := Lib.hid (dig_size leaf hlf)
  have hsame : Hid ((leaf.map bv).toArray.size = (List.replicate 32 (Value.int .u8 0)).toArray.size) := by
    rw [List.size_toArray, List.length_map, hlf]
    exact Lib.hid rfl
  have hone : Hid (∀ v ∈ (leaf.map bv).toArray.toList, v.oneCell' = true) := bv_one _
  go_upto_region 4 with (first | (go_at_call 156; refine (HPL.out).mono ?_; rintro e w2 ⟨rfl, rfl⟩) | (((with_reducible show wpList _ _ _ ((⟨none, Op.store _ (.tmp 11) (.tmp 16), _, _, _, _⟩ : Oper) :: _) _ _)); refine wpList_store_box rfl 29 (.tmp 11) (.tmp 16) rfl w2.heap.size (leaf.map bv).toArray rfl rfl 29 (List.replicate 32 (Value.int .u8 0)).toArray hX1.out hsame.out hsz.out hone.out ?_; intro w3 hb3 hg3; have HB3 := Lib.hid hb3; have HG3 := Lib.hid hg3; clear hb3 hg3))
  have hB2 := (Below.refl w2.heap.size w2).alloc (Nat.le_refl _) (.cells (List.replicate 32 (Value.int .u8 0)).toArray 29)
  have hB3 : Below w2.heap.size w2 w3 := hB2.trans (below_only HG3.out (Nat.le_refl _) (by simp))
  have hsz2 := HSZ.out
  have HW0 : Hid (CkW w w2.heap.size root leaf w3) := ⟨HA.out.below hB3 HA.out.lt, HB3.out, HF.out.trans (hB3.mono HF.out.size), by omega⟩
  have HD0 := Lib.hid (HD.out.keep (w' := w3) (fun p hp => hB3.cell (by omega)))
  clear hB2 hB3 HB3 HG3 HA HF HD hX1 hsz hsame hone lB HPL hsz2
  generalize w2.heap.size = b at *
  simp only [Act.put]
  go_loopw [2, 3, 4] (fun a a2 v wr => ∃ (k cnt : Nat) (qs : List (List UInt8)) (A' : Option Addr) (c' : Nat) (own : List UInt8), a = .int .i64 k ∧ a2 = .int .i64 cnt ∧ v = .slice A' qs.length c' ∧ k < cnt ∧ cnt ≤ count ∧ qs.length ≤ c' ∧ Hid (Digs wr w.heap.size A' qs) ∧ Hid (own.length = 32) ∧ Hid (checkT root own k cnt qs = checkT root leaf n count ps) ∧ Hid (CkW w b root own wr)) (fun _ a2 _ _ => (intOf a2).toNat)
  case atStart => exact ⟨n, count, ps, A, c, leaf, rfl, rfl, rfl, hnc, Nat.le_refl _, hcap, HD0, hlf, by exact Lib.hid rfl, HW0⟩
  case round =>
    clear HD0 HW0
    obtain ⟨k, cnt, qs, A', c', own, rfl, rfl, rfl, hk, hle, hcap, HD, HO, HT, HW⟩ := hrel
    have HHF := fun w => Lib.hid (half_any cnt (by omega) w)
    have HBS := fun w => Lib.hid (beside_any k (by omega) w)
    by_cases hl : 1 < cnt
    · have hl' : decide ((1 : Int) < (cnt : Int)) = true := decide_eq_true (by omega)
      by_cases hs : sib k < cnt
      · have hs' : decide (((sib k : Nat) : Int) < (cnt : Int)) = true := decide_eq_true (by omega)
        by_cases hq : qs.length = 0
        · have HF : Hid (checkT root leaf n count ps = false) := by
            rw [← HT.out, List.eq_nil_of_length_eq_zero hq]
            show decide _ = false
            rw [ends_none pT hl hs]
            rfl
          have hq' : decide ((qs.length : Int) = 0) = true := decide_eq_true (by omega)
          go_wp2_with (go_at_call 157; refine ((HBS _).out).mono ?_; rintro e w4 ⟨rfl, rfl⟩)
          go_ret
          exact ⟨ret_val (congrArg Value.bool HF.out.symm), HW.out.far⟩
        · have hq' : ((qs.length : Int) == 0) = false := by
            rw [beq_eq_false_iff_ne]
            omega
          have hD3 := (HD.out.keep (w' := wr.drew) (fun _ _ => rfl))
          obtain ⟨g0, o0, rfl, hg0, _⟩ := hD3.some_ (by omega)
          have lA := hD3.load (k := 0) (by omega)
          rw [Nat.zero_mul, Nat.add_zero] at lA
          have HX0 := Lib.hid (HD.out.all.get (k := 0) (by omega) [])
          have lB := HW.out.drew.own.load_digest HO.out
          have hJ := tjoined_any k own (qs.getD 0 []) HO.out HX0.out wr.drew (HR.out.of_below HW.out.far.drew)
          have hmd : (meet pT k own (qs.getD 0 [])).length = 32 := by unfold meet; split <;> rfl
          have hen := ends_first hl hs own (qs := qs) (by omega)
          have HD2 := HD.out.drop (k := 1) hcap (by omega)
          have hT2 : checkT root (meet pT k own (qs.getD 0 [])) (k / 2) ((cnt + 1) / 2) (qs.drop 1) = checkT root leaf n count ps := by
            rw [← HT.out]
            unfold checkT
            rw [hen]
          have HT2 := Lib.hid hT2
          have hsl := digs_tail (A := some ⟨g0, o0, none⟩) (n := qs.length) (c := c') (by omega)
          generalize meet pT k own (qs.getD 0 []) = d at *
          generalize qs.getD 0 [] = x at *
          change Digs wr w.heap.size (if c' = 1 then some ⟨g0, o0, none⟩ else (some ⟨g0, o0, none⟩ : Option Addr).map (·.add 32)) (qs.drop 1) at HD2
          generalize (if c' = 1 then some ⟨g0, o0, none⟩ else (some ⟨g0, o0, none⟩ : Option Addr).map (·.add 32)) = A2 at *
          have HD4 := Lib.hid HD2
          have HMD := Lib.hid hmd
          have HJ := Lib.hid hJ
          have HSL := Lib.hid hsl
          have i1 : (0 : Int) < (qs.length : Int) := by omega
          clear hD3 hJ hmd hen HD2 hT2 hsl
          go_upto_region 8 with (go_at_call 157; refine ((HBS _).out).mono ?_; rintro e w4 ⟨rfl, rfl⟩)
          go_region_with (go_at_call 158; refine (HJ.out).mono ?_; rintro e w6 ⟨rfl, hb6⟩; have HW6 := Lib.hid (HW.out.drew.call hb6); have HB6 := Lib.hid (HW.out.drew.far.trans (hb6.mono HW.out.drew.far.size)); clear hb6; have hst := HW6.out.own.store_digest (by rw [List.size_toArray, List.length_map, HO.out]) d HMD.out)
          all_goals
            have HW7 := Lib.hid (HW6.out.put HO.out HMD.out)
            have hsl := HSL.out
            clear hst lA lB HJ
            generalize w6.setCells b 0 (d.map bv) = w7 at *
            have HD7 := Lib.hid (HD4.out.keep (w' := w7) (fun p hp => (HW7.out.far.cell hp).trans (HW.out.far.cell hp).symm))
            go_wp2_with (go_at_call 159; refine ((HHF _).out).mono ?_; rintro e w8 ⟨rfl, rfl⟩)
            clear hsl
            go_roundw
            case rel => exact ⟨k / 2, (cnt + 1) / 2, qs.drop 1, A2, c' - 1, d, by go_num, by go_num, by rw [List.length_drop], by omega, by omega, by rw [List.length_drop]; omega, HD7, HMD, HT2, HW7⟩
            case measure => simp [intOf]; omega
      · have hs' : decide (((sib k : Nat) : Int) < (cnt : Int)) = false := decide_eq_false (by omega)
        have HT2 : Hid (checkT root own (k / 2) ((cnt + 1) / 2) qs = checkT root leaf n count ps) := by
          rw [← HT.out]
          unfold checkT
          rw [ends_skip pT hl hs]
          exact Lib.hid rfl
        go_wp2_with (first | (go_at_call 157; refine ((HBS _).out).mono ?_; rintro e w4 ⟨rfl, rfl⟩) | (go_at_call 159; refine ((HHF _).out).mono ?_; rintro e w8 ⟨rfl, rfl⟩))
        go_roundw
        case rel => exact ⟨k / 2, (cnt + 1) / 2, qs, A', c', own, by go_num, by go_num, rfl, by omega, by omega, hcap, HD, HO, HT2, HW⟩
        case measure => simp [intOf]; omega
    · have hl' : decide ((1 : Int) < (cnt : Int)) = false := decide_eq_false (by omega)
      by_cases hq : qs.length = 0
      · have hq' : ((qs.length : Int) == 0) = true := by
          rw [beq_iff_eq]
          omega
        have l1 := HW.out.own.load_digest HO.out
        have l2 := HW.out.root.load_digest hr
        have hde := dig_eq own root HO.out hr
        have HF : Hid (checkT root leaf n count ps = decide (own = root)) := by
          rw [← HT.out, List.eq_nil_of_length_eq_zero hq]
          show decide _ = _
          rw [ends_one pT (by omega)]
          simp
        go_wp2
        go_ret
        exact ⟨ret_val (congrArg Value.bool HF.out.symm), HW.out.far⟩
      · have hq' : ((qs.length : Int) == 0) = false := by
          rw [beq_eq_false_iff_ne]
          omega
        have HF : Hid (checkT root leaf n count ps = false) := by
          rw [← HT.out]
          show decide _ = false
          match qs, hq with
          | x :: r, _ =>
            rw [ends_more pT (by omega)]
            rfl
        go_wp2
        go_ret
        exact ⟨ret_val (congrArg Value.bool HF.out.symm), HW.out.far⟩
end Go.Proofs.YtbclepdcngaonaaGreatDoor
