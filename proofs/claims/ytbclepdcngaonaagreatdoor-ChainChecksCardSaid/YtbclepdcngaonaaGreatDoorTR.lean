/-
  The document's own answers, below the rows: wapentakeref01.Digest, wapentakeref02.Text, wapentakeref03.Leaf and Pair.
  wapentakeref03.Above.
  wapentakeref03.Root and Path.
  wapentakeref03.Check.
-/
import Derived.Test.YtbclepdcngaonaaGreatDoorTG
import Derived.Test.YtbclepdcngaonaaGreatDoorTU
import Derived.Test.YtbclepdcngaonaaGreatDoorSRef
import Derived.Lib.ConvBytes
import Derived.Lib.SmallJoins
import Derived.Test.YtbclepdcngaonaaGreatDoorTV
import Derived.Lib.QuietBelow
namespace Go.Proofs.YtbclepdcngaonaaGreatDoor
open Go.RowKit

attribute [local go_sem ↓] ldDigest_def stDigest_def

set_option maxRecDepth 100000 in
set_option maxHeartbeats 1000000 in
theorem rleaf_any (l : List UInt8) (hl : l.length ≤ 1099511627000) (w : World) :
    Calls Tryz.prog 127 #[str l] w fun e w' => e = .returned (.agg ((shaOf (0 :: l)).map bv).toArray) ∧ Below w.heap.size w w' := by
  have hF0 : Below w.heap.size w (w.alloc (.cells (zerosD 32).toArray 29)) := (Below.refl _ _).alloc (Nat.le_refl _) _
  have HW0 : Hid (RtW w (w.alloc (.cells (zerosD 32).toArray 29))) := ⟨Box.made w _ _, hF0⟩
  have ht := text_any (0 :: l) (by rw [List.length_cons]; omega) (w.alloc (.cells (zerosD 32).toArray 29))
  obtain ⟨X, hX⟩ : ∃ X : ByteArray, X = ⟨(0 :: l).toArray⟩ := ⟨_, rfl⟩
  have hcat : ({ data := #[0] } : ByteArray) ++ { data := l.toArray } = X := (bytes_cat [0] l).trans hX.symm
  change Calls _ _ #[Value.string ⟨(0 :: l).toArray⟩] _ _ at ht
  rw [← hX] at ht
  have HT := Lib.hid ht
  clear ht hX
  go_enter Tryz.func127, Tryz.ntmps127
  go_upto_region 1 with fail
  change Code.wp _ _ _ _ (w.alloc (.cells (zerosD 32).toArray 29))
  generalize w.alloc (.cells (zerosD 32).toArray 29) = w1 at *
  have hdl : (shaOf (0 :: l)).length = 32 := rfl
  generalize hd : shaOf (0 :: l) = d at *
  have HDE := Lib.hid hd
  clear hd hF0
  go_wp2_with (go_at_call 59; refine (HT.out).mono ?_; rintro e w3 ⟨rfl, hb3⟩; have HW3 := Lib.hid (HW0.out.call hb3); clear hb3; have hst := HW3.out.out.store_digest rfl d hdl)
  exact ret_dig rfl rfl rfl (HW3.out.out.cells_dig rfl hdl) hdl ⟨by rw [HDE.out], below_cells HW3.out.far (Nat.le_refl _) HW3.out.far.size _ _⟩

/-- What the walk of wapentakeref03.Pair carries of memory. -/
structure PrW (w0 : World) (a b : List UInt8) (w : World) : Prop where
  a : Box w w0.heap.size 29 (a.map bv).toArray
  b : Box w (w0.heap.size + 1) 29 (b.map bv).toArray
  out : Box w (w0.heap.size + 1 + 1) 29 (zerosD 32).toArray
  far : Below w0.heap.size w0 w
theorem PrW.call {w0 w w' : World} {a b : List UInt8} (h : PrW w0 a b w) (hb : Below w.heap.size w w') : PrW w0 a b w' := ⟨h.a.below hb h.a.lt, h.b.below hb h.b.lt, h.out.below hb h.out.lt, h.far.trans (hb.mono h.far.size)⟩
theorem PrW.drew {w0 w : World} {a b : List UInt8} (h : PrW w0 a b w) : PrW w0 a b w.drew := ⟨h.a, h.b, h.out, h.far.drew⟩

set_option maxRecDepth 100000 in
set_option maxHeartbeats 1000000 in
theorem rpair_any (a b : List UInt8) (ha : a.length = 32) (hb : b.length = 32) (w : World) :
    Calls Tryz.prog 149 #[.agg (a.map bv).toArray, .agg (b.map bv).toArray] w fun e w' => e = .returned (.agg ((pT a b).map bv).toArray) ∧ Below w.heap.size w w' := by
  have hF0 : Below w.heap.size w (((w.alloc (.cells (a.map bv).toArray 29)).alloc (.cells (b.map bv).toArray 29)).alloc (.cells (zerosD 32).toArray 29)) := (((Below.refl _ _).alloc (Nat.le_refl _) _).alloc (by simp) _).alloc (by simp; omega) _
  have HP0 : Hid (PrW w a b (((w.alloc (.cells (a.map bv).toArray 29)).alloc (.cells (b.map bv).toArray 29)).alloc (.cells (zerosD 32).toArray 29))) := ⟨((Box.made w _ _).alloc _).alloc _, (Box.made_at (by simp) _ _).alloc _, Box.made_at (by simp) _ _, hF0⟩
  have ht := text_any (1 :: (a ++ b)) (by rw [List.length_cons, List.length_append, ha, hb]; omega)
  obtain ⟨X1, hX1⟩ : ∃ X : ByteArray, X = ⟨(1 :: a).toArray⟩ := ⟨_, rfl⟩
  have hcat1 : ({ data := #[1] } : ByteArray) ++ { data := a.toArray } = X1 := (bytes_cat [1] a).trans hX1.symm
  obtain ⟨X2, hX2⟩ : ∃ X : ByteArray, X = ⟨(1 :: (a ++ b)).toArray⟩ := ⟨_, rfl⟩
  have hcat2 : X1 ++ { data := b.toArray } = X2 := by
    rw [hX1, hX2]
    exact bytes_cat (1 :: a) b
  change ∀ w, Calls _ _ #[Value.string ⟨(1 :: (a ++ b)).toArray⟩] w (fun e w' => e = .returned (.agg ((pT a b).map bv).toArray) ∧ Below w.heap.size w w') at ht
  rw [← hX2] at ht
  have HT := Lib.hid ht
  have hs1 : X1.size = 33 := by
    rw [hX1]
    show (1 :: a).toArray.size = 33
    simp [ha]
  clear ht hX1 hX2 hF0
  go_enter Tryz.func149, Tryz.ntmps149
  go_upto_region 1 with fail
  change Code.wp _ _ _ _ (((w.alloc (.cells (a.map bv).toArray 29)).alloc (.cells (b.map bv).toArray 29)).alloc (.cells (zerosD 32).toArray 29))
  generalize (((w.alloc (.cells (a.map bv).toArray 29)).alloc (.cells (b.map bv).toArray 29)).alloc (.cells (zerosD 32).toArray 29)) = w1 at *
  have hdl : (pT a b).length = 32 := rfl
  generalize hd : pT a b = d at *
  have HDE := Lib.hid hd
  have HA := Lib.hid ha
  have HB := Lib.hid hb
  have HP1 := Lib.hid HP0.out.drew
  have l1 := HP1.out.a.load_digest ha
  have l2 := HP1.out.b.load_digest hb
  clear hd HP0
  go_region_with (first
    | (go_at_call 68; refine (digstr_any _ (by first | exact HA.out | exact HB.out) _).mono ?_; rintro e w4 ⟨rfl, hb4⟩; have HP3 := Lib.hid (HP2.out.call hb4); clear hb4)
    | (go_at_call 68; refine (digstr_any _ (by first | exact HA.out | exact HB.out) _).mono ?_; rintro e w3 ⟨rfl, hb3⟩; have HP2 := Lib.hid (HP1.out.call hb3); clear hb3; have l3 := HP2.out.a.load_digest HA.out; have l4 := HP2.out.b.load_digest HB.out)
    | (go_at_call 59; refine (HT.out _).mono ?_; rintro e w5 ⟨rfl, hb5⟩; have HP5 := Lib.hid (HP3.out.call hb5); clear hb5; have hst := HP5.out.out.store_digest rfl d hdl))
  all_goals
    clear l1 l2
    go_wp2
    exact ret_dig rfl rfl rfl (HP5.out.out.cells_dig rfl hdl) hdl ⟨by rw [HDE.out], below_cells HP5.out.far (by omega) HP5.out.far.size _ _⟩
end Go.Proofs.YtbclepdcngaonaaGreatDoor

namespace Go.Proofs.YtbclepdcngaonaaGreatDoor
open Go.RowKit

attribute [local go_sem ↓] ldDigest_def stDigest_def bsAll_def apAll_def

/-- How many rows' digests are made of the first i places. -/
def madeOf (i n : Nat) : Nat := if i = n then (n + 1) / 2 else i / 2

end Go.Proofs.YtbclepdcngaonaaGreatDoor

namespace Go.Proofs.YtbclepdcngaonaaGreatDoor
open Go.RowKit

attribute [local go_sem ↓] ldDigest_def stDigest_def bsAll_def apAll_def

/-- What the document's Path answers. -/
def RPathIs (w0 : World) (ps : List (List UInt8)) (e : Ending) (w : World) : Prop := ∃ A c, e = .returned (.slice A ps.length c) ∧ Digs w w.heap.size A ps ∧ Below w0.heap.size w0 w

end Go.Proofs.YtbclepdcngaonaaGreatDoor

namespace Go.Proofs.YtbclepdcngaonaaGreatDoor
open Go.RowKit Go.Sort

attribute [local go_sem ↓] ldDigest_def stDigest_def

set_option maxRecDepth 100000 in
set_option maxHeartbeats 2000000 in
theorem rcheck_all (N : Nat) : ∀ (root leaf : List UInt8) (n count : Nat) (ps : List (List UInt8)) (A : Option Addr) (c : Nat) (w : World), count ≤ N → root.length = 32 → leaf.length = 32 → n < count → count < 9223372036854775808 → Digs w w.heap.size A ps → ps.length ≤ c →
    Calls Tryz.prog 126 #[.agg (root.map bv).toArray, .agg (leaf.map bv).toArray, .int .i64 (n : Int), .int .i64 (count : Int), .slice A ps.length c] w fun e w' => e = .returned (.bool (checkT root leaf n count ps)) ∧ Below w.heap.size w w' := by
  induction N with
  | zero =>
    intro root leaf n count ps A c w hN _ _ h
    omega
  | succ N ih =>
    intro root leaf n count ps A c w hN hr hlf hnc hc63 hD hcap
    have hF0 : Below w.heap.size w ((w.alloc (.cells (root.map bv).toArray 29)).alloc (.cells (leaf.map bv).toArray 29)) := ((Below.refl _ _).alloc (Nat.le_refl _) _).alloc (by simp) _
    have hA1 : Box ((w.alloc (.cells (root.map bv).toArray 29)).alloc (.cells (leaf.map bv).toArray 29)) w.heap.size 29 (root.map bv).toArray := (Box.made w _ _).alloc _
    have hB1 : Box ((w.alloc (.cells (root.map bv).toArray 29)).alloc (.cells (leaf.map bv).toArray 29)) (w.heap.size + 1) 29 (leaf.map bv).toArray := Box.made_at (by simp) _ _
    have HF := Lib.hid hF0
    have HD1 := Lib.hid (hD.far hF0)
    have HA := Lib.hid hA1
    have HB := Lib.hid hB1
    clear hF0 hA1 hB1 hD
    go_enter Tryz.func126, Tryz.ntmps126
    go_upto_region 1 with fail
    change Code.wp _ _ _ _ ((w.alloc (.cells (root.map bv).toArray 29)).alloc (.cells (leaf.map bv).toArray 29))
    generalize (w.alloc (.cells (root.map bv).toArray 29)).alloc (.cells (leaf.map bv).toArray 29) = w1 at *
    by_cases h1 : count = 1
    · have h1' : ((count : Int) == 1) = true := by
        rw [beq_iff_eq]
        omega
      by_cases hq : ps.length = 0
      · have hq' : ((ps.length : Int) == 0) = true := by
          rw [beq_iff_eq]
          omega
        have l1 := HA.out.load_digest hr
        have l2 := HB.out.load_digest hlf
        have hde := dig_eq leaf root hlf hr
        have HC : Hid (checkT root leaf n count ps = decide (leaf = root)) := by
          rw [List.eq_nil_of_length_eq_zero hq]
          show decide _ = _
          rw [ends_one pT (by omega)]
          simp
        go_wp2
        go_ret
        exact ⟨ret_val (congrArg Value.bool HC.out.symm), HF.out⟩
      · have hq' : ((ps.length : Int) == 0) = false := by
          rw [beq_eq_false_iff_ne]
          omega
        have HC : Hid (checkT root leaf n count ps = false) := by
          show decide _ = false
          match ps, hq with
          | x :: r, _ =>
            rw [ends_more pT (by omega)]
            rfl
        go_wp2
        go_ret
        exact ⟨ret_val (congrArg Value.bool HC.out.symm), HF.out⟩
    · have h1' : ((count : Int) == 1) = false := by
        rw [beq_eq_false_iff_ne]
        omega
      have hl : 1 < count := by omega
      have hcast : ((n / 2 : Nat) : Int) = (n : Int) / 2 := by omega
      have hcast2 : (((count + 1) / 2 : Nat) : Int) = (count : Int) / 2 + (count : Int) % 2 := by omega
      by_cases hs : sib n < count
      · by_cases hodd : n % 2 = 1
        · have hx0 := hodd
          have ho' : ((n : Int) % 2 == 0) = false := by
            rw [beq_eq_false_iff_ne]
            omega
          have ho2 : ((n : Int) % 2 == 1) = true := by
            rw [beq_iff_eq]
            omega
          by_cases hq : ps.length = 0
          · have hq' : ((ps.length : Int) == 0) = true := by
              rw [beq_iff_eq]
              omega
            have HC : Hid (checkT root leaf n count ps = false) := by
              rw [List.eq_nil_of_length_eq_zero hq]
              show decide _ = false
              rw [ends_none pT hl hs]
              rfl
            go_wp2
            go_ret
            exact ⟨ret_val (congrArg Value.bool HC.out.symm), HF.out⟩
          · have hq' : ((ps.length : Int) == 0) = false := by
              rw [beq_eq_false_iff_ne]
              omega
            have HX := Lib.hid (HD1.out.all.get (k := 0) (by omega) [])
            have hen := ends_first hl hs leaf (qs := ps) (by omega)
            have hmt : meet pT n leaf (ps.getD 0 []) = pT (ps.getD 0 []) leaf := by
              unfold meet
              rw [if_neg (by omega)]
            rw [hmt] at hen
            obtain ⟨g0, o0, rfl, _, _⟩ := HD1.out.some_ (by omega)
            have HD2 := HD1.out.drop (k := 1) hcap (by omega)
            have kP := fun k os => HD1.out.load_grown (j := 0) (by omega) k os
            simp only [Nat.zero_mul, Nat.add_zero] at kP
            have hsl := digs_tail (A := some ⟨g0, o0, none⟩) (n := ps.length) (c := c) (by omega)
            have hdl := List.length_drop (i := 1) (l := ps)
            generalize ps.getD 0 [] = x at *
            change Digs w1 w1.heap.size (if c = 1 then some ⟨g0, o0, none⟩ else (some ⟨g0, o0, none⟩ : Option Addr).map (·.add 32)) (ps.drop 1) at HD2
            generalize (if c = 1 then some ⟨g0, o0, none⟩ else (some ⟨g0, o0, none⟩ : Option Addr).map (·.add 32)) = A2 at *
            have hct : checkT root (pT x leaf) (n / 2) ((count + 1) / 2) (ps.drop 1) = checkT root leaf n count ps := by
              unfold checkT
              rw [hen]
            have kR := fun k os => HA.out.load_grown hr k os
            have kL := fun k os => HB.out.load_grown hlf k os
            have cP := fun (k : Nat) (os : Array Obj) => Calls.regrown_of (rpair_any x leaf HX.out hlf (grow (redrawn w1 k) os))
            have cC := fun (k : Nat) (os : Array Obj) => Calls.regrown_of (ih root (pT x leaf) (n / 2) ((count + 1) / 2) (ps.drop 1) A2 (c - 1) (grow (redrawn w1 k) os) (by omega) hr rfl (by omega) (by omega) (HD2.far (below_regrown w1 k os)) (by omega))
            simp only [hct, hcast, hcast2, hdl] at cC
            have CP := Lib.hid cP
            have CC := Lib.hid cC
            have i1 : (0 : Int) < (ps.length : Int) := by omega
            have i0 : 0 < ps.length := by omega
            have tw : IntKind.i64.wrap ((n : Int) / 2) = (n : Int) / 2 := IntWalk.i64_in _ (by omega)
            clear cP cC hct hdl HD2 hen hmt ih hcast hcast2
            generalize pT x leaf = d at *
            generalize hck : checkT root leaf n count ps = ck at *
            have HCK := Lib.hid hck
            clear hck
            go_upto_region 9 with fail
            refine wp_region_quiet_below (by kernel_rfl) (by kernel_rfl) ?_
            repeat (quiet_step (first | (go_at_call 149; with_reducible exact CP.out _ _) | (go_at_call 126; with_reducible exact CC.out _ _)))
            refine wpQuiet_nil ?_
            intro _ hw'
            obtain ⟨⟨dq, osq⟩, hw''⟩ := hw'
            subst hw''
            clear kP kR kL hsl tw
            go_wp2
            go_ret
            exact ⟨ret_val (congrArg Value.bool HCK.out.symm), HF.out.trans ((below_regrown w1 dq osq).mono HF.out.size)⟩
        · have hx0 := hodd
          have ho' : ((n : Int) % 2 == 0) = true := by
            rw [beq_iff_eq]
            omega
          have ho2 : ((n : Int) % 2 == 1) = false := by
            rw [beq_eq_false_iff_ne]
            omega
          have hlast : ((n : Int) == (count : Int) - 1) = false := by
            rw [beq_eq_false_iff_ne]
            unfold sib at hs
            rw [if_pos (by omega)] at hs
            omega
          by_cases hq : ps.length = 0
          · have hq' : ((ps.length : Int) == 0) = true := by
              rw [beq_iff_eq]
              omega
            have HC : Hid (checkT root leaf n count ps = false) := by
              rw [List.eq_nil_of_length_eq_zero hq]
              show decide _ = false
              rw [ends_none pT hl hs]
              rfl
            go_wp2
            go_ret
            exact ⟨ret_val (congrArg Value.bool HC.out.symm), HF.out⟩
          · have hq' : ((ps.length : Int) == 0) = false := by
              rw [beq_eq_false_iff_ne]
              omega
            have HX := Lib.hid (HD1.out.all.get (k := 0) (by omega) [])
            have hen := ends_first hl hs leaf (qs := ps) (by omega)
            have hmt : meet pT n leaf (ps.getD 0 []) = pT leaf (ps.getD 0 []) := by
              unfold meet
              rw [if_pos (by omega)]
            rw [hmt] at hen
            obtain ⟨g0, o0, rfl, _, _⟩ := HD1.out.some_ (by omega)
            have HD2 := HD1.out.drop (k := 1) hcap (by omega)
            have kP := fun k os => HD1.out.load_grown (j := 0) (by omega) k os
            simp only [Nat.zero_mul, Nat.add_zero] at kP
            have hsl := digs_tail (A := some ⟨g0, o0, none⟩) (n := ps.length) (c := c) (by omega)
            have hdl := List.length_drop (i := 1) (l := ps)
            generalize ps.getD 0 [] = x at *
            change Digs w1 w1.heap.size (if c = 1 then some ⟨g0, o0, none⟩ else (some ⟨g0, o0, none⟩ : Option Addr).map (·.add 32)) (ps.drop 1) at HD2
            generalize (if c = 1 then some ⟨g0, o0, none⟩ else (some ⟨g0, o0, none⟩ : Option Addr).map (·.add 32)) = A2 at *
            have hct : checkT root (pT leaf x) (n / 2) ((count + 1) / 2) (ps.drop 1) = checkT root leaf n count ps := by
              unfold checkT
              rw [hen]
            have kR := fun k os => HA.out.load_grown hr k os
            have kL := fun k os => HB.out.load_grown hlf k os
            have cP := fun (k : Nat) (os : Array Obj) => Calls.regrown_of (rpair_any leaf x hlf HX.out (grow (redrawn w1 k) os))
            have cC := fun (k : Nat) (os : Array Obj) => Calls.regrown_of (ih root (pT leaf x) (n / 2) ((count + 1) / 2) (ps.drop 1) A2 (c - 1) (grow (redrawn w1 k) os) (by omega) hr rfl (by omega) (by omega) (HD2.far (below_regrown w1 k os)) (by omega))
            simp only [hct, hcast, hcast2, hdl] at cC
            have CP := Lib.hid cP
            have CC := Lib.hid cC
            have i1 : (0 : Int) < (ps.length : Int) := by omega
            have i0 : 0 < ps.length := by omega
            have tw : IntKind.i64.wrap ((n : Int) / 2) = (n : Int) / 2 := IntWalk.i64_in _ (by omega)
            clear cP cC hct hdl HD2 hen hmt ih hcast hcast2
            generalize pT leaf x = d at *
            generalize hck : checkT root leaf n count ps = ck at *
            have HCK := Lib.hid hck
            clear hck
            go_upto_region 10 with fail
            refine wp_region_quiet_below (by kernel_rfl) (by kernel_rfl) ?_
            repeat (quiet_step (first | (go_at_call 149; with_reducible exact CP.out _ _) | (go_at_call 126; with_reducible exact CC.out _ _)))
            refine wpQuiet_nil ?_
            intro _ hw'
            obtain ⟨⟨dq, osq⟩, hw''⟩ := hw'
            subst hw''
            clear kP kR kL hsl tw
            go_wp2
            go_ret
            exact ⟨ret_val (congrArg Value.bool HCK.out.symm), HF.out.trans ((below_regrown w1 dq osq).mono HF.out.size)⟩
      · have he : n % 2 = 0 ∧ n + 1 = count := by unfold sib at hs; split at hs <;> omega
        have ho' : ((n : Int) % 2 == 0) = true := by
          rw [beq_iff_eq]
          omega
        have ho2 : ((n : Int) == (count : Int) - 1) = true := by
          rw [beq_iff_eq]
          omega
        have hi := ih root leaf (n / 2) ((count + 1) / 2) ps A c w1 (by omega) hr hlf (by omega) (by omega) HD1.out hcap
        have hct : checkT root leaf (n / 2) ((count + 1) / 2) ps = checkT root leaf n count ps := by
          unfold checkT
          rw [ends_skip pT hl hs]
        rw [hct, hcast, hcast2] at hi
        have HI := Lib.hid hi
        have l1 := HA.out.load_digest hr
        have l2 := HB.out.load_digest hlf
        clear hi hct hcast hcast2 ih
        go_wp2_with (go_at_call 126; refine (HI.out).mono ?_; rintro e w2 ⟨rfl, hb2⟩; have HB2 := Lib.hid (HF.out.trans (hb2.mono HF.out.size)); clear hb2)
        clear l1 l2
        go_ret
        exact ⟨rfl, HB2.out⟩
theorem rcheck_any (root leaf : List UInt8) (n count : Nat) (ps : List (List UInt8)) (A : Option Addr) (c : Nat) (w : World) (hr : root.length = 32) (hlf : leaf.length = 32) (hnc : n < count) (hc63 : count < 9223372036854775808) (hD : Digs w w.heap.size A ps) (hcap : ps.length ≤ c) :
    Calls Tryz.prog 126 #[.agg (root.map bv).toArray, .agg (leaf.map bv).toArray, .int .i64 (n : Int), .int .i64 (count : Int), .slice A ps.length c] w fun e w' => e = .returned (.bool (checkT root leaf n count ps)) ∧ Below w.heap.size w w' := rcheck_all count root leaf n count ps A c w (Nat.le_refl _) hr hlf hnc hc63 hD hcap
end Go.Proofs.YtbclepdcngaonaaGreatDoor
