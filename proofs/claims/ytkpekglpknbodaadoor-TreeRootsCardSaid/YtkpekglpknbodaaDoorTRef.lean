/-
  The document's own answers, below the rows: wapentakeref01.Digest, wapentakeref02.Text, wapentakeref03.Leaf and Pair.
-/
import Derived.Test.YtkpekglpknbodaaDoorTRoot
import Derived.Test.YtkpekglpknbodaaDoorSRef
import Derived.Lib.ConvBytes
import Derived.Lib.SmallJoins
namespace Go.Proofs.YtkpekglpknbodaaDoor
open Go.RowKit

attribute [local go_sem ↓] ldDigest_def stDigest_def

theorem conv_str (l : List UInt8) (w : World) : ∃ cap w', (convert 9 22 (str l)).run Tryd.prog w = .ok (.slice (some ⟨w.heap.size, 0, none⟩) l.length cap) w' ∧ Sees w' w'.heap.size (some ⟨w.heap.size, 0, none⟩) (l.map bv) ∧ Below w.heap.size w w' := by
  have hr := Lib.run_convert_string_bytes (P := Tryd.prog) w 9 22 5 ⟨l.toArray⟩ Tryd.underlying9 Tryd.underlying22 Tryd.underlying5
  have hsz := Lib.bytesWorld_size w 5 ⟨l.toArray⟩
  refine ⟨_, _, hr, .inr ⟨w.heap.size, 0, rfl, by rw [hsz]; omega, fun j u hu => ?_⟩, ⟨rfl, rfl, rfl, by rw [hsz]; omega, fun b hb => Lib.bytesWorld_at_old w 5 ⟨l.toArray⟩ b hb⟩⟩
  have hj : j < l.length := by
    have := (List.getElem?_eq_some_iff.1 hu).1
    simpa using this
  rw [Nat.zero_add, Lib.bytesWorld_cell w 5 ⟨l.toArray⟩ j (by show j < l.toArray.size; simpa using hj)]
  rw [List.getElem?_map, List.getElem?_eq_getElem hj] at hu
  simp only [Option.map_some, Option.some.injEq] at hu
  rw [← hu]
  simp [bv, hj]

set_option maxRecDepth 100000 in
set_option maxHeartbeats 1000000 in
theorem text_any (l : List UInt8) (hl : l.length ≤ 1099511627776) (w : World) :
    Calls Tryd.prog 25 #[str l] w fun e w' => e = .returned (.agg ((shaOf l).map bv).toArray) ∧ Below w.heap.size w w' := by
  have hF0 : Below w.heap.size w (w.alloc (.cells (zerosD 32).toArray 29)) := (Below.refl _ _).alloc (Nat.le_refl _) _
  have HW0 : Hid (RtW w (w.alloc (.cells (zerosD 32).toArray 29))) := ⟨Box.made w _ _, hF0⟩
  obtain ⟨cap, w2, hcv, hs2, hb2⟩ := conv_str l (w.alloc (.cells (zerosD 32).toArray 29))
  have HRF := Lib.hid (ref_any l _ cap w2 hs2 hl)
  go_enter Tryd.func25, Tryd.ntmps25
  go_upto_region 1 with fail
  change Code.wp _ _ _ _ (w.alloc (.cells (zerosD 32).toArray 29))
  generalize w.alloc (.cells (zerosD 32).toArray 29) = w1 at *
  have hdl : (shaOf l).length = 32 := rfl
  generalize hd : shaOf l = d at *
  have HDE := Lib.hid hd
  have HB2 := Lib.hid hb2
  clear hd hs2 hb2 hF0
  go_wp2_with (go_at_call 32; refine (HRF.out).mono ?_; rintro e w3 ⟨rfl, hb3⟩; have HW3 := Lib.hid (HW0.out.call (HB2.out.trans (hb3.mono HB2.out.size))); clear hb3; have hst := HW3.out.out.store_digest rfl d hdl)
  exact ret_dig rfl rfl rfl (HW3.out.out.cells_dig rfl hdl) hdl ⟨by rw [HDE.out], below_cells HW3.out.far (Nat.le_refl _) HW3.out.far.size _ _⟩

theorem digstr_any (d : List UInt8) (hd : d.length = 32) (w : World) :
    Calls Tryd.prog 28 #[.agg (d.map bv).toArray] w fun e w' => e = .returned (str d) ∧ Below w.heap.size w w' := by
  have hF : Below w.heap.size w (w.alloc (.cells (d.map bv).toArray 29)) := (Below.refl _ _).alloc (Nat.le_refl _) _
  have hB : Box (w.alloc (.cells (d.map bv).toArray 29)) w.heap.size 29 (d.map bv).toArray := Box.made w _ _
  have hcv : (convert 22 9 (.slice (some ⟨w.heap.size, 0, none⟩) d.length 32)).run Tryd.prog (w.alloc (.cells (d.map bv).toArray 29)) = .ok (str d) (w.alloc (.cells (d.map bv).toArray 29)) :=
    convert_sees (P := Tryd.prog) 22 5 9 Tryd.underlying22 Tryd.underlying5 Tryd.underlying9 (by simpa using Sees.of_box hB hB.lt) 32
  rw [hd] at hcv
  have HF := Lib.hid hF
  clear hF hB
  go_enter Tryd.func28, Tryd.ntmps28
  go_wp2
  go_ret
  exact ⟨rfl, HF.out⟩

theorem bytes_cat (a b : List UInt8) : (⟨a.toArray⟩ : ByteArray) ++ ⟨b.toArray⟩ = ⟨(a ++ b).toArray⟩ := by
  apply ByteArray.ext
  simp

set_option maxRecDepth 100000 in
set_option maxHeartbeats 1000000 in
theorem rleaf_any (l : List UInt8) (hl : l.length ≤ 1099511627000) (w : World) :
    Calls Tryd.prog 13 #[str l] w fun e w' => e = .returned (.agg ((shaOf (0 :: l)).map bv).toArray) ∧ Below w.heap.size w w' := by
  have hF0 : Below w.heap.size w (w.alloc (.cells (zerosD 32).toArray 29)) := (Below.refl _ _).alloc (Nat.le_refl _) _
  have HW0 : Hid (RtW w (w.alloc (.cells (zerosD 32).toArray 29))) := ⟨Box.made w _ _, hF0⟩
  have ht := text_any (0 :: l) (by rw [List.length_cons]; omega) (w.alloc (.cells (zerosD 32).toArray 29))
  obtain ⟨X, hX⟩ : ∃ X : ByteArray, X = ⟨(0 :: l).toArray⟩ := ⟨_, rfl⟩
  have hcat : ({ data := #[0] } : ByteArray) ++ { data := l.toArray } = X := (bytes_cat [0] l).trans hX.symm
  change Calls _ _ #[Value.string ⟨(0 :: l).toArray⟩] _ _ at ht
  rw [← hX] at ht
  have HT := Lib.hid ht
  clear ht hX
  go_enter Tryd.func13, Tryd.ntmps13
  go_upto_region 1 with fail
  change Code.wp _ _ _ _ (w.alloc (.cells (zerosD 32).toArray 29))
  generalize w.alloc (.cells (zerosD 32).toArray 29) = w1 at *
  have hdl : (shaOf (0 :: l)).length = 32 := rfl
  generalize hd : shaOf (0 :: l) = d at *
  have HDE := Lib.hid hd
  clear hd hF0
  go_wp2_with (go_at_call 25; refine (HT.out).mono ?_; rintro e w3 ⟨rfl, hb3⟩; have HW3 := Lib.hid (HW0.out.call hb3); clear hb3; have hst := HW3.out.out.store_digest rfl d hdl)
  exact ret_dig rfl rfl rfl (HW3.out.out.cells_dig rfl hdl) hdl ⟨by rw [HDE.out], below_cells HW3.out.far (Nat.le_refl _) HW3.out.far.size _ _⟩

/-- What the walk of wapentakeref03.Pair carries of memory. -/
structure PrW (w0 : World) (a b : List UInt8) (w : World) : Prop where
  a : Box w w0.heap.size 29 (a.map bv).toArray
  b : Box w (w0.heap.size + 1) 29 (b.map bv).toArray
  out : Box w (w0.heap.size + 1 + 1) 29 (zerosD 32).toArray
  far : Below w0.heap.size w0 w
theorem PrW.call {w0 w w' : World} {a b : List UInt8} (h : PrW w0 a b w) (hb : Below w.heap.size w w') : PrW w0 a b w' := ⟨h.a.below hb h.a.lt, h.b.below hb h.b.lt, h.out.below hb h.out.lt, h.far.trans (hb.mono h.far.size)⟩
theorem PrW.drew {w0 w : World} {a b : List UInt8} (h : PrW w0 a b w) : PrW w0 a b w.drew := ⟨h.a, h.b, h.out, h.far.drew⟩

set_option maxRecDepth 100000 in
set_option maxHeartbeats 1000000 in
theorem rpair_any (a b : List UInt8) (ha : a.length = 32) (hb : b.length = 32) (w : World) :
    Calls Tryd.prog 19 #[.agg (a.map bv).toArray, .agg (b.map bv).toArray] w fun e w' => e = .returned (.agg ((pT a b).map bv).toArray) ∧ Below w.heap.size w w' := by
  have hF0 : Below w.heap.size w (((w.alloc (.cells (a.map bv).toArray 29)).alloc (.cells (b.map bv).toArray 29)).alloc (.cells (zerosD 32).toArray 29)) := (((Below.refl _ _).alloc (Nat.le_refl _) _).alloc (by simp) _).alloc (by simp; omega) _
  have HP0 : Hid (PrW w a b (((w.alloc (.cells (a.map bv).toArray 29)).alloc (.cells (b.map bv).toArray 29)).alloc (.cells (zerosD 32).toArray 29))) := ⟨((Box.made w _ _).alloc _).alloc _, (Box.made_at (by simp) _ _).alloc _, Box.made_at (by simp) _ _, hF0⟩
  have ht := text_any (1 :: (a ++ b)) (by rw [List.length_cons, List.length_append, ha, hb]; omega)
  obtain ⟨X1, hX1⟩ : ∃ X : ByteArray, X = ⟨(1 :: a).toArray⟩ := ⟨_, rfl⟩
  have hcat1 : ({ data := #[1] } : ByteArray) ++ { data := a.toArray } = X1 := (bytes_cat [1] a).trans hX1.symm
  obtain ⟨X2, hX2⟩ : ∃ X : ByteArray, X = ⟨(1 :: (a ++ b)).toArray⟩ := ⟨_, rfl⟩
  have hcat2 : X1 ++ { data := b.toArray } = X2 := by
    rw [hX1, hX2]
    exact bytes_cat (1 :: a) b
  change ∀ w, Calls _ _ #[Value.string ⟨(1 :: (a ++ b)).toArray⟩] w (fun e w' => e = .returned (.agg ((pT a b).map bv).toArray) ∧ Below w.heap.size w w') at ht
  rw [← hX2] at ht
  have HT := Lib.hid ht
  have hs1 : X1.size = 33 := by
    rw [hX1]
    show (1 :: a).toArray.size = 33
    simp [ha]
  clear ht hX1 hX2 hF0
  go_enter Tryd.func19, Tryd.ntmps19
  go_upto_region 1 with fail
  change Code.wp _ _ _ _ (((w.alloc (.cells (a.map bv).toArray 29)).alloc (.cells (b.map bv).toArray 29)).alloc (.cells (zerosD 32).toArray 29))
  generalize (((w.alloc (.cells (a.map bv).toArray 29)).alloc (.cells (b.map bv).toArray 29)).alloc (.cells (zerosD 32).toArray 29)) = w1 at *
  have hdl : (pT a b).length = 32 := rfl
  generalize hd : pT a b = d at *
  have HDE := Lib.hid hd
  have HA := Lib.hid ha
  have HB := Lib.hid hb
  have HP1 := Lib.hid HP0.out.drew
  have l1 := HP1.out.a.load_digest ha
  have l2 := HP1.out.b.load_digest hb
  clear hd HP0
  go_region_with (first
    | (go_at_call 28; refine (digstr_any _ (by first | exact HA.out | exact HB.out) _).mono ?_; rintro e w4 ⟨rfl, hb4⟩; have HP3 := Lib.hid (HP2.out.call hb4); clear hb4)
    | (go_at_call 28; refine (digstr_any _ (by first | exact HA.out | exact HB.out) _).mono ?_; rintro e w3 ⟨rfl, hb3⟩; have HP2 := Lib.hid (HP1.out.call hb3); clear hb3; have l3 := HP2.out.a.load_digest HA.out; have l4 := HP2.out.b.load_digest HB.out)
    | (go_at_call 25; refine (HT.out _).mono ?_; rintro e w5 ⟨rfl, hb5⟩; have HP5 := Lib.hid (HP3.out.call hb5); clear hb5; have hst := HP5.out.out.store_digest rfl d hdl))
  all_goals
    clear l1 l2
    go_wp2
    exact ret_dig rfl rfl rfl (HP5.out.out.cells_dig rfl hdl) hdl ⟨by rw [HDE.out], below_cells HP5.out.far (by omega) HP5.out.far.size _ _⟩
end Go.Proofs.YtkpekglpknbodaaDoor
