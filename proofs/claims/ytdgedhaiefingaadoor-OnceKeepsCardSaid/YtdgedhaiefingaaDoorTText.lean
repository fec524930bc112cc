/-
  The document's own answers for texts: wapentakeref01.Digest, wapentakeref02.Text.
-/
import Derived.Test.YtdgedhaiefingaaDoorTGen
import Derived.Test.YtdgedhaiefingaaDoorSRef
import Derived.Lib.ConvBytes
import Derived.Lib.SmallJoins
namespace Go.Proofs.YtdgedhaiefingaaDoor
open Go.RowKit

attribute [local go_sem ↓] ldDigest_def stDigest_def

theorem conv_str (l : List UInt8) (w : World) : ∃ cap w', (convert 9 37 (str l)).run Tryd.prog w = .ok (.slice (some ⟨w.heap.size, 0, none⟩) l.length cap) w' ∧ Sees w' w'.heap.size (some ⟨w.heap.size, 0, none⟩) (l.map bv) ∧ Below w.heap.size w w' := by
  have hr := Lib.run_convert_string_bytes (P := Tryd.prog) w 9 37 5 ⟨l.toArray⟩ Tryd.underlying9 Tryd.underlying37 Tryd.underlying5
  have hsz := Lib.bytesWorld_size w 5 ⟨l.toArray⟩
  refine ⟨_, _, hr, .inr ⟨w.heap.size, 0, rfl, by rw [hsz]; omega, fun j u hu => ?_⟩, ⟨rfl, rfl, rfl, by rw [hsz]; omega, fun b hb => Lib.bytesWorld_at_old w 5 ⟨l.toArray⟩ b hb⟩⟩
  have hj : j < l.length := by
    have := (List.getElem?_eq_some_iff.1 hu).1
    simpa using this
  rw [Nat.zero_add, Lib.bytesWorld_cell w 5 ⟨l.toArray⟩ j (by show j < l.toArray.size; simpa using hj)]
  rw [List.getElem?_map, List.getElem?_eq_getElem hj] at hu
  simp only [Option.map_some, Option.some.injEq] at hu
  rw [← hu]
  simp [bv, hj]
set_option maxRecDepth 100000 in
set_option maxHeartbeats 1000000 in
theorem text_any (l : List UInt8) (hl : l.length ≤ 1099511627776) (w : World) :
    Calls Tryd.prog 23 #[str l] w fun e w' => e = .returned (.agg ((shaOf l).map bv).toArray) ∧ Below w.heap.size w w' := by
  have hF0 : Below w.heap.size w (w.alloc (.cells (zerosD 32).toArray 23)) := (Below.refl _ _).alloc (Nat.le_refl _) _
  have HW0 : Hid (RtW w (w.alloc (.cells (zerosD 32).toArray 23))) := ⟨Box.made w _ _, hF0⟩
  obtain ⟨cap, w2, hcv, hs2, hb2⟩ := conv_str l (w.alloc (.cells (zerosD 32).toArray 23))
  have HRF := Lib.hid (ref_any l _ cap w2 hs2 hl)
  go_enter Tryd.func23, Tryd.ntmps23
  go_upto_region 1 with fail
  change Code.wp _ _ _ _ (w.alloc (.cells (zerosD 32).toArray 23))
  generalize w.alloc (.cells (zerosD 32).toArray 23) = w1 at *
  have hdl : (shaOf l).length = 32 := rfl
  generalize hd : shaOf l = d at *
  have HDE := Lib.hid hd
  have HB2 := Lib.hid hb2
  clear hd hs2 hb2 hF0
  go_wp2_with (go_at_call 31; refine (HRF.out).mono ?_; rintro e w3 ⟨rfl, hb3⟩; have HW3 := Lib.hid (HW0.out.call (HB2.out.trans (hb3.mono HB2.out.size))); clear hb3; have hst := HW3.out.out.store_digest rfl d hdl)
  exact ret_dig rfl rfl rfl (HW3.out.out.cells_dig rfl hdl) hdl ⟨by rw [HDE.out], below_cells HW3.out.far (Nat.le_refl _) HW3.out.far.size _ _⟩
theorem digstr_any (d : List UInt8) (hd : d.length = 32) (w : World) :
    Calls Tryd.prog 20 #[.agg (d.map bv).toArray] w fun e w' => e = .returned (str d) ∧ Below w.heap.size w w' := by
  have hF : Below w.heap.size w (w.alloc (.cells (d.map bv).toArray 23)) := (Below.refl _ _).alloc (Nat.le_refl _) _
  have hB : Box (w.alloc (.cells (d.map bv).toArray 23)) w.heap.size 23 (d.map bv).toArray := Box.made w _ _
  have hcv : (convert 37 9 (.slice (some ⟨w.heap.size, 0, none⟩) d.length 32)).run Tryd.prog (w.alloc (.cells (d.map bv).toArray 23)) = .ok (str d) (w.alloc (.cells (d.map bv).toArray 23)) :=
    convert_sees (P := Tryd.prog) 37 5 9 Tryd.underlying37 Tryd.underlying5 Tryd.underlying9 (by simpa using Sees.of_box hB hB.lt) 32
  rw [hd] at hcv
  have HF := Lib.hid hF
  clear hF hB
  go_enter Tryd.func20, Tryd.ntmps20
  go_wp2
  go_ret
  exact ⟨rfl, HF.out⟩
theorem bytes_cat (a b : List UInt8) : (⟨a.toArray⟩ : ByteArray) ++ ⟨b.toArray⟩ = ⟨(a ++ b).toArray⟩ := by
  apply ByteArray.ext
  simp
end Go.Proofs.YtdgedhaiefingaaDoor
