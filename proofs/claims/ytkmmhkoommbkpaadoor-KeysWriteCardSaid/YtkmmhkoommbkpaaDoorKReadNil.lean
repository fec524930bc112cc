/-
  A nil reader: keys.digests, keys.Read.
-/
import Derived.Test.YtkmmhkoommbkpaaDoorKRead
namespace Go.Proofs.YtkmmhkoommbkpaaDoor
open Go.RowKit

attribute [local go_sem ↓] ldDigest_def stDigest_def

/-- A list that is filled, whatever with. -/
structure NlW (w0 : World) (m : Nat) (w : World) : Prop where
  fill : ∃ cs, Box w w0.heap.size 23 cs ∧ cs.size = m * 32
  far : Below w0.heap.size w0 w
theorem NlW.call {w0 w w' : World} {m : Nat} (h : NlW w0 m w) (hb : Below w.heap.size w w') : NlW w0 m w' := by
  obtain ⟨cs, hc, hs⟩ := h.fill
  exact ⟨⟨cs, hc.below hb hc.lt, hs⟩, h.far.trans (hb.mono h.far.size)⟩
theorem NlW.put {w0 w : World} {m k : Nat} (h : NlW w0 m w) (hk : k < m) (vs : List Value) (hv : vs.length = 32) : NlW w0 m (w.setCells w0.heap.size (k * 32) vs) := by
  obtain ⟨cs, hc, hs⟩ := h.fill
  obtain ⟨cs', hb', hs', _⟩ := Box.cells_at vs (k * 32) w cs hc (by omega)
  exact ⟨⟨cs', hb', by omega⟩, below_cells h.far (Nat.le_refl _) h.far.size _ _⟩

set_option maxRecDepth 100000 in
set_option maxHeartbeats 1000000 in
theorem kdigs_nil (m : Nat) (hm : m ≤ 64) (w : World) :
    Calls Tryd.prog 53 #[.pointer none, .int .i64 (m : Int)] w fun e w' => e = .returned (.slice (some ⟨w.heap.size, 0, none⟩) m m) ∧ Below w.heap.size w w' := by
  have HW0 : Hid (NlW w m (w.alloc (.cells (zerosD (m * 32)).toArray 23))) := ⟨⟨_, Box.made _ _ _, by simp [zerosD]⟩, (Below.refl _ _).alloc (Nat.le_refl _) _⟩
  have HDG : Hid (∀ w', Calls Tryd.prog 77 #[.pointer none] w' fun e w'' => e = .returned (.agg (noneD.map bv).toArray) ∧ Below w'.heap.size w' w'') := fun w' => digest_nil w'
  have hmk := make_digs m (by omega)
  go_enter Tryd.func53, Tryd.ntmps53
  go_upto_region 3 with fail
  clear hmk
  generalize w.alloc (.cells (zerosD (m * 32)).toArray 23) = w1 at *
  have hz : noneD.length = 32 := rfl
  generalize noneD = d at *
  go_loopw [6, 10] (fun _ i wr => ∃ k : Nat, k ≤ m ∧ i = .int .i64 (k : Int) ∧ Hid (NlW w m wr)) (fun _ i _ => m - (intOf i).toNat)
  case atStart => exact ⟨0, Nat.zero_le _, rfl, HW0⟩
  case round =>
    clear HW0
    obtain ⟨k, hk, rfl, HW⟩ := hrel
    by_cases hlt : k < m
    · have i3 : (k : Int) < (m : Int) := by omega
      have HZL := Lib.hid hz
      have HLT := Lib.hid hlt
      clear hz
      go_wp2_with (go_at_call 77; (with_reducible refine (HDG.out _).mono ?_); rintro e w6 ⟨rfl, hb⟩; have HW6 := Lib.hid (HW.out.call hb); clear hb; have hst : (stDigest (.pointer (some ⟨w.heap.size, k * 32, none⟩)) (.agg (d.map bv).toArray)).run Tryd.prog w6 = .ok () (w6.setCells w.heap.size (k * 32) (d.map bv)) := (by obtain ⟨cs, hc, hs⟩ := HW6.out.fill; exact hc.store_mid (o := k * 32) (by omega) d HZL.out))
      have HW7 := Lib.hid (HW6.out.put HLT.out (d.map bv) (by rw [List.length_map]; exact HZL.out))
      clear hst
      generalize w6.setCells w.heap.size (k * 32) (d.map bv) = w7 at *
      go_roundw
      case rel => exact ⟨k + 1, hlt, by go_num, HW7⟩
      case measure => simp [intOf]; omega
    · go_wp2
      go_ret
      exact ⟨rfl, HW.out.far⟩

/-- What the walk of Read carries of memory, for a nil reader. -/
structure RnW (w0 : World) (cs : Array Value) (w : World) : Prop where
  out : Box w w0.heap.size 30 zsig
  box : Box w (w0.heap.size + 1) 30 cs
  far : Below w0.heap.size w0 w
theorem RnW.call {w0 w w' : World} {cs : Array Value} (h : RnW w0 cs w) (hb : Below w.heap.size w w') : RnW w0 cs w' := ⟨h.out.below hb h.out.lt, h.box.below hb h.box.lt, h.far.trans (hb.mono h.far.size)⟩
theorem RnW.put {w0 w : World} {cs : Array Value} (h : RnW w0 cs w) (i : Nat) (v : Value) : RnW w0 (cs.setIfInBounds i v) (w.setCell ⟨w0.heap.size + 1, i, none⟩ v) := by
  have hp : w.grownBy (w.setCell ⟨w0.heap.size + 1, i, none⟩ v) (some (w0.heap.size + 1)) := only_put (only_refl _ _) i v
  exact ⟨h.out.grown hp (fun e => by injection e with e; omega), h.box.put i v, h.far.trans (below_only hp (by omega) h.far.size)⟩

set_option maxRecDepth 100000 in
set_option maxHeartbeats 2000000 in
theorem kread_nil (w : World) :
    Calls Tryd.prog 22 #[.pointer none] w fun e w' => e = .returned (.agg zsig) ∧ Below w.heap.size w w' := by
  have HW0 : Hid (RnW w zsig ((w.alloc (.cells zsig 30)).alloc (.cells zsig 30))) :=
    ⟨(Box.made _ _ _).alloc _, Box.made_at (by simp) _ _, ((Below.refl _ _).alloc (Nat.le_refl _) _).alloc (by simp) _⟩
  have HNM : Hid (∀ w', Calls Tryd.prog 51 #[.pointer none] w' fun e w'' => e = .returned (.int .i64 0) ∧ w' = w'') := fun w' => num_nil w'
  have HIN : Hid (∀ w', Calls Tryd.prog 52 #[.pointer none, .int .i64 0, .int .i64 6] w' fun e w'' => e = .returned (.int .i64 0) ∧ w' = w'') := fun w' => in_nil 0 6 w'
  have HD32 : Hid (∀ w', Calls Tryd.prog 53 #[.pointer none, .int .i64 32] w' fun e w'' => e = .returned (.slice (some ⟨w'.heap.size, 0, none⟩) 32 32) ∧ Below w'.heap.size w' w'') := fun w' => kdigs_nil 32 (by decide) w'
  have HD0 : Hid (∀ w', Calls Tryd.prog 53 #[.pointer none, .int .i64 0] w' fun e w'' => e = .returned (.slice (some ⟨w'.heap.size, 0, none⟩) 0 0) ∧ Below w'.heap.size w' w'') := fun w' => kdigs_nil 0 (by decide) w'
  have HGD : Hid (∀ w', Calls Tryd.prog 24 #[.pointer none] w' fun e w'' => e = .returned (.bool false) ∧ w' = w'') := fun w' => good_nil w'
  go_enter Tryd.func22, Tryd.ntmps22
  go_upto_region 2 with fail
  change Code.wp _ _ _ _ ((w.alloc (.cells zsig 30)).alloc (.cells zsig 30))
  generalize (w.alloc (.cells zsig 30)).alloc (.cells zsig 30) = w1 at *
  have m0 : w1.cell? ⟨w.heap.size + 1, 0, none⟩ = some (.int .i64 0) := HW0.out.box.cell 0
  have f0 := HW0.out.box.free 0
  have HW1 : Hid (RnW w zsig (w1.setCell ⟨w.heap.size + 1, 0, none⟩ (.int .i64 0))) := HW0.out.put 0 _
  go_upto_region 3 with (go_at_call 51; (with_reducible refine (HNM.out _).mono ?_); rintro e w2 ⟨rfl, rfl⟩)
  clear m0 f0 HW0
  generalize w1.setCell ⟨w.heap.size + 1, 0, none⟩ (.int .i64 0) = w2 at *
  go_upto_region 5 with (first
    | (go_at_call 52; (with_reducible refine (HIN.out _).mono ?_); rintro e w3 ⟨rfl, rfl⟩)
    | (go_at_call 53; (with_reducible refine (HD32.out _).mono ?_); rintro e w4 ⟨rfl, hb⟩; have hw := HW1.out.call hb; have m1 : w4.cell? ⟨w.heap.size + 1, 1, none⟩ = some (.slice none 0 0) := hw.box.cell 1; have f1 := hw.box.free 1; have HW4 := Lib.hid hw; clear hw hb))
  have HW5 := Lib.hid (HW4.out.put 1 (.slice (some ⟨w2.heap.size, 0, none⟩) 32 32))
  clear m1 f1 HW4 HW1
  generalize w4.setCell ⟨w.heap.size + 1, 1, none⟩ (.slice (some ⟨w2.heap.size, 0, none⟩) 32 32) = w5 at *
  go_upto_region 6 with (go_at_call 53; (with_reducible refine (HD32.out _).mono ?_); rintro e w6 ⟨rfl, hb⟩; have hw := HW5.out.call hb; have m1 : w6.cell? ⟨w.heap.size + 1, 2, none⟩ = some (.slice none 0 0) := hw.box.cell 2; have f1 := hw.box.free 2; have HW6 := Lib.hid hw; clear hw hb)
  have HW7 := Lib.hid (HW6.out.put 2 (.slice (some ⟨w5.heap.size, 0, none⟩) 32 32))
  clear m1 f1 HW5 HW6
  generalize w6.setCell ⟨w.heap.size + 1, 2, none⟩ (.slice (some ⟨w5.heap.size, 0, none⟩) 32 32) = w7 at *
  go_upto_region 7 with (go_at_call 53; (with_reducible refine (HD0.out _).mono ?_); rintro e w8 ⟨rfl, hb⟩; have hw := HW7.out.call hb; have m1 : w8.cell? ⟨w.heap.size + 1, 3, none⟩ = some (.slice none 0 0) := hw.box.cell 3; have f1 := hw.box.free 3; have HW8 := Lib.hid hw; clear hw hb)
  have HW9 := Lib.hid (HW8.out.put 3 (.slice (some ⟨w7.heap.size, 0, none⟩) 0 0))
  clear m1 f1 HW7 HW8
  generalize w8.setCell ⟨w.heap.size + 1, 3, none⟩ (.slice (some ⟨w7.heap.size, 0, none⟩) 0 0) = w9 at *
  go_wp2_with (first
    | (go_at_call 24; (with_reducible refine (HGD.out _).mono ?_); rintro e w11 ⟨rfl, rfl⟩)
    | (((with_reducible show wpList _ _ _ ((⟨none, Op.store _ (.tmp 2) (.tmp 25), _, _, _, _⟩ : Oper) :: _) _ _)); refine wpList_store_box rfl 30 (.tmp 2) (.tmp 25) rfl w.heap.size zsig rfl rfl 30 zsig HW9.out.out rfl (sig_size 0 none 0 0 none 0 0 none 0 0) (sig_one 0 none 0 0 none 0 0 none 0 0) ?_; intro w12 hb12 hg12))
  exact bodyPost_ret (v := .agg zsig) (results_cell_row rfl _ w12 w.heap.size 30 zsig (0, 0) _ rfl hb12 Tryd.underlying30 rfl (sig_size 0 none 0 0 none 0 0 none 0 0)) rfl ⟨rfl, HW9.out.far.trans (below_only hg12 (Nat.le_refl _) HW9.out.far.size)⟩
end Go.Proofs.YtkmmhkoommbkpaaDoor
