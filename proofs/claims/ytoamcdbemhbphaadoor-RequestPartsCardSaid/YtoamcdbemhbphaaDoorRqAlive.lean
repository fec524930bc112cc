/-
  What the laws ask first: wapentakelaw09.put, wapentakelaw09.alive.
-/
import Derived.Test.YtoamcdbemhbphaaDoorRqWrite
import Derived.Test.YtoamcdbemhbphaaDoorRqText
import Derived.Test.YtoamcdbemhbphaaDoorRqRdRep
namespace Go.Proofs.YtoamcdbemhbphaaDoor
open Go.RowKit

def putX : ReqX := ⟨1, 1, 2, ⟨#[107]⟩, ⟨#[118]⟩, ⟨#[]⟩, 0, 0, 0, zeros, 0, zeros_len⟩
set_option maxRecDepth 100000 in
theorem putX_good : reqGood putX = true := by decide
set_option maxRecDepth 100000 in
theorem putX_len : (reqB putX).length = 102 := by
  unfold reqB
  simp only [List.length_append, numBytes_len, textBytes_len]
  rfl
noncomputable def bdOp (parts : Array (Nat × Value)) : Sem Value := Instr.build 29 parts
set_option maxRecDepth 100000 in
theorem bdOp_def (parts : Array (Nat × Value)) : Instr.build 29 parts = bdOp parts := rfl
set_option maxRecDepth 100000 in
theorem bd_op (w : World) : (bdOp #[(0, .int .i64 2), (1, .string ⟨#[107]⟩), (2, .string ⟨#[118]⟩)]).run Tryd.prog w = .ok (.agg (opL putX).toArray) w := run_build w _ _ _ (by kernel_rfl)
set_option maxRecDepth 100000 in
theorem bd_put (w : World) : (bdReq #[(0, .int .i64 1), (1, .int .i64 1), (2, .agg (opL putX).toArray)]).run Tryd.prog w = .ok (.agg putX.cells.toArray) w := run_build w _ _ _ (by kernel_rfl)
set_option maxRecDepth 100000 in
theorem bd_rep1 (w : World) : (bdRep #[(1, .int .i64 1)]).run Tryd.prog w = .ok (.agg (repV 0 1 0 none 0 0)) w := run_build w _ _ _ (by kernel_rfl)

attribute [local go_sem ↓] ldReq_def stReq_def bdReq_def bdOp_def bdRep_def

set_option maxRecDepth 100000 in
theorem put_any9 (w : World) : Calls Tryd.prog 9 #[] w fun e w' => e = .returned (.agg putX.cells.toArray) ∧ Below w.heap.size w w' := by
  have h1 := bd_op (w.alloc (.cells zreqV 31))
  have h2 := bd_put (w.alloc (.cells zreqV 31))
  obtain ⟨w', hst, hb, hg⟩ := (Box.made w 31 zreqV).st_req rfl putX
  have HB := Lib.hid hb
  have HF : Hid (Below w.heap.size w w') := Lib.hid (((Below.refl _ _).alloc (Nat.le_refl _) _).trans (below_only hg (Nat.le_refl _) (by simp)))
  clear hb hg
  go_enter Tryd.func9, Tryd.ntmps9
  go_wp2
  exact ret_req rfl rfl rfl HB.out ⟨rfl, HF.out⟩

set_option maxRecDepth 100000 in
set_option maxHeartbeats 2000000 in
theorem alive_any9 (w : World) : Calls Tryd.prog 4 #[] w fun e w' => e = .returned (.bool true) ∧ Below w.heap.size w w' := by
  have HW1 : Hid (Wr (w.alloc (.cells #[.slice none 0 0] 37)) w.heap.size w.heap.size []) := wr_new (Box.made _ _ _) (Nat.le_refl _)
  have HF1 : Hid (Below w.heap.size w (w.alloc (.cells #[.slice none 0 0] 37))) := (Below.refl _ _).alloc (Nat.le_refl _) _
  have HP : Hid (∀ w, Calls Tryd.prog 9 #[] w fun e w' => e = .returned (.agg putX.cells.toArray) ∧ Below w.heap.size w w') := Lib.hid put_any9
  have HWR : Hid (∀ w', Wr w' w.heap.size w.heap.size [] → Calls Tryd.prog 6 #[.pointer (some ⟨w.heap.size, 0, none⟩), .agg putX.cells.toArray] w' fun e w'' => e = .returned (.tuple #[]) ∧ Wr w'' w.heap.size w.heap.size (reqB putX) ∧ WF w.heap.size w' w'') :=
    Lib.hid (fun w' hw => write_any9 w.heap.size w.heap.size [] putX w' hw (by simp) (by decide) (by decide) (by decide))
  have HGD : Hid (∀ w', Calls Tryd.prog 10 #[.agg putX.cells.toArray] w' fun e w'' => e = .returned (.bool true) ∧ Below w'.heap.size w' w'') := Lib.hid (fun w' => by have h := good_any9 putX w'; rw [putX_good] at h; exact h)
  have HBY : Hid (∀ w', Wr w' w.heap.size w.heap.size (reqB putX) → Calls Tryd.prog 7 #[.pointer (some ⟨w.heap.size, 0, none⟩)] w' (fun e w'' => ∃ A c, e = .returned (.slice A 102 c) ∧ Below w'.heap.size w' w'')) := Lib.hid (fun w' hw => (bytes_any w.heap.size w.heap.size (reqB putX) w' hw (by rw [putX_len]; decide)).mono fun e w'' ⟨A, c, he, _, _, _, hb⟩ => ⟨A, c, by rw [he, putX_len], hb⟩)
  have HSM : Hid (∀ w', Calls Tryd.prog 11 #[.agg (repV 0 1 0 none 0 0), .agg (repV 0 1 0 none 0 0)] w' fun e w'' => e = .returned (.bool true) ∧ Below w'.heap.size w' w'') := Lib.hid (fun w' => same_any9 0 1 0 none [] 0 0 1 0 none [] 0 (by simp [maxLen]) (by simp [maxLen]) w' (.inl rfl) (.inl rfl))
  have hr1 := bd_rep1
  generalize putX.cells.toArray = pc at *
  generalize reqB putX = pb at *
  go_enter Tryd.func4, Tryd.ntmps4
  go_upto_region 2 with fail
  change Code.wp _ _ _ _ (w.alloc (.cells #[.slice none 0 0] 37))
  generalize w.alloc (.cells #[.slice none 0 0] 37) = w1 at *
  go_upto_region 3 with (first
    | (go_at_call 9; (with_reducible refine (HP.out _).mono ?_); rintro e w2 ⟨rfl, hb⟩; have HW2 := Lib.hid (HW1.out.below_size hb); have HF2 := Lib.hid (HF1.out.trans (hb.mono HF1.out.size)); clear hb)
    | (go_at_call 6; (with_reducible refine (HWR.out _ HW2.out).mono ?_); rintro e w3 ⟨rfl, hw, hf⟩; have HW3 := Lib.hid hw; have HF3 := Lib.hid (HF2.out.trans (hf.below HW2.out)); clear hw hf))
  clear HW1 HF1 HW2 HF2 HWR
  go_wp2_with (first
    | (go_at_call 9; (with_reducible refine (HP.out _).mono ?_); rintro e w4 ⟨rfl, hb⟩; have HW4 := Lib.hid (HW3.out.below_size hb); have HF4 := Lib.hid (HF3.out.trans (hb.mono HF3.out.size)); clear hb)
    | (go_at_call 10; (with_reducible refine (HGD.out _).mono ?_); rintro e w5 ⟨rfl, hb⟩; have HW5 := Lib.hid (HW4.out.below_size hb); have HF5 := Lib.hid (HF4.out.trans (hb.mono HF4.out.size)); clear hb)
    | (go_at_call 7; (with_reducible refine (HBY.out _ HW5.out).mono ?_); rintro e w6 ⟨A6, c6, rfl, hb⟩; have HF6 := Lib.hid (HF5.out.trans (hb.mono HF5.out.size)); clear hb)
    | (go_at_call 11; (with_reducible refine (HSM.out _).mono ?_); rintro e w7 ⟨rfl, hb⟩; have HF7 := Lib.hid (HF6.out.trans (hb.mono HF6.out.size)); clear hb))
  go_ret
  exact ⟨rfl, HF7.out⟩

end Go.Proofs.YtoamcdbemhbphaaDoor
