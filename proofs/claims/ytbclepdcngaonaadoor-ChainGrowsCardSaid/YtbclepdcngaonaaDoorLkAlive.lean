/-
  What the document tells of chains: wapentakelaw15.alive.
-/
import Derived.Test.YtbclepdcngaonaaDoorLkCheck
namespace Go.Proofs.YtbclepdcngaonaaDoor
open Go.RowKit Go.Maps Go.Sort

def oneM15 : MemX := ⟨1, z32, 0, rfl⟩
set_option maxRecDepth 100000 in
theorem bd_cf151 (A : Option Addr) (n c : Nat) (w : World) : (bdCf15 #[(1, .slice A n c)]).run Tryd.prog w = .ok (.agg (cfgV 0 A n c)) w := run_build w _ _ _ (by kernel_rfl)
set_option maxRecDepth 100000 in
theorem zlk_few : LkFew zlk := ⟨Nat.zero_le _, ⟨Nat.zero_le _, fun q hq => (by cases hq)⟩, Nat.zero_le _⟩
set_option maxRecDepth 100000 in
theorem zlk_see (w : World) : LkSee w zlk := ⟨.inl rfl, .inl rfl, fun m hm => (by cases hm), .inl rfl⟩

attribute [local go_sem ↓] ldCf_def stCf_def bdCf15_def alCf15_def bdMem_def bsT_def bdLk_def ldLk_def
set_option maxRecDepth 100000 in
set_option maxHeartbeats 8000000 in
theorem alive_any15 (w : World) (hR : Roots w) : Calls Tryd.prog 5 #[] w fun e w' => e = .returned (.bool true) ∧ Below w.heap.size w w' := by
  have HR := Lib.hid hR
  have hbm : (bdMem #[(0, .int .i64 1)]).run Tryd.prog w = .ok (.agg (memL 1 z32 0).toArray) w := bd_id 1 w
  have hbs : (bsT 22 1 #[(0, .agg (memL 1 z32 0).toArray)]).run Tryd.prog w = .ok (.slice (some ⟨w.heap.size, 0, none⟩) 1 1) (w.alloc (.cells (memL 1 z32 0).toArray 48)) := MK.build1 oneM15 (.agg (memL 1 z32 0).toArray) rfl (by decide) w
  have hsee : MK.See (w.alloc (.cells (memL 1 z32 0).toArray 48)) (w.alloc (.cells (memL 1 z32 0).toArray 48)).heap.size (some ⟨w.heap.size, 0, none⟩) [oneM15] := MK.see_one w oneM15
  have HBa : Hid (Below w.heap.size w (w.alloc (.cells (memL 1 z32 0).toArray 48))) := Lib.hid ((Below.refl _ _).alloc (Nat.le_refl _) _)
  generalize hlit : (memL 1 z32 0).toArray = LM at *
  clear hlit
  generalize w.alloc (.cells LM 48) = wa at *
  have hbc := bd_cf151 (some ⟨w.heap.size, 0, none⟩) 1 1 wa
  obtain ⟨w3, hst3, hx3, hbl3, _⟩ := laid_cf wa (cfgV 0 none 0 0) rfl 0 (some ⟨w.heap.size, 0, none⟩) 1 1
  have hal := al_cf15
  have HB3 := Lib.hid (HBa.out.trans (hbl3.mono HBa.out.size))
  have HX3 := Lib.hid hx3
  have HM3 : Hid (Mems w3 w3.heap.size (some ⟨w.heap.size, 0, none⟩) [oneM15]) := Lib.hid (EK.See.far hsee hbl3)
  have lc := hx3.l_cf
  have HCK : Hid (Calls Tryd.prog 7 #[.agg (cfgV 0 (some ⟨w.heap.size, 0, none⟩) 1 1), .slice none 0 0] w3 fun e w' => ∃ A' c', e = .returned (.tuple #[.agg (cfgV 0 A' 1 c'), .int .i64 0, .int .i64 0]) ∧ Below w3.heap.size w3 w') := Lib.hid ((check_any15 0 [oneM15] (some ⟨w.heap.size, 0, none⟩) 1 (by decide) [] none 0 (by decide) (fun l hl => by cases hl) w3 HM3.out ⟨.inl rfl, fun l hl => by cases hl⟩ (HR.out.of_below HB3.out)).mono fun e w' ⟨A', c', h1, _, h2⟩ => ⟨A', c', h1, h2⟩)
  have HSE : Hid (stepN 0 [oneM15] 0 zlk.x = 12) := Lib.hid rfl
  have HST : Hid (∀ w', Below w3.heap.size w3 w' → Calls Tryd.prog 9 #[.agg (cfgV 0 (some ⟨w.heap.size, 0, none⟩) 1 1), .int .i64 0, .agg zlkV] w' fun e w'' => e = .returned (.int .i64 (stepN 0 [oneM15] 0 zlk.x)) ∧ Below w'.heap.size w' w'') := Lib.hid (fun w' hb =>
    step_any15 0 [oneM15] (some ⟨w.heap.size, 0, none⟩) 1 (by decide) 0 zlk zlk_few w' (HM3.out.far hb) (zlk_see w') ((HR.out.of_below HB3.out).of_below hb))
  have hzl := bd_lk0
  rw [HSE.out] at HST
  clear hsee hx3 hbl3 HM3 HR HSE HBa
  generalize zlkV = ZL at *
  go_enter Tryd.func5, Tryd.ntmps5
  go_upto_region 2 with fail
  clear hbm hbs hbc hst3
  generalize wa.heap.size = g1 at *
  generalize some (Addr.mk w.heap.size 0 none) = AO at *
  go_upto_region 3 with (go_at_call 7; (with_reducible refine (HCK.out).mono ?_); rintro e w4 ⟨A4, c4, rfl, hb⟩; obtain ⟨w5, hst5, hx5, hbl5, _⟩ := laid_cf w4 (cfgV 0 none 0 0) rfl 0 A4 1 c4; have HX5 := Lib.hid hx5; have HB5 := Lib.hid (hb.trans (hbl5.mono hb.size)); clear hx5 hbl5 hb)
  have e1 : w5.cell? ⟨w4.heap.size, 1, none⟩ = some (.slice A4 1 c4) := HX5.out.cell 1
  have lc5 := (HX3.out.below HB5.out HX3.out.lt).l_cf
  have HSR := Lib.hid (HST.out w5 HB5.out)
  clear hst5 lc HCK HST
  go_wp2_with (go_at_call 9; (with_reducible refine (HSR.out).mono ?_); rintro e w6 ⟨rfl, hb⟩; have HB6 := Lib.hid (HB3.out.trans ((HB5.out.trans (hb.mono HB5.out.size)).mono HB3.out.size)); clear hb)
  go_ret
  exact ⟨rfl, HB6.out⟩
end Go.Proofs.YtbclepdcngaonaaDoor
