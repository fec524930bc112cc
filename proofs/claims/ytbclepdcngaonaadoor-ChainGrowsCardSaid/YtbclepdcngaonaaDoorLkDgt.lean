/-
  A configuration's digest: config.Digest.
-/
import Derived.Test.YtbclepdcngaonaaDoorHA
import Derived.Test.YtbclepdcngaonaaDoorSD
import Derived.Test.YtbclepdcngaonaaDoorTG
import Derived.Test.YtbclepdcngaonaaDoorNB
import Derived.Lib.SlBytesConst
namespace Go.Proofs.YtbclepdcngaonaaDoor
open Go.RowKit

attribute [local go_sem ↓] ldCf_def ldDigest_def stDigest_def

/-- "config". -/
def cfMark : List UInt8 := [99, 111, 110, 102, 105, 103]
def cfgD (ep : Int) (ms : List MemX) : List UInt8 := shaOf (cfMark ++ cfgB ep ms)
set_option maxRecDepth 100000 in
theorem cfgD_len (ep : Int) (ms : List MemX) : (cfgD ep ms).length = 32 := rfl
set_option maxRecDepth 100000 in
theorem cfgB_len15 (ep : Int) (ms : List MemX) : (cfgB ep ms).length = 16 + ms.length * 48 := by
  unfold cfgB
  rw [List.length_append, nums_len, mems_len]
  simp only [List.length_cons, List.length_nil]
  omega

set_option maxRecDepth 100000 in
set_option maxHeartbeats 2000000 in
theorem cfgdgt_any (ep : Int) (ms : List MemX) (A : Option Addr) (c : Nat) (hn : ms.length ≤ 1000000) (w : World) (hS : Mems w w.heap.size A ms) (hR : Roots w) :
    Calls Tryd.prog 14 #[.agg (cfgV ep A ms.length c)] w fun e w' => e = .returned (.agg ((cfgD ep ms).map bv).toArray) ∧ Below w.heap.size w w' := by
  have HS : Hid (Box ((w.alloc (.cells (cfgV ep A ms.length c) 24)).alloc (.cells zs32 32)) w.heap.size 24 (cfgV ep A ms.length c)) := (Box.made w _ _).alloc _
  have HO : Hid (Box ((w.alloc (.cells (cfgV ep A ms.length c) 24)).alloc (.cells zs32 32)) (w.heap.size + 1) 32 zs32) := Box.made_at (by simp) _ _
  have HF : Hid (Below w.heap.size w ((w.alloc (.cells (cfgV ep A ms.length c) 24)).alloc (.cells zs32 32))) := ((Below.refl _ _).alloc (Nat.le_refl _) _).alloc (by simp) _
  have HD : Hid (cfgD ep ms = shaOf ([cfMark, cfgB ep ms] : List (List UInt8)).flatten) := Lib.hid (by simp [cfgD])
  have HDL := Lib.hid (cfgD_len ep ms)
  have HQ1 := Lib.hid (hS.far HF.out)
  generalize cfgD ep ms = d at *
  go_enter Tryd.func14, Tryd.ntmps14
  go_upto_region 1 with fail
  change Code.wp _ _ _ _ ((w.alloc (.cells (cfgV ep A ms.length c) 24)).alloc (.cells zs32 32))
  generalize (w.alloc (.cells (cfgV ep A ms.length c) 24)).alloc (.cells zs32 32) = w1 at *
  have HW2 : Hid (Wr (w1.alloc (.cells #[.slice none 0 0] 78)) w1.heap.size w1.heap.size []) := wr_new (Box.made _ _ _) (Nat.le_refl _)
  have HF2 : Hid (Below w1.heap.size w1 (w1.alloc (.cells #[.slice none 0 0] 78))) := (Below.refl _ _).alloc (Nat.le_refl _) _
  have l2 := (HS.out.below HF2.out HS.out.lt).l_cf
  have HN := Lib.hid (cfgwrite_any w1.heap.size w1.heap.size [] ep ms A c _ HW2.out (by simp) (by omega) (Sees.below HQ1.out HF2.out))
  have HBL : Hid ((cfgB ep ms).length ≤ 48000016) := Lib.hid (by rw [cfgB_len15]; omega)
  rw [List.nil_append] at HN
  generalize cfgB ep ms = bs at *
  clear hn hS HQ1 HS
  go_upto_region 3 with (go_at_call 23; (with_reducible refine (HN.out).mono ?_); rintro e w3 ⟨rfl, hw, hf⟩; have HW3 := Lib.hid hw; have HB3 := Lib.hid (HF2.out.trans (hf.below HW2.out)); clear hw hf)
  clear HN HF2 l2
  have HWK : Hid (Below w.heap.size w w3) := Lib.hid (HF.out.trans (HB3.out.mono HF.out.size))
  have HM : Hid (∀ w', Below (w3.heap.size + 1) (w3.alloc (.cells #[.int .u8 99, .int .u8 111, .int .u8 110, .int .u8 102, .int .u8 105, .int .u8 103] 5 (6, 7))) w' → Sees w' w'.heap.size (some ⟨w3.heap.size, 0, none⟩) (cfMark.map bv)) := Lib.hid (fun w' hb => by
    refine .inr ⟨w3.heap.size, 0, rfl, Nat.lt_of_lt_of_le (by simp) hb.size, fun j u hu => ?_⟩
    rw [Nat.zero_add, hb.cell (p := ⟨w3.heap.size, j, none⟩) (Nat.lt_succ_self _), World.cell?_alloc_mark, List.getElem?_toArray]
    exact hu)
  have HF4 : Hid (Below w3.heap.size w3 (w3.alloc (.cells #[.int .u8 99, .int .u8 111, .int .u8 110, .int .u8 102, .int .u8 105, .int .u8 103] 5 (6, 7)))) := (Below.refl _ _).alloc (Nat.le_refl _) _
  have HZ4 : Hid ((w3.alloc (.cells #[.int .u8 99, .int .u8 111, .int .u8 110, .int .u8 102, .int .u8 105, .int .u8 103] 5 (6, 7))).heap.size = w3.heap.size + 1) := Lib.hid (by simp)
  have HBY := Lib.hid (bytes_any w1.heap.size w1.heap.size bs _ (HW3.out.below_size HF4.out) (by have := HBL.out; omega))
  have hcv : (convert 76 76 (.slice (some ⟨w3.heap.size, 0, none⟩) 6 6)).run Tryd.prog (w3.alloc (.cells #[.int .u8 99, .int .u8 111, .int .u8 110, .int .u8 102, .int .u8 105, .int .u8 103] 5)) = .ok (.slice (some ⟨w3.heap.size, 0, none⟩) 6 6) (w3.alloc (.cells #[.int .u8 99, .int .u8 111, .int .u8 110, .int .u8 102, .int .u8 105, .int .u8 103] 5 (6, 7))) :=
    Lib.run_convert_bytes_const (P := Tryd.prog) w3 76 5 _ 6 6 Tryd.underlying76 Tryd.underlying5
  have HRW := Lib.hid hR
  clear hR HW3 HW2
  go_wp2_with fail
  clear hcv
  refine (HBY.out).mono ?_
  rintro e w5 ⟨A, c, rfl, hc1, hc2, hsee, hb⟩
  have HS5 := Lib.hid hsee
  have HB5 := Lib.hid hb
  have HC5 := Lib.hid hc1
  have HC6 := Lib.hid hc2
  clear hsee hb hc1 hc2
  have HX6 : Hid (Box (w5.alloc (.cells #[.slice (some ⟨w3.heap.size, 0, none⟩) 6 6, .slice A bs.length c] 76)) w5.heap.size 76 #[.slice (some ⟨w3.heap.size, 0, none⟩) 6 6, .slice A bs.length c]) := Box.made _ _ _
  have HB6 : Hid (Below w5.heap.size w5 (w5.alloc (.cells #[.slice (some ⟨w3.heap.size, 0, none⟩) 6 6, .slice A bs.length c] 76))) := (Below.refl _ _).alloc (Nat.le_refl _) _
  have HB46 := Lib.hid (HB5.out.trans (HB6.out.mono HB5.out.size))
  have HFA := Lib.hid (HWK.out.trans ((HF4.out.trans (HB46.out.mono HF4.out.size)).mono HWK.out.size))
  have HFB := Lib.hid (HB3.out.trans ((HF4.out.trans (HB46.out.mono HF4.out.size)).mono HB3.out.size))
  have HOF := Lib.hid (of_any [cfMark, bs] (some ⟨w5.heap.size, 0, none⟩) 2 _ (Pieces.two (p := cfMark) HX6.out HX6.out.lt (by decide) (by decide) (HM.out _ (by have h := HB46.out; rw [HZ4.out] at h; exact h)) HC5.out HC6.out ((HS5.out.below HB6.out).more HB6.out.size)) (by simp) (by have := HBL.out; simp [cfMark]; omega) (HRW.out.of_below HFA.out))
  rw [← HD.out] at HOF
  clear HB46 HM HS5 HB5 HBY HZ4 HF4 HX6 HB6 HC5 HC6
  go_wp2_with fail
  refine (HOF.out).mono ?_
  rintro e w7 ⟨rfl, hb⟩
  have HF7 := Lib.hid (HFA.out.trans (hb.mono HFA.out.size))
  have HFC := Lib.hid (HFB.out.trans (hb.mono HFB.out.size))
  have hst := (HO.out.below HFC.out HO.out.lt).store_digest rfl d HDL.out
  have HB9 := Lib.hid ((HO.out.below HFC.out HO.out.lt).cells_dig rfl HDL.out)
  have HF9 : Hid (Below w.heap.size w (w7.setCells (w.heap.size + 1) 0 (d.map bv))) := below_cells HF7.out (by omega) HF7.out.size 0 _
  clear hb HOF HD HFA HF HO
  go_wp2
  exact ret_dig rfl rfl rfl HB9.out HDL.out ⟨rfl, HF9.out⟩

end Go.Proofs.YtbclepdcngaonaaDoor
