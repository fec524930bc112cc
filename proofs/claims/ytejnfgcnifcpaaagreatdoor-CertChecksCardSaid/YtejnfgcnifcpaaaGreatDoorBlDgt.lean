/-
  A block's digest: block.Digest.
-/
import Derived.Test.YtejnfgcnifcpaaaGreatDoorBB
import Derived.Test.YtejnfgcnifcpaaaGreatDoorSD
import Derived.Test.YtejnfgcnifcpaaaGreatDoorTG
import Derived.Lib.SlBytesConst
namespace Go.Proofs.YtejnfgcnifcpaaaGreatDoor
open Go.RowKit

attribute [local go_sem ↓] ldReq_def stReq_def ldBlk_def stBlk_def ldDigest_def stDigest_def

/-- "block". -/
def bkMark : List UInt8 := [98, 108, 111, 99, 107]
def blkD (x : BlkX) : List UInt8 := shaOf (bkMark ++ blkB x)
set_option maxRecDepth 100000 in
theorem blkD_len (x : BlkX) : (blkD x).length = 32 := rfl

set_option maxRecDepth 100000 in
set_option maxHeartbeats 2000000 in
theorem bkdgt_any (b : BlkM) (hz : Small12 b.x) (w : World) (hS : QSee w w.heap.size b.A b.x.reqs) (hR : Roots w) :
    Calls Tryz.prog 22 #[.agg b.cells.toArray] w fun e w' => e = .returned (.agg ((blkD b.x).map bv).toArray) ∧ Below w.heap.size w w' := by
  have HS : Hid (Box ((w.alloc (.cells b.cells.toArray 29)).alloc (.cells zs32 26)) w.heap.size 29 b.cells.toArray) := (Box.made w _ _).alloc _
  have HO : Hid (Box ((w.alloc (.cells b.cells.toArray 29)).alloc (.cells zs32 26)) (w.heap.size + 1) 26 zs32) := Box.made_at (by simp) _ _
  have HF : Hid (Below w.heap.size w ((w.alloc (.cells b.cells.toArray 29)).alloc (.cells zs32 26))) := ((Below.refl _ _).alloc (Nat.le_refl _) _).alloc (by simp) _
  have HD : Hid (blkD b.x = shaOf ([bkMark, blkB b.x] : List (List UInt8)).flatten) := Lib.hid (by simp [blkD])
  have HDL := Lib.hid (blkD_len b.x)
  have HQ1 := Lib.hid (hS.far HF.out)
  generalize blkD b.x = d at *
  go_enter Tryz.func22, Tryz.ntmps22
  go_upto_region 1 with fail
  change Code.wp _ _ _ _ ((w.alloc (.cells b.cells.toArray 29)).alloc (.cells zs32 26))
  generalize (w.alloc (.cells b.cells.toArray 29)).alloc (.cells zs32 26) = w1 at *
  have HW2 : Hid (Wr (w1.alloc (.cells #[.slice none 0 0] 38)) w1.heap.size w1.heap.size []) := wr_new (Box.made _ _ _) (Nat.le_refl _)
  have HF2 : Hid (Below w1.heap.size w1 (w1.alloc (.cells #[.slice none 0 0] 38))) := (Below.refl _ _).alloc (Nat.le_refl _) _
  have l2 := (HS.out.below HF2.out HS.out.lt).ld_blk
  have HN := Lib.hid (write_any12 w1.heap.size w1.heap.size [] b _ HW2.out (Sees.below HQ1.out HF2.out) (by simp) hz)
  have HBL : Hid ((blkB b.x).length ≤ 4294967416) := Lib.hid hz.bytes
  rw [List.nil_append] at HN
  generalize blkB b.x = bs at *
  clear hz hS HQ1 HS
  go_upto_region 3 with (go_at_call 54; (with_reducible refine (HN.out).mono ?_); rintro e w3 ⟨rfl, hw, hf⟩; have HW3 := Lib.hid hw; have HB3 := Lib.hid (HF2.out.trans (hf.below HW2.out)); clear hw hf)
  clear HN HF2 l2
  have HWK : Hid (Below w.heap.size w w3) := Lib.hid (HF.out.trans (HB3.out.mono HF.out.size))
  have HM : Hid (∀ w', Below (w3.heap.size + 1) (w3.alloc (.cells #[.int .u8 98, .int .u8 108, .int .u8 111, .int .u8 99, .int .u8 107] 5 (5, 6))) w' → Sees w' w'.heap.size (some ⟨w3.heap.size, 0, none⟩) (bkMark.map bv)) := Lib.hid (fun w' hb => by
    refine .inr ⟨w3.heap.size, 0, rfl, Nat.lt_of_lt_of_le (by simp) hb.size, fun j u hu => ?_⟩
    rw [Nat.zero_add, hb.cell (p := ⟨w3.heap.size, j, none⟩) (Nat.lt_succ_self _), World.cell?_alloc_mark, List.getElem?_toArray]
    exact hu)
  have HF4 : Hid (Below w3.heap.size w3 (w3.alloc (.cells #[.int .u8 98, .int .u8 108, .int .u8 111, .int .u8 99, .int .u8 107] 5 (5, 6)))) := (Below.refl _ _).alloc (Nat.le_refl _) _
  have HZ4 : Hid ((w3.alloc (.cells #[.int .u8 98, .int .u8 108, .int .u8 111, .int .u8 99, .int .u8 107] 5 (5, 6))).heap.size = w3.heap.size + 1) := Lib.hid (by simp)
  have HBY := Lib.hid (bytes_any w1.heap.size w1.heap.size bs _ (HW3.out.below_size HF4.out) (by have := HBL.out; omega))
  have hcv : (convert 35 35 (.slice (some ⟨w3.heap.size, 0, none⟩) 5 5)).run Tryz.prog (w3.alloc (.cells #[.int .u8 98, .int .u8 108, .int .u8 111, .int .u8 99, .int .u8 107] 5)) = .ok (.slice (some ⟨w3.heap.size, 0, none⟩) 5 5) (w3.alloc (.cells #[.int .u8 98, .int .u8 108, .int .u8 111, .int .u8 99, .int .u8 107] 5 (5, 6))) :=
    Lib.run_convert_bytes_const (P := Tryz.prog) w3 35 5 _ 5 5 Tryz.underlying35 Tryz.underlying5
  have HRW := Lib.hid hR
  clear hR HW3 HW2
  go_wp2_with fail
  clear hcv
  refine (HBY.out).mono ?_
  rintro e w5 ⟨A, c, rfl, hc1, hc2, hsee, hb⟩
  have HS5 := Lib.hid hsee
  have HB5 := Lib.hid hb
  have HC5 := Lib.hid hc1
  have HC6 := Lib.hid hc2
  clear hsee hb hc1 hc2
  have HX6 : Hid (Box (w5.alloc (.cells #[.slice (some ⟨w3.heap.size, 0, none⟩) 5 5, .slice A bs.length c] 35)) w5.heap.size 35 #[.slice (some ⟨w3.heap.size, 0, none⟩) 5 5, .slice A bs.length c]) := Box.made _ _ _
  have HB6 : Hid (Below w5.heap.size w5 (w5.alloc (.cells #[.slice (some ⟨w3.heap.size, 0, none⟩) 5 5, .slice A bs.length c] 35))) := (Below.refl _ _).alloc (Nat.le_refl _) _
  have HB46 := Lib.hid (HB5.out.trans (HB6.out.mono HB5.out.size))
  have HFA := Lib.hid (HWK.out.trans ((HF4.out.trans (HB46.out.mono HF4.out.size)).mono HWK.out.size))
  have HFB := Lib.hid (HB3.out.trans ((HF4.out.trans (HB46.out.mono HF4.out.size)).mono HB3.out.size))
  have HOF := Lib.hid (of_any [bkMark, bs] (some ⟨w5.heap.size, 0, none⟩) 2 _ (Pieces.two (p := bkMark) HX6.out HX6.out.lt (by decide) (by decide) (HM.out _ (by have h := HB46.out; rw [HZ4.out] at h; exact h)) HC5.out HC6.out ((HS5.out.below HB6.out).more HB6.out.size)) (by simp) (by have := HBL.out; simp [bkMark]; omega) (HRW.out.of_below HFA.out))
  rw [← HD.out] at HOF
  clear HB46 HM HS5 HB5 HBY HZ4 HF4 HX6 HB6 HC5 HC6
  go_wp2_with fail
  refine (HOF.out).mono ?_
  rintro e w7 ⟨rfl, hb⟩
  have HF7 := Lib.hid (HFA.out.trans (hb.mono HFA.out.size))
  have HFC := Lib.hid (HFB.out.trans (hb.mono HFB.out.size))
  have hst := (HO.out.below HFC.out HO.out.lt).store_digest rfl d HDL.out
  have HB9 := Lib.hid ((HO.out.below HFC.out HO.out.lt).cells_dig rfl HDL.out)
  have HF9 : Hid (Below w.heap.size w (w7.setCells (w.heap.size + 1) 0 (d.map bv))) := below_cells HF7.out (by omega) HF7.out.size 0 _
  clear hb HOF HD HFA HF HO
  go_wp2
  exact ret_dig rfl rfl rfl HB9.out HDL.out ⟨rfl, HF9.out⟩

end Go.Proofs.YtejnfgcnifcpaaaGreatDoor
