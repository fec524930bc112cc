/-
  A request's digest: request.Digest.
-/
import Derived.Test.YtoamcdbemhbphaaDoorRqWrite
import Derived.Test.YtoamcdbemhbphaaDoorSD
import Derived.Test.YtoamcdbemhbphaaDoorTG
import Derived.Lib.SlBytesConst
namespace Go.Proofs.YtoamcdbemhbphaaDoor
open Go.RowKit

attribute [local go_sem ↓] ldReq_def stReq_def bdReq_def ldDigest_def stDigest_def

/-- "request". -/
def rqMark : List UInt8 := [114, 101, 113, 117, 101, 115, 116]
def reqD (x : ReqX) : List UInt8 := shaOf (rqMark ++ reqB x)
set_option maxRecDepth 100000 in
theorem reqD_len (x : ReqX) : (reqD x).length = 32 := rfl

set_option maxRecDepth 100000 in
set_option maxHeartbeats 2000000 in
theorem rqdgt_any (x : ReqX) (hk : x.key.size ≤ 1073741824) (hv : x.val.size ≤ 1073741824) (ho : x.old.size ≤ 1073741824) (w : World) (hR : Roots w) :
    Calls Tryd.prog 8 #[.agg x.cells.toArray] w fun e w' => e = .returned (.agg ((reqD x).map bv).toArray) ∧ Below w.heap.size w w' := by
  have HS : Hid (Box ((w.alloc (.cells x.cells.toArray 31)).alloc (.cells zs32 23)) w.heap.size 31 x.cells.toArray) := (Box.made w _ _).alloc _
  have HO : Hid (Box ((w.alloc (.cells x.cells.toArray 31)).alloc (.cells zs32 23)) (w.heap.size + 1) 23 zs32) := Box.made_at (by simp) _ _
  have HF : Hid (Below w.heap.size w ((w.alloc (.cells x.cells.toArray 31)).alloc (.cells zs32 23))) := ((Below.refl _ _).alloc (Nat.le_refl _) _).alloc (by simp) _
  have HD : Hid (reqD x = shaOf ([rqMark, reqB x] : List (List UInt8)).flatten) := Lib.hid (by simp [reqD])
  have HDL := Lib.hid (reqD_len x)
  generalize reqD x = d at *
  go_enter Tryd.func8, Tryd.ntmps8
  go_upto_region 1 with fail
  change Code.wp _ _ _ _ ((w.alloc (.cells x.cells.toArray 31)).alloc (.cells zs32 23))
  generalize (w.alloc (.cells x.cells.toArray 31)).alloc (.cells zs32 23) = w1 at *
  have HW2 : Hid (Wr (w1.alloc (.cells #[.slice none 0 0] 37)) w1.heap.size w1.heap.size []) := wr_new (Box.made _ _ _) (Nat.le_refl _)
  have HF2 : Hid (Below w1.heap.size w1 (w1.alloc (.cells #[.slice none 0 0] 37))) := (Below.refl _ _).alloc (Nat.le_refl _) _
  have l2 := (HS.out.below HF2.out HS.out.lt).ld_req
  have HN := Lib.hid (write_any9 w1.heap.size w1.heap.size [] x _ HW2.out (by simp) (by omega) (by omega) (by omega))
  have HBL : Hid ((reqB x).length ≤ 4294967296) := Lib.hid (by
    unfold reqB
    simp only [List.length_append, numBytes_len, textBytes_len, x.len]
    omega)
  rw [List.nil_append] at HN
  generalize reqB x = bs at *
  clear hk hv ho HS
  go_upto_region 3 with (go_at_call 6; (with_reducible refine (HN.out).mono ?_); rintro e w3 ⟨rfl, hw, hf⟩; have HW3 := Lib.hid hw; have HB3 := Lib.hid (HF2.out.trans (hf.below HW2.out)); clear hw hf)
  clear HN HF2 l2
  have HWK : Hid (Below w.heap.size w w3) := Lib.hid (HF.out.trans (HB3.out.mono HF.out.size))
  have HM : Hid (∀ w', Below (w3.heap.size + 1) (w3.alloc (.cells #[.int .u8 114, .int .u8 101, .int .u8 113, .int .u8 117, .int .u8 101, .int .u8 115, .int .u8 116] 5 (7, 8))) w' → Sees w' w'.heap.size (some ⟨w3.heap.size, 0, none⟩) (rqMark.map bv)) := Lib.hid (fun w' hb => by
    refine .inr ⟨w3.heap.size, 0, rfl, Nat.lt_of_lt_of_le (by simp) hb.size, fun j u hu => ?_⟩
    rw [Nat.zero_add, hb.cell (p := ⟨w3.heap.size, j, none⟩) (Nat.lt_succ_self _), World.cell?_alloc_mark, List.getElem?_toArray]
    exact hu)
  have HF4 : Hid (Below w3.heap.size w3 (w3.alloc (.cells #[.int .u8 114, .int .u8 101, .int .u8 113, .int .u8 117, .int .u8 101, .int .u8 115, .int .u8 116] 5 (7, 8)))) := (Below.refl _ _).alloc (Nat.le_refl _) _
  have HZ4 : Hid ((w3.alloc (.cells #[.int .u8 114, .int .u8 101, .int .u8 113, .int .u8 117, .int .u8 101, .int .u8 115, .int .u8 116] 5 (7, 8))).heap.size = w3.heap.size + 1) := Lib.hid (by simp)
  have HBY := Lib.hid (bytes_any w1.heap.size w1.heap.size bs _ (HW3.out.below_size HF4.out) (by have := HBL.out; omega))
  have hcv : (convert 35 35 (.slice (some ⟨w3.heap.size, 0, none⟩) 7 7)).run Tryd.prog (w3.alloc (.cells #[.int .u8 114, .int .u8 101, .int .u8 113, .int .u8 117, .int .u8 101, .int .u8 115, .int .u8 116] 5)) = .ok (.slice (some ⟨w3.heap.size, 0, none⟩) 7 7) (w3.alloc (.cells #[.int .u8 114, .int .u8 101, .int .u8 113, .int .u8 117, .int .u8 101, .int .u8 115, .int .u8 116] 5 (7, 8))) :=
    Lib.run_convert_bytes_const (P := Tryd.prog) w3 35 5 _ 7 7 Tryd.underlying35 Tryd.underlying5
  have HRW := Lib.hid hR
  clear hR HW3 HW2
  go_wp2_with fail
  clear hcv
  refine (HBY.out).mono ?_
  rintro e w5 ⟨A, c, rfl, hc1, hc2, hsee, hb⟩
  have HS5 := Lib.hid hsee
  have HB5 := Lib.hid hb
  have HC5 := Lib.hid hc1
  have HC6 := Lib.hid hc2
  clear hsee hb hc1 hc2
  have HX6 : Hid (Box (w5.alloc (.cells #[.slice (some ⟨w3.heap.size, 0, none⟩) 7 7, .slice A bs.length c] 35)) w5.heap.size 35 #[.slice (some ⟨w3.heap.size, 0, none⟩) 7 7, .slice A bs.length c]) := Box.made _ _ _
  have HB6 : Hid (Below w5.heap.size w5 (w5.alloc (.cells #[.slice (some ⟨w3.heap.size, 0, none⟩) 7 7, .slice A bs.length c] 35))) := (Below.refl _ _).alloc (Nat.le_refl _) _
  have HB46 := Lib.hid (HB5.out.trans (HB6.out.mono HB5.out.size))
  have HFA := Lib.hid (HWK.out.trans ((HF4.out.trans (HB46.out.mono HF4.out.size)).mono HWK.out.size))
  have HFB := Lib.hid (HB3.out.trans ((HF4.out.trans (HB46.out.mono HF4.out.size)).mono HB3.out.size))
  have HOF := Lib.hid (of_any [rqMark, bs] (some ⟨w5.heap.size, 0, none⟩) 2 _ (Pieces.two (p := rqMark) HX6.out HX6.out.lt (by decide) (by decide) (HM.out _ (by have h := HB46.out; rw [HZ4.out] at h; exact h)) HC5.out HC6.out ((HS5.out.below HB6.out).more HB6.out.size)) (by simp) (by have := HBL.out; simp [rqMark]; omega) (HRW.out.of_below HFA.out))
  rw [← HD.out] at HOF
  clear HB46 HM HS5 HB5 HBY HZ4 HF4 HX6 HB6 HC5 HC6
  go_wp2_with fail
  refine (HOF.out).mono ?_
  rintro e w7 ⟨rfl, hb⟩
  have HF7 := Lib.hid (HFA.out.trans (hb.mono HFA.out.size))
  have HFC := Lib.hid (HFB.out.trans (hb.mono HFB.out.size))
  have hst := (HO.out.below HFC.out HO.out.lt).store_digest rfl d HDL.out
  have HB9 := Lib.hid ((HO.out.below HFC.out HO.out.lt).cells_dig rfl HDL.out)
  have HF9 : Hid (Below w.heap.size w (w7.setCells (w.heap.size + 1) 0 (d.map bv))) := below_cells HF7.out (by omega) HF7.out.size 0 _
  clear hb HOF HD HFA HF HO
  go_wp2
  exact ret_dig rfl rfl rfl HB9.out HDL.out ⟨rfl, HF9.out⟩

end Go.Proofs.YtoamcdbemhbphaaDoor
