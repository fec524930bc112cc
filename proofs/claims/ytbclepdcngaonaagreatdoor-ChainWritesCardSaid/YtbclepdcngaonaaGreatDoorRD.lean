/-
  Replies read: request.ReadReply.
  Requests read, by the document: wapentakeref09.Read.
  Replies read, by the document: wapentakeref09.ReadReply.
  Two readers over the same bytes, the program's and the document's.
-/
import Derived.Test.YtbclepdcngaonaaGreatDoorRB
import Derived.Test.YtbclepdcngaonaaGreatDoorSA
import Derived.Deep.AppendLies
import Derived.Deep.RegionHeld3
import Derived.Test.YtbclepdcngaonaaGreatDoorRr
namespace Go.Proofs.YtbclepdcngaonaaGreatDoor
open Go.RowKit

/-! ### What a reply is read as -/
/-! ### Replies in memory -/
/-! ### One text more -/
section
variable {R : World → Nat → List UInt8 → Bool → Prop} {w0 w w' : World} {a r b : Nat} {c n k : Int} {v : Value} {L : List ByteArray} {s s' : List UInt8 × Bool}
end

set_option maxRecDepth 100000 in
theorem rd_below {w w' : World} {a : Nat} {l : List UInt8} {b : Bool} (h : Rd w a l b) (hb : Below w.heap.size w w') : Rd w' a l b := h.below hb h.lt
attribute [local go_sem ↓] apAll_def

end Go.Proofs.YtbclepdcngaonaaGreatDoor

namespace Go.Proofs.YtbclepdcngaonaaGreatDoor
open Go.RowKit

set_option maxRecDepth 100000 in
theorem rrd_put {w w' : World} {a g : Nat} {l : List UInt8} {b : Bool} (h : RRd w a l b) (hg : w.grownBy w' (some g)) (hl : a < g) : RRd w' a l b := h.other hg (by omega)
attribute [local go_sem ↓] ldDigest_def stDigest_def ldReq_def stReq_def bdReq_def

set_option maxRecDepth 100000 in
set_option maxHeartbeats 4000000 in
theorem rread_any9 (a : Nat) (l : List UInt8) (b : Bool) (w : World) (h : RRd w a l b) :
    Calls Tryz.prog 77 #[.pointer (some ⟨a, 0, none⟩)] w fun e w' => e = .returned (.agg (rqX l b).cells.toArray) ∧ RRd w' a (rqF l b).1 (rqF l b).2 ∧ w.grownBy w' (some a) := by
  have HW1 : Hid (QW RRd 100 zreqV w a w.heap.size (w.heap.size + 1) (ReqX.mk 0 0 0 ⟨#[]⟩ ⟨#[]⟩ ⟨#[]⟩ 0 0 0 zeros 0 zeros_len).cells.toArray (l, b) ((w.alloc (.cells zreqV 100)).alloc (.cells zreqV 100))) :=
    ⟨(Box.made _ _ _).alloc _, Box.made_at (by simp) _ _, Box.alloc (Box.alloc h _) _, only_trans (World.grownBy_alloc w _ _) (World.grownBy_alloc _ _ _), h.lt, Nat.le_refl _, by omega, by omega⟩
  have HIN : Hid (∀ w' cs (lo hi : Int) (s : List UInt8 × Bool) (r : Int × List UInt8 × Bool), inV lo hi s.1 s.2 = r → QW RRd 100 zreqV w a w.heap.size (w.heap.size + 1) cs s w' → Calls Tryz.prog 75 #[.pointer (some ⟨a, 0, none⟩), .int .i64 lo, .int .i64 hi] w' fun e w'' => e = .returned (.int .i64 r.1) ∧ QW RRd 100 zreqV w a w.heap.size (w.heap.size + 1) cs r.2 w'') :=
    Lib.hid (fun w' cs lo hi s r hr hw => by subst hr; exact (rin_any a lo hi s.1 s.2 w' hw.rd).mono fun e w'' ⟨he, hr, hg⟩ => ⟨he, hw.turn hg hr⟩)
  have HTX : Hid (∀ w' cs (s : List UInt8 × Bool) (r : List UInt8 × List UInt8 × Bool), txtV 1024 s.1 s.2 = r → QW RRd 100 zreqV w a w.heap.size (w.heap.size + 1) cs s w' → Calls Tryz.prog 116 #[.pointer (some ⟨a, 0, none⟩), .int .i64 1024] w' fun e w'' => e = .returned (.string ⟨r.1.toArray⟩) ∧ QW RRd 100 zreqV w a w.heap.size (w.heap.size + 1) cs r.2 w'') :=
    Lib.hid (fun w' cs s r hr hw => by subst hr; exact (rtext_any a 1024 s.1 s.2 w' hw.rd).mono fun e w'' ⟨he, hr, hg⟩ => ⟨he, hw.turn hg hr⟩)
  have HGD : Hid (∀ w' cs (s : List UInt8 × Bool), QW RRd 100 zreqV w a w.heap.size (w.heap.size + 1) cs s w' → Calls Tryz.prog 20 #[.pointer (some ⟨a, 0, none⟩)] w' fun e w'' => e = .returned (.bool !s.2) ∧ w' = w'') := Lib.hid (fun w' cs s hw => rgood_any a s.1 s.2 w' hw.rd)
  have HNM : Hid (∀ w' cs (s : List UInt8 × Bool) (r : Int × List UInt8 × Bool), nuV s.1 s.2 = r → QW RRd 100 zreqV w a w.heap.size (w.heap.size + 1) cs s w' → Calls Tryz.prog 114 #[.pointer (some ⟨a, 0, none⟩)] w' fun e w'' => e = .returned (.int .i64 r.1) ∧ QW RRd 100 zreqV w a w.heap.size (w.heap.size + 1) cs r.2 w'') :=
    Lib.hid (fun w' cs s r hr hw => by subst hr; exact (rnum_any a s.1 s.2 w' hw.rd).mono fun e w'' ⟨he, hr, hg⟩ => ⟨he, hw.turn hg hr⟩)
  have HDG : Hid (∀ w' cs (s : List UInt8 × Bool) (r : List UInt8 × List UInt8 × Bool), dgV s.1 s.2 = r → QW RRd 100 zreqV w a w.heap.size (w.heap.size + 1) cs s w' → Calls Tryz.prog 76 #[.pointer (some ⟨a, 0, none⟩)] w' fun e w'' => e = .returned (.agg (r.1.map bv).toArray) ∧ QW RRd 100 zreqV w a w.heap.size (w.heap.size + 1) cs r.2 w'') :=
    Lib.hid (fun w' cs s r hr hw => by subst hr; exact (rdigest_any a s.1 s.2 w' hw.rd).mono fun e w'' ⟨he, hr, hg⟩ => ⟨he, hw.turn hg hr⟩)
  have hxg := rqX_good (l := l) (b := b)
  have hxb := rqX_bad (l := l) (b := b)
  have hF := rqF_eq l b
  have h4 := rc4_len (rq5 l b).2.1 (rq5 l b).2.2
  have e0 := rq0_eq l b
  have e1 := rq1_eq l b
  have e2 := rq2_eq l b
  have e3 := rq3_eq l b
  have e4 := rq4_eq l b
  have e5 := rq5_eq l b
  have d0 := rc0_eq (rq5 l b).2.1 (rq5 l b).2.2
  have d1 := rc1_eq (rq5 l b).2.1 (rq5 l b).2.2
  have d2 := rc2_eq (rq5 l b).2.1 (rq5 l b).2.2
  have d3 := rc3_eq (rq5 l b).2.1 (rq5 l b).2.2
  have d4 := rc4_eq (rq5 l b).2.1 (rq5 l b).2.2
  generalize hr0 : rq0 l b = r0 at *
  generalize hr1 : rq1 l b = r1 at *
  generalize hr2 : rq2 l b = r2 at *
  generalize hr3 : rq3 l b = r3 at *
  generalize hr4 : rq4 l b = r4 at *
  generalize hr5 : rq5 l b = r5 at *
  generalize rc0 r5.2.1 r5.2.2 = s0 at *
  generalize rc1 r5.2.1 r5.2.2 = s1 at *
  generalize rc2 r5.2.1 r5.2.2 = s2 at *
  generalize rc3 r5.2.1 r5.2.2 = s3 at *
  generalize rc4 r5.2.1 r5.2.2 = s4 at *
  generalize rqX l b = X at *
  generalize rqF l b = F at *
  have HXG := Lib.hid hxg
  have HXB := Lib.hid hxb
  have HF := Lib.hid hF
  have H4 := Lib.hid h4
  have E0 := Lib.hid e0
  have E1 := Lib.hid e1
  have E2 := Lib.hid e2
  have E3 := Lib.hid e3
  have E4 := Lib.hid e4
  have E5 := Lib.hid e5
  have D0 := Lib.hid d0
  have D1 := Lib.hid d1
  have D2 := Lib.hid d2
  have D3 := Lib.hid d3
  have D4 := Lib.hid d4
  clear hxg hxb hF h4 h e0 hr0 e1 hr1 e2 hr2 e3 hr3 e4 hr4 e5 hr5 d0 d1 d2 d3 d4
  go_enter Tryz.func77, Tryz.ntmps77
  go_upto_region 2 with fail
  change Code.wp _ _ _ _ ((w.alloc (.cells zreqV 100)).alloc (.cells zreqV 100))
  generalize (w.alloc (.cells zreqV 100)).alloc (.cells zreqV 100) = w1 at *
  have HC := Lib.hid (HIN.out w1 _ 1 64 _ r0 E0.out HW1.out)
  go_upto_region 3 with (go_at_call 75; (with_reducible refine (HC.out).mono ?_); rintro e w2 ⟨rfl, hw⟩; have m0 : w2.cell? ⟨w.heap.size + 1, 0, none⟩ = some (.int .i64 0) := hw.box.rq_cell rfl; have f0 := hw.box.free 0; have HW2 := Lib.hid hw; clear hw)
  have HW3 : Hid (QW RRd 100 zreqV w a w.heap.size (w.heap.size + 1) (ReqX.mk r0.1 0 0 ⟨#[]⟩ ⟨#[]⟩ ⟨#[]⟩ 0 0 0 zeros 0 zeros_len).cells.toArray r0.2 (w2.setCell ⟨w.heap.size + 1, 0, none⟩ (.int .i64 r0.1))) := Lib.hid (HW2.out.put rrd_put (Box.rk_client HW2.out.box _) (only_put (only_refl _ _) _ _))
  clear m0 f0 HC HW1 HW2
  generalize w2.setCell ⟨w.heap.size + 1, 0, none⟩ (.int .i64 r0.1) = w3 at *
  have HC := Lib.hid (HIN.out w3 _ 1 1099511627776 _ r1 E1.out HW3.out)
  go_upto_region 4 with (go_at_call 75; (with_reducible refine (HC.out).mono ?_); rintro e w4 ⟨rfl, hw⟩; have m0 : w4.cell? ⟨w.heap.size + 1, 1, none⟩ = some (.int .i64 0) := hw.box.rq_cell rfl; have f0 := hw.box.free 1; have HW4 := Lib.hid hw; clear hw)
  have HW5 : Hid (QW RRd 100 zreqV w a w.heap.size (w.heap.size + 1) (ReqX.mk r0.1 r1.1 0 ⟨#[]⟩ ⟨#[]⟩ ⟨#[]⟩ 0 0 0 zeros 0 zeros_len).cells.toArray r1.2 (w4.setCell ⟨w.heap.size + 1, 1, none⟩ (.int .i64 r1.1))) := Lib.hid (HW4.out.put rrd_put (Box.rk_num HW4.out.box _) (only_put (only_refl _ _) _ _))
  clear m0 f0 HC HW3 HW4
  generalize w4.setCell ⟨w.heap.size + 1, 1, none⟩ (.int .i64 r1.1) = w5 at *
  have HC := Lib.hid (HIN.out w5 _ 1 7 _ r2 E2.out HW5.out)
  go_upto_region 5 with (go_at_call 75; (with_reducible refine (HC.out).mono ?_); rintro e w6 ⟨rfl, hw⟩; have m0 : w6.cell? ⟨w.heap.size + 1, 2, none⟩ = some (.int .i64 0) := hw.box.rq_cell rfl; have f0 := hw.box.free 2; have HW6 := Lib.hid hw; clear hw)
  have HW7 : Hid (QW RRd 100 zreqV w a w.heap.size (w.heap.size + 1) (ReqX.mk r0.1 r1.1 r2.1 ⟨#[]⟩ ⟨#[]⟩ ⟨#[]⟩ 0 0 0 zeros 0 zeros_len).cells.toArray r2.2 (w6.setCell ⟨w.heap.size + 1, 2, none⟩ (.int .i64 r2.1))) := Lib.hid (HW6.out.put rrd_put (Box.rk_kind HW6.out.box _) (only_put (only_refl _ _) _ _))
  clear m0 f0 HC HW5 HW6
  generalize w6.setCell ⟨w.heap.size + 1, 2, none⟩ (.int .i64 r2.1) = w7 at *
  have HC := Lib.hid (HTX.out w7 _ _ r3 E3.out HW7.out)
  go_upto_region 6 with (go_at_call 116; (with_reducible refine (HC.out).mono ?_); rintro e w8 ⟨rfl, hw⟩; have m0 : w8.cell? ⟨w.heap.size + 1, 3, none⟩ = some (.string ⟨#[]⟩) := hw.box.rq_cell rfl; have f0 := hw.box.free 3; have HW8 := Lib.hid hw; clear hw)
  have HW9 : Hid (QW RRd 100 zreqV w a w.heap.size (w.heap.size + 1) (ReqX.mk r0.1 r1.1 r2.1 ⟨r3.1.toArray⟩ ⟨#[]⟩ ⟨#[]⟩ 0 0 0 zeros 0 zeros_len).cells.toArray r3.2 (w8.setCell ⟨w.heap.size + 1, 3, none⟩ (.string ⟨r3.1.toArray⟩))) := Lib.hid (HW8.out.put rrd_put (Box.rk_key HW8.out.box _) (only_put (only_refl _ _) _ _))
  clear m0 f0 HC HW7 HW8
  generalize w8.setCell ⟨w.heap.size + 1, 3, none⟩ (.string ⟨r3.1.toArray⟩) = w9 at *
  have HC := Lib.hid (HTX.out w9 _ _ r4 E4.out HW9.out)
  go_upto_region 7 with (go_at_call 116; (with_reducible refine (HC.out).mono ?_); rintro e w10 ⟨rfl, hw⟩; have m0 : w10.cell? ⟨w.heap.size + 1, 4, none⟩ = some (.string ⟨#[]⟩) := hw.box.rq_cell rfl; have f0 := hw.box.free 4; have HW10 := Lib.hid hw; clear hw)
  have HW11 : Hid (QW RRd 100 zreqV w a w.heap.size (w.heap.size + 1) (ReqX.mk r0.1 r1.1 r2.1 ⟨r3.1.toArray⟩ ⟨r4.1.toArray⟩ ⟨#[]⟩ 0 0 0 zeros 0 zeros_len).cells.toArray r4.2 (w10.setCell ⟨w.heap.size + 1, 4, none⟩ (.string ⟨r4.1.toArray⟩))) := Lib.hid (HW10.out.put rrd_put (Box.rk_val HW10.out.box _) (only_put (only_refl _ _) _ _))
  clear m0 f0 HC HW9 HW10
  generalize w10.setCell ⟨w.heap.size + 1, 4, none⟩ (.string ⟨r4.1.toArray⟩) = w11 at *
  have HC := Lib.hid (HTX.out w11 _ _ r5 E5.out HW11.out)
  go_upto_region 8 with (go_at_call 116; (with_reducible refine (HC.out).mono ?_); rintro e w12 ⟨rfl, hw⟩; have m0 : w12.cell? ⟨w.heap.size + 1, 5, none⟩ = some (.string ⟨#[]⟩) := hw.box.rq_cell rfl; have f0 := hw.box.free 5; have HW12 := Lib.hid hw; clear hw)
  have HW13 : Hid (QW RRd 100 zreqV w a w.heap.size (w.heap.size + 1) (ReqX.mk r0.1 r1.1 r2.1 ⟨r3.1.toArray⟩ ⟨r4.1.toArray⟩ ⟨r5.1.toArray⟩ 0 0 0 zeros 0 zeros_len).cells.toArray r5.2 (w12.setCell ⟨w.heap.size + 1, 5, none⟩ (.string ⟨r5.1.toArray⟩))) := Lib.hid (HW12.out.put rrd_put (Box.rk_old HW12.out.box _) (only_put (only_refl _ _) _ _))
  clear m0 f0 HC HW11 HW12
  generalize w12.setCell ⟨w.heap.size + 1, 5, none⟩ (.string ⟨r5.1.toArray⟩) = w13 at *
  have HC := Lib.hid (HNM.out w13 _ _ s0 D0.out HW13.out)
  go_upto_region 9 with (go_at_call 114; (with_reducible refine (HC.out).mono ?_); rintro e w14 ⟨rfl, hw⟩; have m0 : w14.cell? ⟨w.heap.size + 1, 6, none⟩ = some (.int .i64 0) := hw.box.rq_cell rfl; have f0 := hw.box.free 6; have HW14 := Lib.hid hw; clear hw)
  have HW15 : Hid (QW RRd 100 zreqV w a w.heap.size (w.heap.size + 1) (ReqX.mk r0.1 r1.1 r2.1 ⟨r3.1.toArray⟩ ⟨r4.1.toArray⟩ ⟨r5.1.toArray⟩ s0.1 0 0 zeros 0 zeros_len).cells.toArray s0.2 (w14.setCell ⟨w.heap.size + 1, 6, none⟩ (.int .i64 s0.1))) := Lib.hid (HW14.out.put rrd_put (Box.rk_ck HW14.out.box _) (only_put (only_refl _ _) _ _))
  clear m0 f0 HC HW13 HW14
  generalize w14.setCell ⟨w.heap.size + 1, 6, none⟩ (.int .i64 s0.1) = w15 at *
  have HC := Lib.hid (HNM.out w15 _ _ s1 D1.out HW15.out)
  go_upto_region 10 with (go_at_call 114; (with_reducible refine (HC.out).mono ?_); rintro e w16 ⟨rfl, hw⟩; have m0 : w16.cell? ⟨w.heap.size + 1, 7, none⟩ = some (.int .i64 0) := hw.box.rq_cell rfl; have f0 := hw.box.free 7; have HW16 := Lib.hid hw; clear hw)
  have HW17 : Hid (QW RRd 100 zreqV w a w.heap.size (w.heap.size + 1) (ReqX.mk r0.1 r1.1 r2.1 ⟨r3.1.toArray⟩ ⟨r4.1.toArray⟩ ⟨r5.1.toArray⟩ s0.1 s1.1 0 zeros 0 zeros_len).cells.toArray s1.2 (w16.setCell ⟨w.heap.size + 1, 7, none⟩ (.int .i64 s1.1))) := Lib.hid (HW16.out.put rrd_put (Box.rk_cid HW16.out.box _) (only_put (only_refl _ _) _ _))
  clear m0 f0 HC HW15 HW16
  generalize w16.setCell ⟨w.heap.size + 1, 7, none⟩ (.int .i64 s1.1) = w17 at *
  have HC := Lib.hid (HNM.out w17 _ _ s2 D2.out HW17.out)
  go_upto_region 11 with (go_at_call 114; (with_reducible refine (HC.out).mono ?_); rintro e w18 ⟨rfl, hw⟩; have m0 : w18.cell? ⟨w.heap.size + 1, 8, none⟩ = some (.int .i64 0) := hw.box.rq_cell rfl; have f0 := hw.box.free 8; have HW18 := Lib.hid hw; clear hw)
  have HW19 : Hid (QW RRd 100 zreqV w a w.heap.size (w.heap.size + 1) (ReqX.mk r0.1 r1.1 r2.1 ⟨r3.1.toArray⟩ ⟨r4.1.toArray⟩ ⟨r5.1.toArray⟩ s0.1 s1.1 s2.1 zeros 0 zeros_len).cells.toArray s2.2 (w18.setCell ⟨w.heap.size + 1, 8, none⟩ (.int .i64 s2.1))) := Lib.hid (HW18.out.put rrd_put (Box.rk_cn HW18.out.box _) (only_put (only_refl _ _) _ _))
  clear m0 f0 HC HW17 HW18
  generalize w18.setCell ⟨w.heap.size + 1, 8, none⟩ (.int .i64 s2.1) = w19 at *
  have HC := Lib.hid (HNM.out w19 _ _ s3 D3.out HW19.out)
  go_upto_region 12 with (go_at_call 114; (with_reducible refine (HC.out).mono ?_); rintro e w20 ⟨rfl, hw⟩; have m0 : w20.cell? ⟨w.heap.size + 1, 41, none⟩ = some (.int .i64 0) := hw.box.rq_high; have f0 := hw.box.free 41; have HW20 := Lib.hid hw; clear hw)
  have HW21 : Hid (QW RRd 100 zreqV w a w.heap.size (w.heap.size + 1) (ReqX.mk r0.1 r1.1 r2.1 ⟨r3.1.toArray⟩ ⟨r4.1.toArray⟩ ⟨r5.1.toArray⟩ s0.1 s1.1 s2.1 zeros s3.1 zeros_len).cells.toArray s3.2 (w20.setCell ⟨w.heap.size + 1, 41, none⟩ (.int .i64 s3.1))) := Lib.hid (HW20.out.put rrd_put (Box.rk_high HW20.out.box _) (only_put (only_refl _ _) _ _))
  clear m0 f0 HC HW19 HW20
  generalize w20.setCell ⟨w.heap.size + 1, 41, none⟩ (.int .i64 s3.1) = w21 at *
  have HC := Lib.hid (HDG.out w21 _ _ s4 D4.out HW21.out)
  go_upto_region 13 with (go_at_call 76; (with_reducible refine (HC.out).mono ?_); rintro e w22 ⟨rfl, hw⟩; obtain ⟨hst, hb, hg⟩ := hw.box.rk_root s4.1 H4.out; have HW23 := Lib.hid (hw.put rrd_put hb hg); clear hw hb hg)
  clear HC HW21 hst
  generalize w22.setCells (w.heap.size + 1) 9 (s4.1.map bv) = w23 at *
  have HC := Lib.hid (HGD.out w23 _ _ HW23.out)
  obtain ⟨gd, hgd⟩ : ∃ gd, s4.2.2 = gd := ⟨_, rfl⟩
  rw [hgd] at HC
  rcases gd with _ | _
  · have HX : Hid (X = (ReqX.mk r0.1 r1.1 r2.1 ⟨r3.1.toArray⟩ ⟨r4.1.toArray⟩ ⟨r5.1.toArray⟩ s0.1 s1.1 s2.1 s4.1 s3.1 H4.out)) := Lib.hid (HXG.out (by rw [HF.out]; exact hgd) H4.out)
    rw [← HX.out] at HW23
    have lc := HW23.out.box.ld_req
    obtain ⟨wz, hst, hb, hg⟩ := HW23.out.out.st_req rfl X
    have HBZ := Lib.hid hb
    have HRZ := Lib.hid (rrd_put HW23.out.rd hg (Nat.lt_of_lt_of_le HW23.out.ha (Nat.le_refl _)))
    have HGZ := Lib.hid (only_new HW23.out.far hg (Nat.le_refl _))
    clear hb hg HW23 HX HXG HXB hgd
    go_wp2_with (go_at_call 20; (with_reducible refine (HC.out).mono ?_); rintro e wg ⟨rfl, rfl⟩)
    exact ret_req rfl rfl rfl HBZ.out ⟨rfl, by rw [HF.out]; exact HRZ.out, HGZ.out⟩
  · have HX : Hid (X = zreq) := Lib.hid (HXB.out (by rw [HF.out]; exact hgd))
    have hbd := bd_req0 w23
    obtain ⟨wz, hst, hb, hg⟩ := HW23.out.out.st_req rfl zreq
    rw [zreq_cells] at hst
    have HBZ := Lib.hid hb
    have HRZ := Lib.hid (rrd_put HW23.out.rd hg (Nat.lt_of_lt_of_le HW23.out.ha (Nat.le_refl _)))
    have HGZ := Lib.hid (only_new HW23.out.far hg (Nat.le_refl _))
    clear hb hg HW23 HXG HXB hgd
    go_wp2_with (go_at_call 20; (with_reducible refine (HC.out).mono ?_); rintro e wg ⟨rfl, rfl⟩)
    exact ret_req rfl rfl rfl HBZ.out ⟨by rw [HX.out], by rw [HF.out]; exact HRZ.out, HGZ.out⟩

end Go.Proofs.YtbclepdcngaonaaGreatDoor

namespace Go.Proofs.YtbclepdcngaonaaGreatDoor
open Go.RowKit

set_option maxRecDepth 100000 in
theorem rrd_below {w w' : World} {a : Nat} {l : List UInt8} {b : Bool} (h : RRd w a l b) (hb : Below w.heap.size w w') : RRd w' a l b := Box.below h hb h.lt
attribute [local go_sem ↓] apAll_def

end Go.Proofs.YtbclepdcngaonaaGreatDoor

namespace Go.Proofs.YtbclepdcngaonaaGreatDoor
open Go.RowKit

set_option maxRecDepth 100000 in
theorem Rd.past9 {w w' : World} {a m : Nat} {l l2 : List UInt8} {bad bad2 : Bool} (h : Rd w a l bad) (hr : RRd w m l2 bad2) (hne : a ≠ m) (hg : w.grownBy w' (some m)) : Rd w' a l bad := by
  obtain ⟨A, c, h1, h2, h3, h4⟩ := h
  refine ⟨A, c, h1.grown hg (fun e => hne (by injection e)), h2, h3, ?_⟩
  rcases h4 with h4 | ⟨g, o, rfl, hga, hc⟩
  · exact .inl h4
  · rcases l with _ | ⟨b0, r⟩
    · exact .inl rfl
    · have hgm : g ≠ m := by
        rintro rfl
        have h0 := hc 0 (bv b0) rfl
        have hb : Box w g 58 #[str l2, .bool bad2] := hr
        rw [hb.cell] at h0
        match o, h0 with
        | 0, h0 => simp [bv, str] at h0
        | 1, h0 => simp [bv] at h0
        | o + 2, h0 => simp at h0
      refine .inr ⟨g, o, rfl, hga, fun j u hu => ?_⟩
      have hj := hc j u hu
      have hlt := World.block_lt_of_cell? w _ hj
      exact (World.cell?_of_block (hg.block g hlt (fun e => hgm (by injection e)))).trans hj
/-- Both readers stand at the same bytes. -/
structure TwX (w7 : World) (a m : Nat) (l : List UInt8) (w : World) : Prop where
  rd : Rd w a l false
  rr : RRd w m l false
  ne : a ≠ m
  ha : w7.heap.size ≤ a
  hm : w7.heap.size ≤ m
  far : Below w7.heap.size w7 w

end Go.Proofs.YtbclepdcngaonaaGreatDoor
