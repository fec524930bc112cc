/-
  Links written: cert.Write behind other bytes, and without a writer; chain.Write.
  A link's bytes, by the document: wapentakeref15.Bytes. Written by gen_lkrbytes.py.
  There and back on plain lists: a configuration's bytes, a word's with others behind, a link's.
-/
import Derived.Test.YtbclepdcngaonaaGreatDoorEH
import Derived.Test.YtbclepdcngaonaaGreatDoorED
import Derived.Test.YtbclepdcngaonaaGreatDoorBB
import Derived.Test.YtbclepdcngaonaaGreatDoorHA
import Derived.Test.YtbclepdcngaonaaGreatDoorMA
import Derived.Test.YtbclepdcngaonaaGreatDoorMC
import Derived.Test.YtbclepdcngaonaaGreatDoorEC
import Derived.Test.YtbclepdcngaonaaGreatDoorMD
import Derived.Test.YtbclepdcngaonaaGreatDoorBC
namespace Go.Proofs.YtbclepdcngaonaaGreatDoor
open Go.RowKit Go.Maps Go.Sort

attribute [local go_sem ↓] ldVt_def stVt_def alVt14_def
set_option maxRecDepth 100000 in
set_option maxHeartbeats 4000000 in
theorem cwrite_at15 (base a : Nat) (bs : List UInt8) (hbs : bs.length ≤ 200000000) (r : Int) (vs : List VtM) (A : Option Addr) (c : Nat) (hl : vs.length ≤ 1000) (hfit : allFit vs = true) (hlen : ∀ k, (((vs.map VtM.x).take k).flatMap voteB).length ≤ 4000000000) (w : World) (h : Wr w base a bs) (hV : VtK.See w base A vs) (hS : ∀ m ∈ vs, VAt w base m) :
    Calls Tryz.prog 31 #[.pointer (some ⟨a, 0, none⟩), .agg (crtV r A vs.length c)] w fun e w' => e = .returned (.bool true) ∧ Wr w' base a (bs ++ crtB r (vs.map VtM.x)) ∧ WF a w w' := by
  obtain ⟨w1, hw1⟩ : ∃ w1, w1 = w.alloc (.cells (crtV r A vs.length c) 35) := ⟨_, rfl⟩
  have hF : Below w.heap.size w w1 := by rw [hw1]; exact (Below.refl _ _).alloc (Nat.le_refl _) _
  have HX : Hid (Box w1 w.heap.size 35 (crtV r A vs.length c)) := by rw [hw1]; exact Box.made _ _ _
  have HBS : Hid (base ≤ w.heap.size) := h.2.1
  have HW1 := Lib.hid (h.below_size hF)
  have HA1 := Lib.hid (WF.of_below hF h.lt)
  have HB1 := Lib.hid (hF.mono HBS.out)
  have HV := Lib.hid hV
  have HS := Lib.hid hS
  have HLN := Lib.hid hl
  have HLB := Lib.hid hlen
  have HBS0 := Lib.hid hbs
  have HFA : Hid (∀ m ∈ vs, vFits m.x = true) := Lib.hid (fun m hm => List.all_eq_true.1 hfit m hm)
  have k1 : w1.cell? ⟨w.heap.size, 1, none⟩ = some (.slice A vs.length c) := HX.out.cell 1
  have hc := contains_ref14 vs A c (by omega) w1 (Sees.more (Sees.below hV HB1.out) HW1.out.2.1)
  rw [hfit] at hc
  have HC := Lib.hid hc
  clear hF h hV hS hl hfit hlen hc hbs
  go_enter Tryz.func31, Tryz.ntmps31
  go_upto_region 1 with fail
  change Code.wp _ _ _ _ (w.alloc (.cells (crtV r A vs.length c) 35))
  rw [← hw1]
  clear hw1
  go_upto_region 3 with (go_at_call 60; (with_reducible refine (HC.out).mono ?_); rintro e w2 ⟨rfl, hb⟩; have HX2 := Lib.hid (HX.out.below hb HX.out.lt); have HW2 := Lib.hid (HW1.out.below_size hb); have HA2 := Lib.hid (HA1.out.trans (WF.of_below hb HW1.out.lt)); have HB2 := Lib.hid (HB1.out.trans (hb.mono HW1.out.2.1)); clear hb)
  clear k1 HC HX HW1 HA1 HB1
  have k0 : w2.cell? ⟨w.heap.size, 0, none⟩ = some (.int .i64 r) := HX2.out.cell 0
  have k1 : w2.cell? ⟨w.heap.size, 1, none⟩ = some (.slice A vs.length c) := HX2.out.cell 1
  have hF3 : Below w2.heap.size w2 (w2.alloc (.cells #[.int .i64 r, .int .i64 (vs.length : Int)] 3)) := (Below.refl _ _).alloc (Nat.le_refl _) _
  have HW3 := Lib.hid (HW2.out.below_size hF3)
  have HX3 := Lib.hid (HX2.out.below hF3 HX2.out.lt)
  have HA3 := Lib.hid (HA2.out.trans (WF.of_below hF3 HW2.out.lt))
  have HB3 := Lib.hid (HB2.out.trans (hF3.mono HW2.out.2.1))
  have HNM := Lib.hid (wnum_wf14 base a w2.heap.size bs r (vs.length : Int) _ HW3.out (Box.made _ _ _) (by have := HBS0.out; omega))
  clear hF3
  go_upto_region 4 with (go_at_call 62; (with_reducible refine (HNM.out).mono ?_); rintro e w4 ⟨rfl, hw, hf⟩; have HW4 := Lib.hid hw; have HX4 := Lib.hid (hf.box HW3.out HX3.out (by decide) (by decide)); have HA4 := Lib.hid (HA3.out.trans hf); have HB4 := Lib.hid (HB3.out.trans (hf.below HW3.out)); clear hw hf)
  clear k0 k1 HNM HX2 HX3 HW2 HW3 HA2 HA3 HB2 HB3
  have k1 : w4.cell? ⟨w.heap.size, 1, none⟩ = some (.slice A vs.length c) := HX4.out.cell 1
  go_wp2
  clear k1 HX4
  have HW5 : Hid (Wr w4 base a ((bs ++ (numBytes r ++ numBytes (vs.length : Int))) ++ ((vs.map VtM.x).take 0).flatMap voteB)) := Lib.hid (by
    rw [List.take_zero, List.flatMap_nil, List.append_nil]
    simpa using HW4.out)
  have HBE : Hid (bs ++ crtB r (vs.map VtM.x) = (bs ++ (numBytes r ++ numBytes (vs.length : Int))) ++ (vs.map VtM.x).flatMap voteB) := Lib.hid (by
    unfold crtB
    rw [List.length_map]
    simp only [List.append_assoc])
  have HHL : Hid ((bs ++ (numBytes r ++ numBytes (vs.length : Int))).length ≤ 200000016) := Lib.hid (by rw [List.length_append, List.length_append, numBytes_len, numBytes_len]; have := HBS0.out; omega)
  generalize bs ++ (numBytes r ++ numBytes (vs.length : Int)) = hd at *
  clear HW4
  go_loopw [21] (fun i wr => ∃ k : Nat, k ≤ vs.length ∧ i = .int .i64 (k : Int) ∧ Hid (Wr wr base a (hd ++ ((vs.map VtM.x).take k).flatMap voteB)) ∧ Hid (WF a w wr) ∧ Hid (Below base w wr)) (fun i _ => vs.length - (intOf i).toNat)
  case atStart => exact ⟨0, Nat.zero_le _, rfl, HW5, HA4, HB4⟩
  case round =>
    clear HW5 HA4 HB4
    obtain ⟨k, hk, rfl, HW, HA, HB⟩ := hrel
    by_cases hlt : k < vs.length
    rotate_left
    · have i1 : ¬ (k : Int) < (vs.length : Int) := by omega
      have HWE : Hid (Wr wr base a (bs ++ crtB r (vs.map VtM.x))) := Lib.hid (by
        have h2 := HW.out
        rw [List.take_of_length_le (by rw [List.length_map]; omega)] at h2
        rw [HBE.out]
        exact h2)
      go_wp2
      go_ret
      exact ⟨rfl, HWE.out, HA.out⟩
    have i1 : (k : Int) < (vs.length : Int) := by omega
    have i0 : (0 : Int) ≤ (k : Int) := by omega
    have HVR : VtK.See wr wr.heap.size A vs := Sees.more (Sees.below HV.out HB.out) HW.out.2.1
    obtain ⟨g, o, hA, hlv⟩ := row_vote HVR hlt
    subst hA
    have lv := hlv wr (Below.refl _ _)
    have HLT := Lib.hid hlt
    have HM : Hid ((vs[k]'hlt) ∈ vs) := Lib.hid (List.getElem_mem hlt)
    have HTK := Lib.hid (votes_take14 hlt)
    have HLK := Lib.hid (HLB.out k)
    clear hlv HVR
    generalize vs[k]'hlt = m at *
    have HNX : Hid (hd ++ ((vs.map VtM.x).take (k + 1)).flatMap voteB = (hd ++ ((vs.map VtM.x).take k).flatMap voteB) ++ voteB m.x) := Lib.hid (by rw [HTK.out, List.append_assoc])
    clear HTK
    generalize ((vs.map VtM.x).take k).flatMap voteB = T1 at *
    obtain ⟨w8, hst8, hb8, hbl8⟩ := laid_vt wr m
    have hav := al_vt14
    have l8 := hb8.ld_vt
    have HW8 := Lib.hid (HW.out.below_size hbl8)
    have HA8 := Lib.hid (HA.out.trans (WF.of_below hbl8 HW.out.lt))
    have HB8 := Lib.hid (HB.out.trans (hbl8.mono HW.out.2.1))
    have hvat := (HS.out m HM.out).below HB8.out
    have HVW := Lib.hid (vwrite_any14 base a (hd ++ T1) m (by have := HLK.out; have := HHL.out; rw [List.length_append]; omega) (HFA.out m HM.out) w8 HW8.out hvat.opn hvat.sht hvat.pth)
    have wk : IntKind.i64.wrap ((k : Int) + 1) = ((k + 1 : Nat) : Int) := by rw [IntKind.wrap_i64]; have := HLN.out; omega
    clear hb8 hbl8 hvat hk hlt
    go_wp2_with (go_at_call 63; (with_reducible refine (HVW.out).mono ?_); rintro e w9 ⟨rfl, hw, hf⟩; have HW9 := Lib.hid hw; have HA9 := Lib.hid (HA8.out.trans hf); have HB9 := Lib.hid (HB8.out.trans (hf.below HW8.out)); clear hw hf)
    rw [← HNX.out] at HW9
    go_roundw
    case rel => exact ⟨k + 1, HLT.out, by go_num, HW9, HA9, HB9⟩
    case measure => have := HLT.out; simp [intOf]; omega

set_option maxRecDepth 100000 in
set_option maxHeartbeats 4000000 in
theorem cwrite_nil15 (r : Int) (vs : List VtM) (A : Option Addr) (c : Nat) (hl : vs.length ≤ 1000000) (hfit : allFit vs = true) (w : World) (hV : VtK.See w w.heap.size A vs) :
    Calls Tryz.prog 31 #[.pointer none, .agg (crtV r A vs.length c)] w fun e w' => e = .returned (.bool true) ∧ Below w.heap.size w w' := by
  obtain ⟨w1, hw1⟩ : ∃ w1, w1 = w.alloc (.cells (crtV r A vs.length c) 35) := ⟨_, rfl⟩
  have HF : Hid (Below w.heap.size w w1) := by rw [hw1]; exact (Below.refl _ _).alloc (Nat.le_refl _) _
  have HX : Hid (Box w1 w.heap.size 35 (crtV r A vs.length c)) := by rw [hw1]; exact Box.made _ _ _
  have k1 : w1.cell? ⟨w.heap.size, 1, none⟩ = some (.slice A vs.length c) := HX.out.cell 1
  have hc := contains_ref14 vs A c hl w1 (EK.See.far hV HF.out)
  rw [hfit] at hc
  have HC := Lib.hid hc
  have HV := Lib.hid (EK.See.far hV HF.out)
  have HLN := Lib.hid hl
  clear hV hc hfit hl
  go_enter Tryz.func31, Tryz.ntmps31
  go_upto_region 1 with fail
  change Code.wp _ _ _ _ (w.alloc (.cells (crtV r A vs.length c) 35))
  rw [← hw1]
  clear hw1
  go_upto_region 3 with (go_at_call 60; (with_reducible refine (HC.out).mono ?_); rintro e w2 ⟨rfl, hb⟩; have HX2 := Lib.hid (HX.out.below hb HX.out.lt); have HB2 := Lib.hid (HF.out.trans (hb.mono HF.out.size)); have HV2 := Lib.hid (EK.See.far HV.out hb); clear hb)
  clear k1 HC HX HV
  have k0 : w2.cell? ⟨w.heap.size, 0, none⟩ = some (.int .i64 r) := HX2.out.cell 0
  have k1 : w2.cell? ⟨w.heap.size, 1, none⟩ = some (.slice A vs.length c) := HX2.out.cell 1
  have hF3 : Below w2.heap.size w2 (w2.alloc (.cells #[.int .i64 r, .int .i64 (vs.length : Int)] 3)) := (Below.refl _ _).alloc (Nat.le_refl _) _
  have HX3 := Lib.hid (HX2.out.below hF3 HX2.out.lt)
  have HB3 := Lib.hid (HB2.out.trans (hF3.mono HB2.out.size))
  have HV3 := Lib.hid (EK.See.far HV2.out hF3)
  clear hF3
  go_upto_region 4 with (go_at_call 62; (with_reducible refine (wnum_nil _ _).mono ?_); rintro e w4 ⟨rfl, rfl⟩)
  clear k0 k1
  have k1 : (w2.alloc (.cells #[.int .i64 r, .int .i64 (vs.length : Int)] 3)).cell? ⟨w.heap.size, 1, none⟩ = some (.slice A vs.length c) := HX3.out.cell 1
  generalize w2.alloc (.cells #[.int .i64 r, .int .i64 (vs.length : Int)] 3) = w4 at *
  clear HX2 HB2 HV2
  go_wp2
  clear k1 HX3
  go_loopw [21] (fun i wr => ∃ k : Nat, k ≤ vs.length ∧ i = .int .i64 (k : Int) ∧ Hid (Below w4.heap.size w4 wr)) (fun i _ => vs.length - (intOf i).toNat)
  case atStart => exact ⟨0, Nat.zero_le _, rfl, Lib.hid (Below.refl _ _)⟩
  case round =>
    obtain ⟨k, hk, rfl, HW⟩ := hrel
    by_cases hlt : k < vs.length
    rotate_left
    · have i1 : ¬ (k : Int) < (vs.length : Int) := by omega
      go_wp2
      go_ret
      exact ⟨rfl, HB3.out.trans (HW.out.mono HB3.out.size)⟩
    have i1 : (k : Int) < (vs.length : Int) := by omega
    have i0 : (0 : Int) ≤ (k : Int) := by omega
    obtain ⟨g, o, hA, hlv⟩ := row_vote (EK.See.far HV3.out HW.out) hlt
    have lv := hlv wr (Below.refl _ _)
    have HLT := Lib.hid hlt
    clear hlv
    rw [hA]
    generalize vs[k]'hlt = m at *
    obtain ⟨w8, hst8, hb8, hbl8⟩ := laid_vt wr m
    have hav := al_vt14
    have l8 := hb8.ld_vt
    have HB8 := Lib.hid (HW.out.trans (hbl8.mono HW.out.size))
    have HVW := Lib.hid (vwrite_nil14 m w8)
    have wk : IntKind.i64.wrap ((k : Int) + 1) = ((k + 1 : Nat) : Int) := by rw [IntKind.wrap_i64]; have := HLN.out; omega
    clear hb8 hbl8 hk hlt
    go_wp2_with (go_at_call 63; (with_reducible refine (HVW.out).mono ?_); rintro e w9 ⟨rfl, hb⟩; have HB9 := Lib.hid (HB8.out.trans (hb.mono HB8.out.size)); clear hb)
    go_roundw
    case rel => exact ⟨k + 1, HLT.out, by go_num, HB9⟩
    case measure => have := HLT.out; simp [intOf]; omega

/-! ### chain.Write -/
def lkB (x : LkX) : List UInt8 := (blkB x.b ++ crtB x.r x.vs) ++ cfgB x.ep x.ms
/-- A link whose lists are seen below B. -/
structure LkAt (w : World) (B : Nat) (l : LkM) : Prop where
  blk : QSee w B l.b.A l.b.x.reqs
  vts : VtK.See w B l.A l.vs
  vat : ∀ m ∈ l.vs, VAt w B m
  mem : MK.See w B l.M l.ms
set_option maxRecDepth 100000 in
theorem LkAt.below {w w' : World} {B : Nat} {l : LkM} (h : LkAt w B l) (hb : Below B w w') : LkAt w' B l := ⟨Sees.below h.blk hb, Sees.below h.vts hb, fun m hm => (h.vat m hm).below hb, Sees.below h.mem hb⟩
set_option maxRecDepth 100000 in
theorem LkSee.at15 {w w' : World} {B : Nat} {l : LkM} (h : LkSee w l) (hb : Below w.heap.size w w') (hB : w.heap.size ≤ B) : LkAt w' B l :=
  ⟨(Sees.below h.blk hb).more hB, (Sees.below h.vts hb).more hB, fun m hm => ⟨((h.sgs m hm).A.below hb).more hB, ((h.sgs m hm).B.below hb).more hB, ((h.sgs m hm).C.below hb).more hB⟩, (Sees.below h.mem hb).more hB⟩

attribute [local go_sem ↓] ldBlk_def ldCt_def ldCf_def
set_option maxRecDepth 100000 in
set_option maxHeartbeats 4000000 in
theorem lwrite_any15 (base a : Nat) (l : LkM) (hz : Small12 l.b.x) (hbb : (blkB l.b.x).length ≤ 200000000) (hl : l.vs.length ≤ 1000) (hn : l.ms.length ≤ 1000000) (hfit : allFit l.vs = true) (hlen : ∀ k, (((l.vs.map VtM.x).take k).flatMap voteB).length ≤ 4000000000) (hcl : (crtB l.r (l.vs.map VtM.x)).length ≤ 4000000100) (w : World) (h : Wr w base a []) (hS : LkAt w base l) :
    Calls Tryz.prog 12 #[.pointer (some ⟨a, 0, none⟩), .agg l.cells.toArray] w fun e w' => e = .returned (.bool true) ∧ Wr w' base a (lkB l.x) ∧ WF a w w' := by
  obtain ⟨w1, hw1⟩ : ∃ w1, w1 = w.alloc (.cells l.cells.toArray 37) := ⟨_, rfl⟩
  have hF : Below w.heap.size w w1 := by rw [hw1]; exact (Below.refl _ _).alloc (Nat.le_refl _) _
  have HX : Hid (Box w1 w.heap.size 37 (lkL l.b.cells l.r (.slice l.A l.vs.length l.c) l.ep (.slice l.M l.ms.length l.m)).toArray) := by rw [hw1]; exact Box.made _ _ _
  have HBS : Hid (base ≤ w.heap.size) := h.2.1
  have HW1 := Lib.hid (h.below_size hF)
  have HA1 := Lib.hid (WF.of_below hF h.lt)
  have HS1 := Lib.hid (hS.below (hF.mono HBS.out))
  have lct : (ldCt (.pointer (some ⟨w.heap.size, 99, none⟩))).run Tryz.prog w1 = .ok (.agg (crtV l.r l.A l.vs.length l.c)) w1 := HX.out.lk_ct l.b.cells_len
  have HN := Lib.hid (cwrite_nil15 l.r l.vs l.A l.c (by omega) hfit w1 (Sees.more HS1.out.vts HW1.out.2.1))
  have HZ := Lib.hid hz
  have HBB := Lib.hid hbb
  have HL := Lib.hid hl
  have HNN := Lib.hid hn
  have HFI := Lib.hid hfit
  have HLE := Lib.hid hlen
  have HCL := Lib.hid hcl
  clear hF h hS hz hbb hl hn hfit hlen hcl
  go_enter Tryz.func12, Tryz.ntmps12
  go_upto_region 1 with fail
  change Code.wp _ _ _ _ (w.alloc (.cells l.cells.toArray 37))
  rw [← hw1]
  clear hw1
  go_upto_region 3 with (go_at_call 31; (with_reducible refine (HN.out).mono ?_); rintro e w2 ⟨rfl, hb⟩; have HX2 := Lib.hid (HX.out.below hb HX.out.lt); have HW2 := Lib.hid (HW1.out.below_size hb); have HA2 := Lib.hid (HA1.out.trans (WF.of_below hb HW1.out.lt)); have HS2 := Lib.hid (HS1.out.below (hb.mono HW1.out.2.1)); clear hb)
  clear lct HN HX HW1 HA1 HS1
  have lb := HX2.out.lk_blk
  have HWB := Lib.hid (write_any12 base a [] l.b w2 HW2.out HS2.out.blk (by simp) HZ.out)
  go_upto_region 4 with (go_at_call 32; (with_reducible refine (HWB.out).mono ?_); rintro e w3 ⟨rfl, hw, hf⟩; have HX3 := Lib.hid (hf.box HW2.out HX2.out (by decide) (by decide)); have HW3 := Lib.hid hw; have HA3 := Lib.hid (HA2.out.trans hf); have HS3 := Lib.hid (HS2.out.below (hf.below HW2.out)); clear hw hf)
  clear lb HWB HX2 HW2 HA2 HS2
  rw [List.nil_append] at HW3
  have lct : (ldCt (.pointer (some ⟨w.heap.size, 99, none⟩))).run Tryz.prog w3 = .ok (.agg (crtV l.r l.A l.vs.length l.c)) w3 := HX3.out.lk_ct l.b.cells_len
  have HWC := Lib.hid (cwrite_at15 base a (blkB l.b.x) HBB.out l.r l.vs l.A l.c HL.out HFI.out HLE.out w3 HW3.out HS3.out.vts HS3.out.vat)
  go_upto_region 5 with (go_at_call 31; (with_reducible refine (HWC.out).mono ?_); rintro e w4 ⟨rfl, hw, hf⟩; have HX4 := Lib.hid (hf.box HW3.out HX3.out (by decide) (by decide)); have HW4 := Lib.hid hw; have HA4 := Lib.hid (HA3.out.trans hf); have HS4 := Lib.hid (HS3.out.below (hf.below HW3.out)); clear hw hf)
  clear lct HWC HX3 HW3 HA3 HS3
  have lcf : (ldCf (.pointer (some ⟨w.heap.size, 101, none⟩))).run Tryz.prog w4 = .ok (.agg (cfgV l.ep l.M l.ms.length l.m)) w4 := HX4.out.lk_cf l.b.cells_len
  have HWG := Lib.hid (cfgwrite_any base a (blkB l.b.x ++ crtB l.r (l.vs.map VtM.x)) l.ep l.ms l.M l.m w4 HW4.out (by rw [List.length_append]; have := HBB.out; have := HCL.out; omega) (by have := HNN.out; omega) HS4.out.mem)
  go_wp2_with (go_at_call 33; (with_reducible refine (HWG.out).mono ?_); rintro e w5 ⟨rfl, hw, hf⟩; have HW5 := Lib.hid hw; have HA5 := Lib.hid (HA4.out.trans hf); clear hw hf)
  go_ret
  exact ⟨rfl, HW5.out, HA5.out⟩
set_option maxRecDepth 100000 in
theorem lwrite_no15 (p : Value) (l : LkM) (hl : l.vs.length ≤ 1000) (hfit : allFit l.vs = false) (w : World) (hS : VtK.See w w.heap.size l.A l.vs) :
    Calls Tryz.prog 12 #[p, .agg l.cells.toArray] w fun e w' => e = .returned (.bool false) ∧ Below w.heap.size w w' := by
  obtain ⟨w1, hw1⟩ : ∃ w1, w1 = w.alloc (.cells l.cells.toArray 37) := ⟨_, rfl⟩
  have HF : Hid (Below w.heap.size w w1) := by rw [hw1]; exact (Below.refl _ _).alloc (Nat.le_refl _) _
  have HX : Hid (Box w1 w.heap.size 37 (lkL l.b.cells l.r (.slice l.A l.vs.length l.c) l.ep (.slice l.M l.ms.length l.m)).toArray) := by rw [hw1]; exact Box.made _ _ _
  have lct : (ldCt (.pointer (some ⟨w.heap.size, 99, none⟩))).run Tryz.prog w1 = .ok (.agg (crtV l.r l.A l.vs.length l.c)) w1 := HX.out.lk_ct l.b.cells_len
  have HN := Lib.hid (cwrite_no14 l.r l.vs l.A l.c (by omega) hfit (.pointer none) w1 (EK.See.far hS HF.out))
  clear hS hl hfit HX
  go_enter Tryz.func12, Tryz.ntmps12
  go_upto_region 1 with fail
  change Code.wp _ _ _ _ (w.alloc (.cells l.cells.toArray 37))
  rw [← hw1]
  clear hw1
  go_wp2_with (go_at_call 31; (with_reducible refine (HN.out).mono ?_); rintro e w2 ⟨rfl, hb⟩; have HB2 := Lib.hid (HF.out.trans (hb.mono HF.out.size)); clear hb)
  go_ret
  exact ⟨rfl, HB2.out⟩
end Go.Proofs.YtbclepdcngaonaaGreatDoor

namespace Go.Proofs.YtbclepdcngaonaaGreatDoor
open Go.RowKit Go.Maps Go.Sort

def lkS (l : LkM) : List UInt8 := if allFit l.vs = true then lkB l.x else []
attribute [local go_sem ↓] ldBlk_def ldCt_def ldCf_def
set_option maxRecDepth 100000 in
set_option maxHeartbeats 8000000 in
theorem rlbytes_any15 (l : LkM) (hz : Small12 l.b.x) (hbb : (blkB l.b.x).length ≤ 200000000) (hnum : LkNum l) (hr : R64 l.r) (hl : l.vs.length ≤ 1000) (hn : l.ms.length ≤ 1000000) (hlen : ∀ k, (((l.vs.map VtM.x).take k).flatMap voteB).length ≤ 4000000000) (hcl : (crtB l.r (l.vs.map VtM.x)).length ≤ 4000000100) (w : World) (hL : LkSee w l) :
    Calls Tryz.prog 13 #[.agg l.cells.toArray] w fun e w' => e = .returned (.tuple #[str (lkS l), .bool (allFit l.vs)]) ∧ Below w.heap.size w w' := by
  obtain ⟨w1, hw1⟩ : ∃ w1, w1 = w.alloc (.cells l.cells.toArray 37) := ⟨_, rfl⟩
  have HF : Hid (Below w.heap.size w w1) := by rw [hw1]; exact (Below.refl _ _).alloc (Nat.le_refl _) _
  have hX : Box w1 w.heap.size 37 (lkL l.b.cells l.r (.slice l.A l.vs.length l.c) l.ep (.slice l.M l.ms.length l.m)).toArray := by rw [hw1]; exact Box.made _ _ _
  have HC : Hid (∀ w', Below w1.heap.size w1 w' → (ldBlk (.pointer (some ⟨w.heap.size, 0, none⟩))).run Tryz.prog w' = .ok (.agg l.b.cells.toArray) w' ∧ (ldCt (.pointer (some ⟨w.heap.size, 99, none⟩))).run Tryz.prog w' = .ok (.agg (crtV l.r l.A l.vs.length l.c)) w' ∧ (ldCf (.pointer (some ⟨w.heap.size, 101, none⟩))).run Tryz.prog w' = .ok (.agg (cfgV l.ep l.M l.ms.length l.m)) w') := Lib.hid (fun w' hb => by
    have hy := hX.below hb hX.lt
    exact ⟨hy.lk_blk, hy.lk_ct l.b.cells_len, hy.lk_cf l.b.cells_len⟩)
  have HL1 := Lib.hid (hL.call HF.out)
  have HCT := Lib.hid (rcbytes_any14 l.r hr l.vs l.A l.c hl hnum.votes hlen w1 HL1.out.vts (fun m hm => ⟨(HL1.out.sgs m hm).A, (HL1.out.sgs m hm).B, (HL1.out.sgs m hm).C⟩))
  have HBK : Hid (∀ w', Below w1.heap.size w1 w' → Calls Tryz.prog 35 #[.agg l.b.cells.toArray] w' fun e w'' => e = .returned (str (blkB l.b.x)) ∧ Below w'.heap.size w' w'') := Lib.hid (fun w' hb => rblkbytes_any l.b hz hnum.epoch hnum.height hnum.reqs w' (HL1.out.call hb).blk)
  have HCG : Hid (∀ w', Below w1.heap.size w1 w' → Calls Tryz.prog 36 #[.agg (cfgV l.ep l.M l.ms.length l.m)] w' fun e w'' => e = .returned (str (cfgB l.ep l.ms)) ∧ Below w'.heap.size w' w'') := Lib.hid (fun w' hb => rcfgbytes_any l.ep hnum.ep l.ms hnum.mem l.M l.m hn w' (HL1.out.call hb).mem)
  have HES : Hid (allFit l.vs = true → lkS l = (blkB l.b.x ++ crtB l.r (l.vs.map VtM.x)) ++ cfgB l.ep l.ms) := Lib.hid (fun h => by unfold lkS; rw [if_pos h]; rfl)
  have HEN : Hid (allFit l.vs = false → lkS l = []) := Lib.hid (fun h => by unfold lkS; rw [if_neg (by rw [h]; simp)])
  have HYS : Hid (allFit l.vs = true → crtS l.r l.vs = crtB l.r (l.vs.map VtM.x)) := Lib.hid crtS_yes
  have HG : Hid ((cfgB l.ep l.ms).length ≤ 48000016) := Lib.hid (by rw [cfgB_len15]; omega)
  have HBB := Lib.hid hbb
  have HCL := Lib.hid hcl
  clear hX hL hnum hr hl hn hlen hz hbb hcl HL1
  generalize lkS l = S at *
  generalize allFit l.vs = af at *
  generalize crtS l.r l.vs = C0 at *
  generalize crtB l.r (l.vs.map VtM.x) = C1 at *
  generalize blkB l.b.x = B1 at *
  generalize cfgB l.ep l.ms = G1 at *
  generalize l.b.cells.toArray = BC at *
  generalize crtV l.r l.A l.vs.length l.c = CT at *
  generalize cfgV l.ep l.M l.ms.length l.m = CF at *
  generalize l.cells.toArray = LC at *
  go_enter Tryz.func13, Tryz.ntmps13
  go_upto_region 1 with fail
  change Code.wp _ _ _ _ (w.alloc (.cells LC 37))
  rw [← hw1]
  clear hw1
  have k1 := (HC.out w1 (Below.refl _ _)).2.1
  cases af with
  | false =>
    have HS0 := Lib.hid (HEN.out rfl)
    go_wp2_with (go_at_call 34; (with_reducible refine (HCT.out).mono ?_); rintro e w2 ⟨rfl, hb⟩; have HB2 := Lib.hid (HF.out.trans (hb.mono HF.out.size)); clear hb)
    go_ret2
    exact ⟨by rw [HS0.out]; rfl, HB2.out⟩
  | true =>
  have HSY := Lib.hid (HES.out rfl)
  have hcy := HYS.out rfl
  subst hcy
  go_upto_region 4 with (go_at_call 34; (with_reducible refine (HCT.out).mono ?_); rintro e w2 ⟨rfl, hb⟩; have HB2 := Lib.hid hb; clear hb)
  clear k1 HCT HES HEN HYS
  obtain ⟨U1, hU1⟩ : ∃ U, B1 ++ C0 = U := ⟨_, rfl⟩
  obtain ⟨U2, hU2⟩ : ∃ U, U1 ++ G1 = U := ⟨_, rfl⟩
  rw [hU1, hU2] at HSY
  have hu1 : U1.length ≤ 4200000100 := by rw [← hU1, List.length_append]; have := HBB.out; have := HCL.out; omega
  obtain ⟨s1, t1, v1⟩ := cat14c hU1 (k := 5000000000) (by have := HBB.out; omega) (by have := HCL.out; omega)
  obtain ⟨s2, t2, v2⟩ := cat14c hU2 (k := 5000000000) (by omega) (by have := HG.out; omega)
  have q1 : B1.length + C0.length ≤ 9223372036854775807 := by have := HBB.out; have := HCL.out; omega
  have q2 : U1.length + G1.length ≤ 9223372036854775807 := by have := HG.out; omega
  clear hU1 hU2 hu1
  obtain ⟨wd, hwd⟩ : ∃ wd, wd = w2.drew := ⟨_, rfl⟩
  have hbd : Below w1.heap.size w1 wd := by rw [hwd]; exact HB2.out.trans (((Below.refl _ _).drew).mono HB2.out.size)
  refine wp_region_held_drew (S := fun w' => Below w1.heap.size w1 w') (by kernel_rfl) (by rw [← hwd]; exact hbd) (fun hS => ?_)
  rw [← hwd] at hS ⊢
  clear hwd hbd HB2
  (refine wpAnyH_take (i := 0) (v := .pointer (some ⟨w.heap.size, 0, none⟩)) rfl (by kernel_rfl) (by kernel_rfl) (by kernel_rfl) (fun _ _ _ h => h) (Or.inl ⟨by kernel_rfl, fun w hSw => by go_simp⟩) hS ?_)
  (try simp only [Act.put])
  (refine wpAnyH_take (i := 1) (v := .agg BC) rfl (by kernel_rfl) (by kernel_rfl) (by kernel_rfl) (fun _ _ _ h => h) (Or.inl ⟨by kernel_rfl, fun w hSw => by have hc := (HC.out w hSw).1; go_simp⟩) hS ?_)
  (try simp only [Act.put])
  (refine wpAnyH_take (i := 3) (v := str C0) rfl (by kernel_rfl) (by kernel_rfl) (by kernel_rfl) (fun _ _ _ h => h) (Or.inl ⟨by kernel_rfl, fun w hSw => by go_simp⟩) hS ?_)
  (try simp only [Act.put])
  (refine wpAnyH_take (i := 5) (v := .pointer (some ⟨w.heap.size, 101, none⟩)) rfl (by kernel_rfl) (by kernel_rfl) (by kernel_rfl) (fun _ _ _ h => h) (Or.inl ⟨by kernel_rfl, fun w hSw => by go_simp⟩) hS ?_)
  (try simp only [Act.put])
  (refine wpAnyH_take (i := 6) (v := .agg CF) rfl (by kernel_rfl) (by kernel_rfl) (by kernel_rfl) (fun _ _ _ h => h) (Or.inl ⟨by kernel_rfl, fun w hSw => by have hc := (HC.out w hSw).2.2; go_simp⟩) hS ?_)
  (try simp only [Act.put])
  refine wpAnyH_ready (rs := [2]) (by decide +kernel) (by simp) (AllReadyH.cons rfl (fun K hK => ?_) AllReadyH.nil)
  go_simp
  (go_at_call 35; (with_reducible refine (HBK.out _ hS).mono ?_); rintro e w3 ⟨rfl, hb⟩)
  refine hK.out _ _ (hS.trans (hb.mono hS.size)) (fun hS => ?_)
  clear hK K
  (try simp only [Act.put])
  clear hb
  (refine wpAnyH_take (i := 4) (v := str U1) rfl (by kernel_rfl) (by kernel_rfl) (by kernel_rfl) (fun _ _ _ h => h) (Or.inl ⟨by kernel_rfl, fun w hSw => by go_simp⟩) hS ?_)
  (try simp only [Act.put])
  refine wpAnyH_ready (rs := [7]) (by decide +kernel) (by simp) (AllReadyH.cons rfl (fun K hK => ?_) AllReadyH.nil)
  go_simp
  (go_at_call 36; (with_reducible refine (HCG.out _ hS).mono ?_); rintro e w4 ⟨rfl, hb⟩)
  refine hK.out _ _ (hS.trans (hb.mono hS.size)) (fun hS => ?_)
  clear hK K
  (try simp only [Act.put])
  clear hb
  (refine wpAnyH_take (i := 8) (v := str U2) rfl (by kernel_rfl) (by kernel_rfl) (by kernel_rfl) (fun _ _ _ h => h) (Or.inl ⟨by kernel_rfl, fun w hSw => by go_simp⟩) hS ?_)
  (try simp only [Act.put])
  (refine wpAnyH_take (i := 9) (v := str U2) rfl (by kernel_rfl) (by kernel_rfl) (by kernel_rfl) (fun _ _ _ h => h) (Or.inl ⟨by kernel_rfl, fun w hSw => by go_simp⟩) hS ?_)
  (try simp only [Act.put])
  (refine wpAnyH_take (i := 10) (v := .bool true) rfl (by kernel_rfl) (by kernel_rfl) (by kernel_rfl) (fun _ _ _ h => h) (Or.inl ⟨by kernel_rfl, fun w hSw => by go_simp⟩) hS ?_)
  (try simp only [Act.put])
  refine wpAnyH_done (by kernel_rfl) ?_ _
  have HB9 := Lib.hid hS
  clear hS HBK HCG s1 t1 v1 s2 t2 v2
  go_simp
  go_wp2
  go_ret2
  exact ⟨by rw [HSY.out]; rfl, HF.out.trans (HB9.out.mono HF.out.size)⟩
end Go.Proofs.YtbclepdcngaonaaGreatDoor

namespace Go.Proofs.YtbclepdcngaonaaGreatDoor
open Go.RowKit Go.Maps Go.Sort

set_option maxRecDepth 100000 in
theorem crS_add15 (t : Int × List UInt8 × Bool) (j : Nat) : ∀ k, crS (j + k) t = crS k (crS j t)
  | 0 => rfl
  | k + 1 => by rw [← Nat.add_assoc, crS_succ, crS_succ, crS_add15 t j k]
set_option maxRecDepth 100000 in
theorem crT_add15 (t : Int × List UInt8 × Bool) (j : Nat) : ∀ k, crT (j + k) t = crT j t ++ crT k (crS j t)
  | 0 => by rw [Nat.add_zero, crT, List.append_nil]
  | k + 1 => by rw [← Nat.add_assoc, crT_succ, crT_succ, crT_add15 t j k, crS_add15 t j k, List.append_assoc]
set_option maxRecDepth 100000 in
theorem mk_root15 (i : Int) (r : List UInt8) (h : Int) (hr : r.length = 32) : (MemX.mk i r h hr).root = r := rfl
set_option maxRecDepth 100000 in
theorem mk_high15 (i : Int) (r : List UInt8) (h : Int) (hr : r.length = 32) : (MemX.mk i r h hr).high = h := rfl
set_option maxRecDepth 100000 in
theorem crM_root15 (t : Int × List UInt8 × Bool) : (crM t).root = (crC t.1 t.2).1 := by
  unfold crM
  exact mk_root15 _ _ _ _
set_option maxRecDepth 100000 in
theorem crM_high15 (t : Int × List UInt8 × Bool) : (crM t).high = (crB t.1 t.2).1 := by
  unfold crM
  exact mk_high15 _ _ _ _
set_option maxRecDepth 100000 in
theorem crN_eq15 (t : Int × List UInt8 × Bool) : crN t = ((crA t.1 t.2).1, (crC t.1 t.2).2) := by rw [crN]
set_option maxRecDepth 100000 in
theorem mem_back15 {last : Int} {m : MemX} (hl : 0 ≤ last) (h : last < m.id ∧ m.id ≤ 63) (hh : 0 ≤ m.high ∧ m.high ≤ 6) (rest : List UInt8) : crN (last, memB m ++ rest, false) = (m.id, rest, false) ∧ crM (last, memB m ++ rest, false) = m := by
  have E : memB m ++ rest = numBytes m.id ++ (numBytes m.high ++ (m.root ++ rest)) := by
    unfold memB
    simp
  rw [E]
  generalize hT : numBytes m.id ++ (numBytes m.high ++ (m.root ++ rest)) = T
  have eA : crA last (T, false) = (m.id, numBytes m.high ++ (m.root ++ rest), false) := by
    unfold crA
    rw [← hT]
    exact (inV_app ⟨by omega, by omega⟩ _ _ _).trans (if_pos ⟨by omega, h.2⟩)
  have eB : crB last (T, false) = (m.high, m.root ++ rest, false) := by
    unfold crB
    rw [eA]
    exact (inV_app ⟨by omega, by omega⟩ _ _ _).trans (if_pos hh)
  have eC : crC last (T, false) = (m.root, rest, false) := by
    unfold crC
    rw [eB]
    exact dgV_app m.len _
  clear hT E
  refine ⟨?_, MemX.same ?_ ?_ ?_⟩
  · rw [crN_eq15, eA, eC]
  · rw [crM_id, eA]
  · rw [crM_root15, eC]
  · rw [crM_high15, eB]
set_option maxRecDepth 100000 in
theorem mems_back15 : ∀ (ms : List MemX) (last : Int) (rest : List UInt8), 0 ≤ last → riseB last ms = true → (crS ms.length (last, ms.flatMap memB ++ rest, false)).2 = (rest, false) ∧ crT ms.length (last, ms.flatMap memB ++ rest, false) = ms
  | [], last, rest, _, _ => ⟨rfl, by rw [List.length_nil, crT]⟩
  | m :: ms, last, rest, hl, h => by
    have h' : (decide (last < m.id) && (fitsB m.id m.high && riseB m.id ms)) = true := h
    unfold fitsB inB at h'
    simp only [Bool.and_eq_true, decide_eq_true_eq] at h'
    obtain ⟨h1, ⟨⟨h2, h3⟩, h4, h5⟩, h6⟩ := h'
    obtain ⟨i1, i2⟩ := mems_back15 ms m.id rest (by omega) h6
    obtain ⟨v1, v2⟩ := mem_back15 hl ⟨h1, h3⟩ ⟨h4, h5⟩ (ms.flatMap memB ++ rest)
    have E : (m :: ms).flatMap memB ++ rest = memB m ++ (ms.flatMap memB ++ rest) := by rw [List.flatMap_cons, List.append_assoc]
    have s1 : crS 1 (last, memB m ++ (ms.flatMap memB ++ rest), false) = (m.id, ms.flatMap memB ++ rest, false) := by
      rw [crS_succ, crS_zero, v1]
    have t1 : crT 1 (last, memB m ++ (ms.flatMap memB ++ rest), false) = [m] := by
      rw [crT_succ, crS_zero, v2, crT]
      rfl
    rw [E, List.length_cons, Nat.add_comm ms.length 1, crS_add15, crT_add15, s1, t1]
    exact ⟨i1, by rw [i2]; rfl⟩
set_option maxRecDepth 100000 in
theorem cfg_back15 {ep : Int} {ms : List MemX} (h : goodB ep ms = true) (rest : List UInt8) : crF (cfgB ep ms ++ rest) false = (rest, false) ∧ crE (cfgB ep ms ++ rest) false = ep ∧ crMs (cfgB ep ms ++ rest) false = ms := by
  unfold goodB inB at h
  simp only [Bool.and_eq_true, decide_eq_true_eq] at h
  obtain ⟨⟨⟨h1, h2⟩, h3, h4⟩, h5⟩ := h
  have E : cfgB ep ms ++ rest = numBytes ep ++ (numBytes (ms.length : Int) ++ (ms.flatMap memB ++ rest)) := by
    unfold cfgB
    simp
  obtain ⟨b1, b2⟩ := mems_back15 ms 0 rest (Int.le_refl 0) h5
  rw [E]
  generalize ms.flatMap memB ++ rest = L at *
  generalize hT : numBytes ep ++ (numBytes (ms.length : Int) ++ L) = T
  have e0 : cr0 T false = (ep, numBytes (ms.length : Int) ++ L, false) := by
    unfold cr0
    rw [← hT]
    exact (inV_app ⟨by omega, by omega⟩ _ _ _).trans (if_pos ⟨h1, h2⟩)
  have e1 : cr1 T false = ((ms.length : Int), L, false) := by
    unfold cr1
    rw [e0]
    exact (inV_app ⟨by omega, by omega⟩ _ _ _).trans (if_pos ⟨h3, h4⟩)
  have eK : crK T false = ms.length := by
    unfold crK
    rw [e1]
    exact Int.toNat_natCast _
  clear hT E
  have e2 : (cr1 T false).2 = (L, false) := by rw [e1]
  have e3 : (cr0 T false).1 = ep := by rw [e0]
  clear e0 e1
  have eF : crF T false = (rest, false) := by
    rewrite [crF_eq, eK, e2, crFof_eq]
    exact b1
  have eb : (crF T false).2 = false := by rw [eF]
  obtain ⟨g1, g2⟩ := cr_good eb
  refine ⟨eF, g1.trans e3, ?_⟩
  rewrite [eK, e2] at g2
  exact g2.trans b2
set_option maxRecDepth 100000 in
theorem crt_back15 {r : Int} {xs : List VtX} (hr : 0 ≤ r ∧ r ≤ 1024) (hn : 1 ≤ xs.length ∧ xs.length ≤ 10) (h : ∀ x ∈ xs, VtBack x) (rest : List UInt8) : ctF (crtB r xs ++ rest) false = (rest, false) ∧ ctR (crtB r xs ++ rest) false = r ∧ ctX (crtB r xs ++ rest) false = xs := by
  obtain ⟨i1, i2⟩ := votes_back xs rest h
  have E : crtB r xs ++ rest = numBytes r ++ (numBytes (xs.length : Int) ++ (xs.flatMap voteB ++ rest)) := by
    unfold crtB
    simp
  have e0 : ct0 (crtB r xs ++ rest) false = (r, numBytes (xs.length : Int) ++ (xs.flatMap voteB ++ rest), false) := by
    unfold ct0
    rw [E, inV_app ⟨by omega, by omega⟩, if_pos hr]
  have e1 : ct1 (crtB r xs ++ rest) false = ((xs.length : Int), xs.flatMap voteB ++ rest, false) := by
    unfold ct1
    rw [e0]
    exact (inV_app ⟨by omega, by omega⟩ _ _ _).trans (if_pos ⟨by omega, by omega⟩)
  have eN : ctN (crtB r xs ++ rest) false = xs.length := by
    unfold ctN
    rw [e1]
    exact Int.toNat_natCast _
  have eF : ctF (crtB r xs ++ rest) false = (rest, false) := by
    unfold ctF
    rw [eN, e1]
    exact i1
  refine ⟨eF, ?_, ?_⟩
  · unfold ctR
    rw [eF, if_neg (by simp), e0]
  · unfold ctX
    rw [eF, if_neg (by simp), eN, e1]
    exact i2
set_option maxRecDepth 100000 in
/-- A link that leads is read as it was written. -/
theorem lk_back15 {ep : Int} {ms : List MemX} {h : Int} {x : LkX} (hs : stepN ep ms h x = 0) (hw : x.b.Wf) (hn : x.vs.length ≤ 10) (hd : ∀ y ∈ x.vs, R64 y.leaf ∧ AllD y.opn ∧ AllD y.sht ∧ AllD y.pth) : lkF (lkB x) false = ([], false) ∧ lkX (lkB x) false = x ∧ ∀ y ∈ x.vs, VtBack y := by
  obtain ⟨_, h2, _, h4, _⟩ := stepN_ok hs
  obtain ⟨c1, c2, c3⟩ := certB_back h4 hd
  have hg : blkGood x.b = true := by
    unfold certB at h4
    simp only [Bool.and_eq_true] at h4
    exact h4.2.1
  have E : lkB x = blkB x.b ++ (crtB x.r x.vs ++ (cfgB x.ep x.ms ++ [])) := by
    unfold lkB
    simp
  obtain ⟨b1, b2⟩ := blk_back x.b hw (crtB x.r x.vs ++ (cfgB x.ep x.ms ++ []))
  rw [if_pos hg, ← E] at b1
  have b3 := b2 hg
  rw [← E] at b3
  obtain ⟨d1, d2, d3⟩ := crt_back15 c1 ⟨c2, hn⟩ c3 (cfgB x.ep x.ms ++ [])
  obtain ⟨g1, g2, g3⟩ := cfg_back15 h2 []
  have e1 : lk1 (lkB x) false = (cfgB x.ep x.ms ++ [], false) := by
    unfold lk1
    rewrite [b1]
    exact d1
  have eF : lkF (lkB x) false = ([], false) := by
    unfold lkF
    rewrite [e1]
    exact g1
  refine ⟨eF, ?_, c3⟩
  unfold lkX
  rewrite [eF, if_neg (by simp), b1, e1, b3]
  show LkX.mk x.b (ctR (crtB x.r x.vs ++ (cfgB x.ep x.ms ++ [])) false) (ctX (crtB x.r x.vs ++ (cfgB x.ep x.ms ++ [])) false) (crE (cfgB x.ep x.ms ++ []) false) (crMs (cfgB x.ep x.ms ++ []) false) = x
  rewrite [d2, d3, g2, g3]
  rfl
set_option maxRecDepth 100000 in
/-- What is read is small. -/
theorem lkX_few15 (l : List UInt8) (b : Bool) : (lkX l b).b.reqs.length ≤ 8 ∧ (∀ x ∈ (lkX l b).vs, VFew x) ∧ (lkX l b).vs.length ≤ 10 ∧ (lkX l b).ms.length ≤ 10 := by
  unfold lkX
  split
  · exact ⟨Nat.zero_le _, fun x hx => (by cases hx), Nat.zero_le _, Nat.zero_le _⟩
  · exact ⟨bkX_len _ _, ctX_few _ _, ctX_len _ _, (crMs_ok _ _).1⟩
end Go.Proofs.YtbclepdcngaonaaGreatDoor
