/-
  RingOnce: no number is used twice while a tree is there, and each signature is right.
-/
import Derived.Test.YtpldnjlfmagccaaDoorRiOnW
import Derived.Test.YtpldnjlfmagccaaDoorRiCounts
import Derived.Deep.DeepCutAuto
namespace Go.Proofs.YtpldnjlfmagccaaDoor
open Go.RowKit Go.Maps

attribute [local go_sem ↓] ldKey_def stKey_def ldCall_def stCall_def ldDigest_def ldSig_def eqKey_def apAll_def bsKeys_def

set_option maxRecDepth 100000 in
theorem once_great (cs : List CallX) (A : Option Addr) (c : Nat) (hn : cs.length ≤ maxLen) (hg : greatB cs = true) (w : World) (hS : Cals w w.heap.size A cs) (hR : Roots w) : Calls Tryd.prog 3 #[.slice A cs.length c] w fun e w' => e = .returned (.bool true) ∧ Below w.heap.size w w' := by
  have HA := Lib.hid (rialive_any w hR)
  have HG : Hid (∀ w', Below w.heap.size w w' → Calls Tryd.prog 8 #[.slice A cs.length c] w' fun e w'' => e = .returned (.bool true) ∧ Below w'.heap.size w' w'') := Lib.hid (fun w' hb => by
    have h := great_any6 cs A c hn w' ((hS.below hb).more hb.size)
    rw [hg] at h
    exact h)
  clear hg hS hR
  go_enter Tryd.func3, Tryd.ntmps3
  go_wp2_with (first
    | (go_at_call 7; (with_reducible refine (HA.out).mono ?_); rintro e w2 ⟨rfl, hb⟩; have F2 := Lib.hid hb; have HG2 := Lib.hid (HG.out _ hb); clear hb)
    | (go_at_call 8; (with_reducible refine (HG2.out).mono ?_); rintro e w3 ⟨rfl, hb⟩; have F3 := Lib.hid (F2.out.trans (hb.mono F2.out.size)); clear hb))
  go_ret
  exact ⟨rfl, F3.out⟩

set_option maxRecDepth 100000 in
theorem OnW.start {w : World} {rb mb : Nat} {B : Nat} (h : RingW w B rb mb 0 []) (hB : B ≤ w.heap.size) : OnW B rb mb w.heap.size 0 (.slice none 0 0) [] (w.alloc (.cells (List.replicate 40 nilV).toArray 49)) := by
  have hb : Below w.heap.size w (w.alloc (.cells (List.replicate 40 nilV).toArray 49)) := (Below.refl _ _).alloc (Nat.le_refl _) _
  have hg : ∀ i, (List.replicate 40 nilV).getD i nilV = nilV := fun i => by
    rw [List.getD_eq_getElem?_getD, List.getElem?_replicate]
    split <;> rfl
  refine ⟨[], List.replicate 40 nilV, fun _ => [], ⟨⟨0, Nat.le_refl _, h.call hb⟩, Use.start⟩, ⟨⟨Box.made _ _ _, hB, by simp, fun i => ?_, fun i j _ g e => ?_⟩, World.ownsRow_nil _ _ _ _⟩, fun _ => Nat.le_refl _, Nat.le_refl _⟩
  · rw [hg]
    exact World.ownsRow_nil _ _ _ _
  · rw [hg] at e
    cases e

set_option maxRecDepth 100000 in
theorem make_used (w : World) : (Instr.makeSlice 28 (.int .i64 40) (.int .i64 40)).run Tryd.prog w = .ok (.slice (some ⟨w.heap.size, 0, none⟩) 40 40) (w.alloc (.cells (List.replicate 40 nilV).toArray 49)) := by
  obtain ⟨i0, hi0, hz0, hz1, hz2⟩ := info_parts (show (Tryd.prog.info? 49).map (fun i => (i.zero, i.size, i.bytes)) = some (some nilV, 1, 24) by kernel_rfl)
  have hr := run_make (P := Tryd.prog) w 28 49 i0 _ Tryd.underlying28 hi0 hz0 .i64 .i64 40 40 (by omega) (Int.le_refl _) (by rw [hz2]; omega) (by omega)
  rw [hr, hz1]
  have e : madeCells nilV.cells ((40 : Int).toNat * 1) = (List.replicate 40 nilV).toArray := by
    have h := made_same 0 40 nilV
    rw [← h]
    rfl
  rw [e]
  rfl
set_option maxRecDepth 100000 in
theorem call_d {w : World} {g : Nat} {x : CallX} (h : Box w g 32 x.cells.toArray) : w.rangeAt g 4 (x.d.map bv) := Box.range_mid (pre := [.int .i64 x.kind, bv x.seed, .int .i64 x.key, .int .i64 x.n]) (post := []) (by
  rw [List.append_nil]
  exact h) rfl
set_option maxRecDepth 100000 in
set_option maxHeartbeats 4000000 in
theorem once_main (cs : List CallX) (A : Option Addr) (c : Nat) (hn : cs.length ≤ 30) (hg : greatB cs = false) (w : World) (hS : Cals w w.heap.size A cs) (hR : Roots w) : Calls Tryd.prog 3 #[.slice A cs.length c] w fun e w' => e = .returned (.bool true) ∧ Below w.heap.size w w' := by
  have HA := Lib.hid (rialive_any w hR)
  have HG : Hid (∀ w', Below w.heap.size w w' → Calls Tryd.prog 8 #[.slice A cs.length c] w' fun e w'' => e = .returned (.bool false) ∧ Below w'.heap.size w' w'') := Lib.hid (fun w' hb => by
    have h := great_any6 cs A c (Nat.le_trans hn (by simp [maxLen])) w' ((hS.below hb).more hb.size)
    rw [hg] at h
    exact h)
  have HS := Lib.hid hS
  have HR := Lib.hid hR
  have HN := Lib.hid hn
  clear hg hS hR hn
  go_enter Tryd.func3, Tryd.ntmps3
  go_upto_region 6 with (first
    | (go_at_call 7; (with_reducible refine (HA.out).mono ?_); rintro e w2 ⟨rfl, hb⟩; have F2 := Lib.hid hb; have HG2 := Lib.hid (HG.out _ hb); clear hb)
    | (go_at_call 8; (with_reducible refine (HG2.out).mono ?_); rintro e w3 ⟨rfl, hb⟩; have F3 := Lib.hid (F2.out.trans (hb.mono F2.out.size)); clear hb)
    | (go_at_call 9; (with_reducible refine (ring_new w3).mono ?_); rintro e w4 ⟨rb, mb, rfl, hr, hb⟩; have F4 := Lib.hid (F3.out.trans (hb.mono F3.out.size)); have HR4 := Lib.hid hr; have HB4 := Lib.hid hb.size; clear hb hr))
  have hmk := make_used w4
  have HO0 := Lib.hid (OnW.start HR4.out HB4.out)
  have HF0 : Hid (Below w.heap.size w (w4.alloc (.cells (List.replicate 40 nilV).toArray 49))) := Lib.hid (F4.out.trans ((Below.refl _ _).alloc F4.out.size _))
  have HBL : Hid (1 < w3.heap.size) := Lib.hid (HR.out.of_below F3.out).1
  have HB0 : Hid (∀ wr, Below w.heap.size w wr → w4.heap.size ≤ wr.heap.size → w3.heap.size ≤ wr.heap.size ∧ Roots wr ∧ Cals wr w.heap.size A cs) := Lib.hid (fun wr hb hs => ⟨Nat.le_trans HB4.out hs, HR.out.of_below hb, HS.out.below hb⟩)
  have HBB : Hid (w.heap.size ≤ w3.heap.size) := Lib.hid F3.out.size
  have HRW : Hid (∀ wr, Below w.heap.size w wr → Roots wr) := Lib.hid (fun wr hb => HR.out.of_below hb)
  clear HA HG HG2 HR4 HR HS
  go_wp2
  clear hmk F2 F3 F4
  go_loopw [4, 27] (fun lv i wr => ∃ (k : Nat) (ks : List KeyX), k ≤ cs.length ∧ i = .int .i64 (k : Int) ∧ Hid (OnW w3.heap.size rb mb w4.heap.size k lv ks wr) ∧ Hid (Below w.heap.size w wr) ∧ Hid (w4.heap.size ≤ wr.heap.size)) (fun _ i _ => cs.length - (intOf i).toNat)
  case atStart => exact ⟨0, [], Nat.zero_le _, rfl, HO0, HF0, Lib.hid (by simp)⟩
  case round =>
    clear HO0 HF0
    obtain ⟨k, ks, hk, rfl, HO, HF, HZ⟩ := hrel
    by_cases hlt : k < cs.length
    · have HLE := Lib.hid hlt
      have HK40 : Hid (k < 40) := Lib.hid (by have := HN.out; omega)
      have wk : IntKind.i64.wrap ((k : Int) + 1) = ((k + 1 : Nat) : Int) := by
        rw [IntKind.wrap_i64]
        have := HN.out
        omega
      have i1 : (k : Int) < (cs.length : Int) := by omega
      obtain ⟨_, _, hcals⟩ := HB0.out wr HF.out HZ.out
      obtain ⟨g, oo, rfl, _, hr⟩ := Sees.flat CallX.cells 36 (by decide) CallX.cells_len hcals hlt
      obtain ⟨x, hx⟩ : ∃ x, x = cs[k]'hlt := ⟨_, rfl⟩
      have lk := range_call (hr k hlt)
      rw [← hx] at lk
      clear hx hr hcals hlt hk
      obtain ⟨w5, hst0, hb5, hg5⟩ := laid_call wr x
      have hst : (stCall (.pointer (some ⟨wr.heap.size, 0, none⟩)) x.enc).run Tryd.prog (wr.alloc (.cells #[.int .i64 0, .int .u8 0, .int .i64 0, .int .i64 0, .int .u8 0, .int .u8 0, .int .u8 0, .int .u8 0, .int .u8 0, .int .u8 0, .int .u8 0, .int .u8 0, .int .u8 0, .int .u8 0, .int .u8 0, .int .u8 0, .int .u8 0, .int .u8 0, .int .u8 0, .int .u8 0, .int .u8 0, .int .u8 0, .int .u8 0, .int .u8 0, .int .u8 0, .int .u8 0, .int .u8 0, .int .u8 0, .int .u8 0, .int .u8 0, .int .u8 0, .int .u8 0, .int .u8 0, .int .u8 0, .int .u8 0, .int .u8 0] 32)) = .ok () w5 := hst0
      have hB5 : Below wr.heap.size wr w5 := ⟨hg5.os, hg5.tape, hg5.output, hg5.size, fun i hi => hg5.block i hi (by simp)⟩
      have HO5 := Lib.hid (HO.out.call hB5)
      have HF5 := Lib.hid (HF.out.trans (hB5.mono HF.out.size))
      have HZ5 : Hid (w4.heap.size ≤ w5.heap.size) := Lib.hid (Nat.le_trans HZ.out hB5.size)
      have HX5 := Lib.hid hb5
      obtain ⟨A', c', rfl, hks⟩ := HO5.out.sees
      have HKY := Lib.hid (key_any6 ks A' c' x.key w5 hks)
      have b2 : w5.cell? ⟨wr.heap.size, 2, none⟩ = some (.int .i64 x.key) := hb5.cell 2
      have HPW : Hid (wr.heap.size < w5.heap.size) := Lib.hid hb5.lt
      clear hst0 hb5 hg5 hB5 hks HO HF HZ
      go_upto_region 13 with (go_at_call 10; (with_reducible refine (HKY.out).mono ?_); rintro e w6 ⟨⟨y, rfl⟩, hb⟩; have H6 := Lib.hid hb; clear hb; obtain ⟨w7, hst0, hb7, hg7⟩ := laid_key w6 y.len y.high; have hst7 : (stKey (.pointer (some ⟨w6.heap.size, 0, none⟩)) y.enc).run Tryd.prog (w6.alloc (.cells #[.int .u8 0, .int .u8 0, .int .u8 0, .int .u8 0, .int .u8 0, .int .u8 0, .int .u8 0, .int .u8 0, .int .u8 0, .int .u8 0, .int .u8 0, .int .u8 0, .int .u8 0, .int .u8 0, .int .u8 0, .int .u8 0, .int .u8 0, .int .u8 0, .int .u8 0, .int .u8 0, .int .u8 0, .int .u8 0, .int .u8 0, .int .u8 0, .int .u8 0, .int .u8 0, .int .u8 0, .int .u8 0, .int .u8 0, .int .u8 0, .int .u8 0, .int .u8 0, .int .i64 0] 34)) = .ok () w7 := hst0; have G7 : Hid (Below w5.heap.size w5 w7) := Lib.hid (H6.out.trans ((show Below w6.heap.size w6 w7 from ⟨hg7.os, hg7.tape, hg7.output, hg7.size, fun i hi => hg7.block i hi (by simp)⟩).mono H6.out.size)); have HX7 := Lib.hid (HX5.out.below G7.out HPW.out); have HY7 := Lib.hid hb7; clear hst0 hb7 hg7; have b0 : w7.cell? ⟨wr.heap.size, 0, none⟩ = some (.int .i64 x.kind) := HX7.out.cell 0)
      generalize wr.heap.size = pc at *
      have HF7 := Lib.hid (HF5.out.trans (G7.out.mono HF5.out.size))
      have HO7 := Lib.hid (HO5.out.call G7.out)
      have HZ7 : Hid (w4.heap.size ≤ w7.heap.size) := Lib.hid (Nat.le_trans HZ5.out G7.out.size)
      have HB7 := Lib.hid (HB0.out w7 HF7.out HZ7.out)
      have ly : (ldKey (.pointer (some ⟨w6.heap.size, 0, none⟩))).run Tryd.prog w7 = .ok y.enc w7 := HY7.out.load_key y.len
      have b3 : w7.cell? ⟨pc, 3, none⟩ = some (.int .i64 x.n) := HX7.out.cell 3
      have HBK : Hid (∀ w', RFrame w3.heap.size w7 w' → Below w.heap.size w w' ∧ w4.heap.size ≤ w'.heap.size) := Lib.hid (fun w' f => ⟨HF7.out.trans ((f.below HB7.out.1).mono HBB.out), Nat.le_trans HZ7.out f.size⟩)
      clear HX5 HPW HO5 HF5 HZ5 HKY H6 G7 b2 lk hst hst7 HB0
      by_cases q0 : x.kind = 0
      · have e0 : (x.kind == 0) = true := by simp [q0]
        clear q0
        have HAD : Hid (Calls Tryd.prog 11 #[.pointer (some ⟨rb, 0, none⟩), .agg #[.int .u8 (x.seed.toNat : Int), .int .u8 0, .int .u8 0, .int .u8 0, .int .u8 0, .int .u8 0, .int .u8 0, .int .u8 0, .int .u8 0, .int .u8 0, .int .u8 0, .int .u8 0, .int .u8 0, .int .u8 0, .int .u8 0, .int .u8 0, .int .u8 0, .int .u8 0, .int .u8 0, .int .u8 0, .int .u8 0, .int .u8 0, .int .u8 0, .int .u8 0, .int .u8 0, .int .u8 0, .int .u8 0, .int .u8 0, .int .u8 0, .int .u8 0, .int .u8 0, .int .u8 0], .int .i64 x.n] w7 fun e' w' => (∃ (x : KeyX) (c : Int), e' = .returned (.tuple #[x.enc, .int .i64 c])) ∧ OnW w3.heap.size rb mb w4.heap.size (k + 1) (.slice A' ks.length c') ks w' ∧ ks.length ≤ k ∧ RFrame w3.heap.size w7 w') := Lib.hid (on_add HO7.out (x.seed :: List.replicate 31 0) rfl x.n HK40.out HB7.out.2.1 HB7.out.1)
        have b1 : w7.cell? ⟨pc, 1, none⟩ = some (.int .u8 (x.seed.toNat : Int)) := HX7.out.cell 1
        go_upto_region 15 with (go_at_call 11; (with_reducible refine (HAD.out).mono ?_); rintro e w8 ⟨⟨z, ec, rfl⟩, h8, hfew, f8⟩; have H8 := Lib.hid h8; have F8 := Lib.hid (HBK.out _ f8); have HFW := Lib.hid hfew; clear h8 f8 hfew; obtain ⟨w9, hst0, hb9, hg9⟩ := laid_key w8 z.len z.high; have hst9 : (stKey (.pointer (some ⟨w8.heap.size, 0, none⟩)) z.enc).run Tryd.prog (w8.alloc (.cells #[.int .u8 0, .int .u8 0, .int .u8 0, .int .u8 0, .int .u8 0, .int .u8 0, .int .u8 0, .int .u8 0, .int .u8 0, .int .u8 0, .int .u8 0, .int .u8 0, .int .u8 0, .int .u8 0, .int .u8 0, .int .u8 0, .int .u8 0, .int .u8 0, .int .u8 0, .int .u8 0, .int .u8 0, .int .u8 0, .int .u8 0, .int .u8 0, .int .u8 0, .int .u8 0, .int .u8 0, .int .u8 0, .int .u8 0, .int .u8 0, .int .u8 0, .int .u8 0, .int .i64 0] 34)) = .ok () w9 := hst0; have G9 : Hid (Below w8.heap.size w8 w9) := Lib.hid ⟨hg9.os, hg9.tape, hg9.output, hg9.size, fun i hi => hg9.block i hi (by simp)⟩; have HY9 := Lib.hid hb9; clear hst0 hb9 hg9)
        have H9 := Lib.hid (H8.out.call G9.out)
        have F9 : Hid (Below w.heap.size w w9 ∧ w4.heap.size ≤ w9.heap.size) := Lib.hid ⟨F8.out.1.trans (G9.out.mono F8.out.1.size), Nat.le_trans F8.out.2 G9.out.size⟩
        by_cases hc : ec = 0
        · have ec0 : (ec == 0) = true := by simp [hc]
          clear hc
          have lz : (ldKey (.pointer (some ⟨w8.heap.size, 0, none⟩))).run Tryd.prog w9 = .ok z.enc w9 := HY9.out.load_key z.len
          have hbs : (bsKeys 1 #[(0, z.enc)]).run Tryd.prog w9 = .ok (.slice (some ⟨w9.heap.size, 0, none⟩) 1 1) (w9.alloc (.cells z.cells.toArray 34)) := build_one_key z.len z.high w9
          obtain ⟨v, w10, hap, hO10, hB10⟩ := H9.out.append (by have := HFW.out; omega) (by have := HK40.out; omega) (Nat.le_trans HB4.out F9.out.2) z
          have H10 := Lib.hid hO10
          have F10 := Lib.hid hB10
          clear hO10 hB10
          go_wp2
          go_roundw
          case rel => exact ⟨k + 1, ks ++ [z], HLE.out, by go_num, H10, Lib.hid (F9.out.1.trans (F10.out.mono HBB.out)), Lib.hid (Nat.le_trans F9.out.2 F10.out.size)⟩
          case measure => have := HLE.out; simp [intOf]; omega
        · have ec0 : (ec == 0) = false := by simp [hc]
          clear hc
          go_wp2
          go_roundw
          case rel => exact ⟨k + 1, ks, HLE.out, by go_num, H9, Lib.hid F9.out.1, Lib.hid F9.out.2⟩
          case measure => have := HLE.out; simp [intOf]; omega
      have e0 : (x.kind == 0) = false := by simp [q0]
      by_cases q1 : x.kind = 1
      · have e1 : (x.kind == 1) = true := by simp [q1]
        have HTK := Lib.hid (on_take HO7.out y)
        clear q0 q1
        go_wp2_with (go_at_call 12; (with_reducible refine (HTK.out).mono ?_); rintro e w8 ⟨⟨v, rfl⟩, h8, f8⟩; have H8 := Lib.hid h8; have F8 := Lib.hid f8; clear h8 f8)
        go_roundw
        case rel => exact ⟨k + 1, ks, HLE.out, by go_num, H8, Lib.hid (HBK.out _ F8.out).1, Lib.hid (HBK.out _ F8.out).2⟩
        case measure => have := HLE.out; simp [intOf]; omega
      have e1 : (x.kind == 1) = false := by simp [q1]
      by_cases q2 : x.kind = 2
      · have e2 : (x.kind == 2) = true := by simp [q2]
        clear q0 q1 q2
        have ld : (ldDigest (.pointer (some ⟨pc, 4, none⟩))).run Tryd.prog w7 = .ok (.agg (x.d.map bv).toArray) w7 := range_load (call_d HX7.out) x.len
        rcases on_sign HO7.out y x.n x.d x.len HB7.out.2.1 HB7.out.1 HBL.out with ⟨ec, hec, hsn⟩ | hsn
        · have ec0 : (ec == 0) = false := by simp [hec]
          have HSN := Lib.hid hsn
          clear hsn hec
          go_wp2_with (first
            | (go_at_call 13; (with_reducible refine (HSN.out).mono ?_); rintro e w8 ⟨rfl, h8, f8⟩; have H8 := Lib.hid h8; have F8 := Lib.hid (HBK.out _ f8); clear h8 f8)
            | (((with_reducible show wpList _ _ _ ((⟨none, Op.store _ (.tmp 11) (.tmp 70), _, _, _, _⟩ : Oper) :: _) _ _)); refine wpList_store_box rfl 45 (.tmp 11) (.tmp 70) rfl w8.heap.size zsig rfl rfl 45 zsig (Box.made w8 _ _) rfl (sig_size 0 none 0 0 none 0 0 none 0 0) (sig_one 0 none 0 0 none 0 0 none 0 0) ?_; intro w9 hb9 hg9; have G9 : Hid (Below w8.heap.size w8 w9) := Lib.hid (((Below.refl w8.heap.size w8).alloc (Nat.le_refl _) (.cells zsig 45)).trans (below_only hg9 (Nat.le_refl _) (by simp))); clear hb9 hg9))
          have H9 := Lib.hid (H8.out.call G9.out)
          go_roundw
          case rel => exact ⟨k + 1, ks, HLE.out, by go_num, H9, Lib.hid (F8.out.1.trans (G9.out.mono F8.out.1.size)), Lib.hid (Nat.le_trans F8.out.2 G9.out.size)⟩
          case measure => have := HLE.out; simp [intOf]; omega
        · have HSN := Lib.hid hsn
          clear hsn
          go_upto_region 22 with (first
            | (go_at_call 13; (with_reducible refine (HSN.out).mono ?_); rintro e w8 ⟨⟨sv, m, sd, hh, rfl, hxm, hyk, hh6, hm2, hsg, h8⟩, f8⟩; have HXM := Lib.hid hxm; have HYK := Lib.hid hyk; have HH6 := Lib.hid hh6; have HM2 := Lib.hid hm2; have HSG := Lib.hid hsg; have HSF := Lib.hid hsg.facts; have H8 := Lib.hid h8; have F8 := Lib.hid (HBK.out _ f8); have HY8 := Lib.hid (f8.box HY7.out (by decide) (by decide)); have HX8 := Lib.hid (f8.box HX7.out (by decide) (by decide)); clear h8 f8 hxm hyk hh6 hm2 hsg)
            | (((with_reducible show wpList _ _ _ ((⟨none, Op.store _ (.tmp 11) (.tmp 70), _, _, _, _⟩ : Oper) :: _) _ _)); refine wpList_store_box rfl 45 (.tmp 11) (.tmp 70) rfl w8.heap.size sv rfl rfl 45 zsig (Box.made w8 _ _) HSF.out.1 HSF.out.2.1 HSF.out.2.2.1 ?_; intro w9 hb9 hg9; have HSB9 := Lib.hid hb9; have G9 : Hid (Below w8.heap.size w8 w9) := Lib.hid (((Below.refl w8.heap.size w8).alloc (Nat.le_refl _) (.cells zsig 45)).trans (below_only hg9 (Nat.le_refl _) (by simp))); clear hb9 hg9))
          have HY9 := Lib.hid (HY8.out.below G9.out HY8.out.lt)
          have HX9 := Lib.hid (HX8.out.below G9.out HX8.out.lt)
          have F9 : Hid (Below w.heap.size w w9 ∧ w4.heap.size ≤ w9.heap.size) := Lib.hid ⟨F8.out.1.trans (G9.out.mono F8.out.1.size), Nat.le_trans F8.out.2 G9.out.size⟩
          have H9 := Lib.hid (H8.out.call G9.out)
          have HCK : Hid (Calls Tryd.prog 14 #[y.enc, .agg (x.d.map bv).toArray, .agg sv] w9 fun e w' => e = .returned (.bool true) ∧ Below w9.heap.size w9 w') := Lib.hid (by
            rw [HYK.out]
            exact (HSG.out.call G9.out).right x.len HH6.out HM2.out (HRW.out w9 F9.out.1))
          have ly9 : (ldKey (.pointer (some ⟨w6.heap.size, 0, none⟩))).run Tryd.prog w9 = .ok y.enc w9 := HY9.out.load_key y.len
          have ld9 : (ldDigest (.pointer (some ⟨pc, 4, none⟩))).run Tryd.prog w9 = .ok (.agg (x.d.map bv).toArray) w9 := range_load (call_d HX9.out) x.len
          have ls9 : (ldSig (.pointer (some ⟨w8.heap.size, 0, none⟩))).run Tryd.prog w9 = .ok (.agg sv) w9 := HSB9.out.load_sig HSF.out.2.2.2
          have HS0 : Hid (sv[0]? = some (.int .i64 (m : Int))) := Lib.hid (by
            obtain ⟨_, _, _, _, _, _, _, e⟩ := HSG.out.form
            rw [e]
            rfl)
          clear ly ld b3 b0 HSN HY8 HX8 HSG H8
          go_upto_region 25 with (go_at_call 14; (with_reducible refine (HCK.out).mono ?_); rintro e w10 ⟨rfl, hb⟩; have G10 := Lib.hid hb; clear hb; have HY10 := Lib.hid (HY9.out.below G10.out HY9.out.lt); have HSB10 := Lib.hid (HSB9.out.below G10.out HSB9.out.lt); have b3 : w10.cell? ⟨pc, 3, none⟩ = some (.int .i64 (m : Int)) := (by rw [← HXM.out]; exact (HX9.out.below G10.out HX9.out.lt).cell 3); have bl : w10.cell? ⟨w8.heap.size, 0, none⟩ = some (.int .i64 (m : Int)) := (by rw [HSB10.out.cell]; exact HS0.out))
          have F10 : Hid (Below w.heap.size w w10 ∧ w4.heap.size ≤ w10.heap.size) := Lib.hid ⟨F9.out.1.trans (G10.out.mono F9.out.1.size), Nat.le_trans F9.out.2 G10.out.size⟩
          have H10 := Lib.hid (H9.out.call G10.out)
          have HKQ : Hid (ks.length ≤ 39) := Lib.hid (by have := HO7.out.few; have := HK40.out; omega)
          have HUZ : Hid (∀ wx, UFrame w3.heap.size w10 wx → Below w.heap.size w wx ∧ w4.heap.size ≤ wx.heap.size ∧ w3.heap.size ≤ wx.heap.size ∧ Box wx w6.heap.size 34 (keyV y.root y.high) ∧ Box wx w8.heap.size 45 sv) := Lib.hid (fun wx f => ⟨F10.out.1.trans ((f.below (Nat.le_trans HB4.out F10.out.2)).mono HBB.out), Nat.le_trans F10.out.2 f.size, Nat.le_trans HB4.out (Nat.le_trans F10.out.2 f.size), f.box HY10.out (by decide) (by decide), f.box HSB10.out (by decide) (by decide)⟩)
          clear ly9 ld9 ls9 b3 bl
          go_loopw [89] (fun i wx => ∃ i' : Nat, i' ≤ ks.length ∧ i = .int .i64 (i' : Int) ∧ Hid (SgdW w3.heap.size rb mb w4.heap.size k (.slice A' ks.length c') ks y m i' wx) ∧ Hid (UFrame w3.heap.size w10 wx)) (fun i _ => ks.length - (intOf i).toNat)
          case atStart => exact ⟨0, Nat.zero_le _, rfl, H10, Lib.hid (UFrame.refl _ _)⟩
          case round =>
            clear H10 H9
            obtain ⟨i, hi, rfl, HO, HU⟩ := hrel
            by_cases hli : i < ks.length
            · clear hi
              have HLI := Lib.hid hli
              have wi : IntKind.i64.wrap ((i : Int) + 1) = ((i + 1 : Nat) : Int) := by
                rw [IntKind.wrap_i64]
                have := HKQ.out
                omega
              have i3 : (i : Int) < (ks.length : Int) := by omega
              have i4 : (i : Int) < 40 := by have := HKQ.out; omega
              have i4' : i < 40 := by have := HKQ.out; omega
              obtain ⟨g2, o2, rfl, _, hr2⟩ := Sees.flat KeyX.cells 33 (by decide) KeyX.cells_len HO.out.keys hli
              obtain ⟨z, hz⟩ : ∃ z, z = ks[i]'hli := ⟨_, rfl⟩
              have lz := range_key (hr2 i hli)
              rw [← hz] at lz
              have HZE : Hid (∀ h : i < ks.length, ks[i]'h = z) := Lib.hid (fun _ => hz.symm)
              clear hz hr2
              obtain ⟨wy, hst0, hby, hgy⟩ := laid_key wr z.len z.high
              have hsty : (stKey (.pointer (some ⟨wr.heap.size, 0, none⟩)) z.enc).run Tryd.prog (wr.alloc (.cells #[.int .u8 0, .int .u8 0, .int .u8 0, .int .u8 0, .int .u8 0, .int .u8 0, .int .u8 0, .int .u8 0, .int .u8 0, .int .u8 0, .int .u8 0, .int .u8 0, .int .u8 0, .int .u8 0, .int .u8 0, .int .u8 0, .int .u8 0, .int .u8 0, .int .u8 0, .int .u8 0, .int .u8 0, .int .u8 0, .int .u8 0, .int .u8 0, .int .u8 0, .int .u8 0, .int .u8 0, .int .u8 0, .int .u8 0, .int .u8 0, .int .u8 0, .int .u8 0, .int .i64 0] 34)) = .ok () wy := hst0
              have GY : Hid (Below wr.heap.size wr wy) := Lib.hid ⟨hgy.os, hgy.tape, hgy.output, hgy.size, fun q hq => hgy.block q hq (by simp)⟩
              have FY := Lib.hid (HU.out.trans (UFrame.of_below GY.out))
              have UZ := Lib.hid (HUZ.out _ FY.out)
              have OY := Lib.hid (HO.out.call GY.out)
              have lzy := hby.load_key z.len
              have lyy := UZ.out.2.2.2.1.load_key y.len
              clear hst0 hby hgy hli
              by_cases hzy : z = y
              · have eq : ∀ w, (eqKey (.agg (keyV z.root z.high)) (.agg (keyV y.root y.high))).run Tryd.prog w = .ok true w := eq_keyx z y true (by simp [hzy])
                have hzx : ks[i]'HLI.out = y := (HZE.out _).trans hzy
                clear hzy
                obtain ⟨A2, c2, l, hcu, hsl, hnm, hl40, hnext⟩ := OY.out.at_ (w' := ((wy.alloc (.cells #[.int .i64 (m : Int)] 3)).drew)) HK40.out HLI.out hzx UZ.out.2.2.1
                obtain ⟨A3, n3, c3, wf, hap, hcf, hff, uf1, hsf, uf2⟩ := hnext wy.heap.size 1 ((Box.made wy 3 #[.int .i64 (m : Int)]).drew.cell 0) ((Below.refl _ _).alloc (Nat.le_refl _) _).drew
                have UD : Hid (UFrame w3.heap.size w10 ((wy.alloc (.cells #[.int .i64 (m : Int)] 3)).drew)) := Lib.hid (FY.out.trans (UFrame.of_below ((Below.refl _ _).alloc (Nat.le_refl _) _).drew))
                have O2 := Lib.hid hsf
                have U2 := Lib.hid (UD.out.trans uf2)
                have HAP := Lib.hid hap
                have HCF := Lib.hid (And.intro hcf hff)
                have hsD : wy.drew.cell? ⟨w8.heap.size, 0, none⟩ = some (.int .i64 (m : Int)) := by
                  rw [show wy.drew.cell? ⟨w8.heap.size, 0, none⟩ = wy.cell? ⟨w8.heap.size, 0, none⟩ from rfl, UZ.out.2.2.2.2.cell]
                  exact HS0.out
                have hsZ : (wy.alloc (.cells #[.int .i64 (m : Int)] 3)).drew.cell? ⟨w8.heap.size, 0, none⟩ = some (.int .i64 (m : Int)) := by
                  rw [(HUZ.out _ UD.out).2.2.2.2.cell]
                  exact HS0.out
                have hsF : wf.cell? ⟨w8.heap.size, 0, none⟩ = some (.int .i64 (m : Int)) := by
                  rw [(HUZ.out _ (UD.out.trans uf1)).2.2.2.2.cell]
                  exact HS0.out
                have hsE : (wf.setCell ⟨w4.heap.size, i, none⟩ (.slice A3 n3 c3)).cell? ⟨w8.heap.size, 0, none⟩ = some (.int .i64 (m : Int)) := by
                  rw [(HUZ.out _ U2.out).2.2.2.2.cell]
                  exact HS0.out
                have HSD := Lib.hid hsD
                have HSZ := Lib.hid hsZ
                have HSFE := Lib.hid (And.intro hsF hsE)
                have HCU := Lib.hid hcu
                have HSL := Lib.hid hsl
                have HNM := Lib.hid hnm
                have HL40 := Lib.hid hl40
                clear hsl hnm hl40 hnext hap hcf hff uf1 hsf uf2 hsD hsZ hsF hsE hzx
                go_wp2
                clear lz hsty lzy lyy eq
                go_loopw [102] (fun j wx => ∃ j' : Nat, j' ≤ l.length ∧ j = .int .i64 (j' : Int) ∧ Hid (wy = wx)) (fun j _ => l.length - (intOf j).toNat)
                case atStart => exact ⟨0, Nat.zero_le _, rfl, Lib.hid rfl⟩
                case round =>
                  obtain ⟨j, hj, rfl, HW⟩ := hrel
                  have hwe := HW.out
                  subst hwe
                  have bl : wy.cell? ⟨w8.heap.size, 0, none⟩ = some (.int .i64 (m : Int)) := HSD.out
                  by_cases hlj : j < l.length
                  · obtain ⟨g3, o3, rfl, _, hcj⟩ := HSL.out.at_ (k := j) (by simpa using hlj)
                    rw [List.getElem_map] at hcj
                    have dn : (l[j] == (m : Int)) = false := by
                      rw [beq_eq_false_iff_ne]
                      intro e
                      exact HNM.out (e ▸ List.getElem_mem hlj)
                    obtain ⟨q, hq⟩ : ∃ q, q = l[j] := ⟨_, rfl⟩
                    rw [← hq] at hcj dn
                    have i5 : (j : Int) < (l.length : Int) := by omega
                    have wj : IntKind.i64.wrap ((j : Int) + 1) = ((j + 1 : Nat) : Int) := by
                      rw [IntKind.wrap_i64]
                      have := HL40.out
                      omega
                    have HLJ := Lib.hid hlj
                    clear hq hlj hcu
                    go_wp2
                    go_roundw
                    case rel => exact ⟨j + 1, HLJ.out, by go_num, Lib.hid trivial⟩
                    case measure => have := HLJ.out; simp [intOf]; omega
                  · obtain rfl : j = l.length := by omega
                    clear hlj
                    go_wp2
                    have hap := HAP.out
                    obtain ⟨hcf, hff⟩ := HCF.out
                    have hsD := HSD.out
                    have hsZ := HSZ.out
                    obtain ⟨hsF, hsE⟩ := HSFE.out
                    have hcD : wy.drew.cell? ⟨w4.heap.size, i, none⟩ = some (.slice A2 l.length c2) := HCU.out
                    have hcZ : (wy.alloc (.cells #[.int .i64 (m : Int)] 3)).cell? ⟨w4.heap.size, i, none⟩ = some (.slice A2 l.length c2) := (World.cell?_alloc_some wy _ _ (by rw [HCU.out]; rfl)).trans HCU.out
                    refine wp_region_held_drew (S := fun w' => w'.cell? ⟨w8.heap.size, 0, none⟩ = some (.int .i64 (m : Int))) (by kernel_rfl) hsD (fun hS => ?_)
                    (refine wpAnyH_take (i := 0) (v := .slice (some ⟨w4.heap.size, 0, none⟩) 40 40) rfl (by kernel_rfl) (by kernel_rfl) (by kernel_rfl) (fun _ _ _ h => h) (Or.inl ⟨by kernel_rfl, fun w hSw => by go_simp⟩) hS ?_)
                    (try simp only [Act.put])
                    (refine wpAnyH_take (i := 1) (v := .int .i64 (i : Int)) rfl (by kernel_rfl) (by kernel_rfl) (by kernel_rfl) (fun _ _ _ h => h) (Or.inl ⟨by kernel_rfl, fun w hSw => by go_simp⟩) hS ?_)
                    (try simp only [Act.put])
                    (refine wpAnyH_take (i := 2) (v := .slice (some ⟨w4.heap.size, 0, none⟩) 40 40) rfl (by kernel_rfl) (by kernel_rfl) (by kernel_rfl) (fun _ _ _ h => h) (Or.inl ⟨by kernel_rfl, fun w hSw => by go_simp⟩) hS ?_)
                    (try simp only [Act.put])
                    (refine wpAnyH_take (i := 3) (v := .int .i64 (i : Int)) rfl (by kernel_rfl) (by kernel_rfl) (by kernel_rfl) (fun _ _ _ h => h) (Or.inl ⟨by kernel_rfl, fun w hSw => by go_simp⟩) hS ?_)
                    (try simp only [Act.put])
                    (refine wpAnyH_take (i := 4) (v := .pointer (some ⟨w4.heap.size, i, none⟩)) rfl (by kernel_rfl) (by kernel_rfl) (by kernel_rfl) (fun _ _ _ h => h) (Or.inl ⟨by kernel_rfl, fun w hSw => by go_simp⟩) hS ?_)
                    (try simp only [Act.put])
                    (refine wpAnyH_take (i := 6) (v := .pointer (some ⟨w8.heap.size, 0, none⟩)) rfl (by kernel_rfl) (by kernel_rfl) (by kernel_rfl) (fun _ _ _ h => h) (Or.inl ⟨by kernel_rfl, fun w hSw => by go_simp⟩) hS ?_)
                    (try simp only [Act.put])
                    (refine wpAnyH_take (i := 7) (v := .int .i64 (m : Int)) rfl (by kernel_rfl) (by kernel_rfl) (by kernel_rfl) (fun _ _ _ h => h) (Or.inl ⟨by kernel_rfl, fun w hSw => by have hc := hSw; go_simp⟩) hS ?_)
                    (try simp only [Act.put])
                    refine wpAnyH_ready (rs := [5, 8]) (by decide +kernel) (by simp) (AllReadyH.cons rfl (fun K hK => ?_) (AllReadyH.cons rfl (fun K hK => ?_) AllReadyH.nil))
                    all_goals go_simp
                    · refine hK.out _ _ (hsD) (fun hS => ?_)
                      clear hK K
                      (try simp only [Act.put])
                      refine wpAnyH_ready (rs := [8]) (by decide +kernel) (by simp) (AllReadyH.cons rfl (fun K hK => ?_) AllReadyH.nil)
                      go_simp
                      refine hK.out _ _ (hsZ) (fun hS => ?_)
                      clear hK K
                      (try simp only [Act.put])
                      refine wpAnyH_ready (rs := [9]) (by decide +kernel) (by simp) (AllReadyH.cons rfl (fun K hK => ?_) AllReadyH.nil)
                      go_simp
                      refine hK.out _ _ (hsF) (fun hS => ?_)
                      clear hK K
                      (try simp only [Act.put])
                      (refine wpAnyH_take (i := 10) (v := .pointer (some ⟨w4.heap.size, i, none⟩)) rfl (by kernel_rfl) (by kernel_rfl) (by kernel_rfl) (fun _ _ _ h => h) (Or.inl ⟨by kernel_rfl, fun w hSw => by go_simp⟩) hS ?_)
                      (try simp only [Act.put])
                      refine wpAnyH_ready (rs := [11]) (by decide +kernel) (by simp) (AllReadyH.cons rfl (fun K hK => ?_) AllReadyH.nil)
                      go_simp
                      refine hK.out _ _ (hsE) (fun hS => ?_)
                      clear hK K
                      (try simp only [Act.put])
                      refine wpAnyH_done (by kernel_rfl) ?_ _
                      go_wp2
                      go_roundw
                      case rel => exact ⟨i + 1, HLI.out, by go_num, O2, U2⟩
                      case measure => have := HLI.out; simp [intOf]; omega
                    · refine hK.out _ _ (hsZ) (fun hS => ?_)
                      clear hK K
                      (try simp only [Act.put])
                      refine wpAnyH_ready (rs := [5]) (by decide +kernel) (by simp) (AllReadyH.cons rfl (fun K hK => ?_) AllReadyH.nil)
                      go_simp
                      refine hK.out _ _ (hsZ) (fun hS => ?_)
                      clear hK K
                      (try simp only [Act.put])
                      refine wpAnyH_ready (rs := [9]) (by decide +kernel) (by simp) (AllReadyH.cons rfl (fun K hK => ?_) AllReadyH.nil)
                      go_simp
                      refine hK.out _ _ (hsF) (fun hS => ?_)
                      clear hK K
                      (try simp only [Act.put])
                      (refine wpAnyH_take (i := 10) (v := .pointer (some ⟨w4.heap.size, i, none⟩)) rfl (by kernel_rfl) (by kernel_rfl) (by kernel_rfl) (fun _ _ _ h => h) (Or.inl ⟨by kernel_rfl, fun w hSw => by go_simp⟩) hS ?_)
                      (try simp only [Act.put])
                      refine wpAnyH_ready (rs := [11]) (by decide +kernel) (by simp) (AllReadyH.cons rfl (fun K hK => ?_) AllReadyH.nil)
                      go_simp
                      refine hK.out _ _ (hsE) (fun hS => ?_)
                      clear hK K
                      (try simp only [Act.put])
                      refine wpAnyH_done (by kernel_rfl) ?_ _
                      go_wp2
                      go_roundw
                      case rel => exact ⟨i + 1, HLI.out, by go_num, O2, U2⟩
                      case measure => have := HLI.out; simp [intOf]; omega
              · have eq : ∀ w, (eqKey (.agg (keyV z.root z.high)) (.agg (keyV y.root y.high))).run Tryd.prog w = .ok false w := eq_keyx z y false (by simp [hzy])
                have O2 := Lib.hid OY.out.skip
                clear hzy
                go_wp2
                go_roundw
                case rel => exact ⟨i + 1, HLI.out, by go_num, O2, FY⟩
                case measure => have := HLI.out; simp [intOf]; omega
            · obtain rfl : i = ks.length := by omega
              clear hli
              have UZ := Lib.hid (HUZ.out _ HU.out)
              go_wp2
              go_roundw
              case rel => exact ⟨k + 1, ks, HLE.out, by go_num, Lib.hid HO.out.done, Lib.hid UZ.out.1, Lib.hid UZ.out.2.1⟩
              case measure => have := HLE.out; simp [intOf]; omega
      have e2 : (x.kind == 2) = false := by simp [q2]
      by_cases q3 : x.kind = 3
      · have e3 : (x.kind == 3) = true := by simp [q3]
        have HSK := Lib.hid (on_skip HO7.out y x.n)
        clear q0 q1 q2 q3
        go_wp2_with (go_at_call 15; (with_reducible refine (HSK.out).mono ?_); rintro e w8 ⟨⟨v, rfl⟩, h8, f8⟩; have H8 := Lib.hid h8; have F8 := Lib.hid f8; clear h8 f8)
        go_roundw
        case rel => exact ⟨k + 1, ks, HLE.out, by go_num, H8, Lib.hid (HBK.out _ F8.out).1, Lib.hid (HBK.out _ F8.out).2⟩
        case measure => have := HLE.out; simp [intOf]; omega
      have e3 : (x.kind == 3) = false := by simp [q3]
      by_cases q4 : x.kind = 4
      · have e4 : (x.kind == 4) = true := by simp [q4]
        clear q0 q1 q2 q3 q4
        rcases on_retire HO7.out y with hrt | hrt
        · have HRT := Lib.hid hrt
          clear hrt
          go_wp2_with (go_at_call 16; (with_reducible refine (HRT.out).mono ?_); rintro e w8 ⟨rfl, h8, f8⟩; have H8 := Lib.hid h8; have F8 := Lib.hid (HBK.out _ f8); clear h8 f8)
          go_roundw
          case rel => exact ⟨k + 1, ks, HLE.out, by go_num, H8, Lib.hid F8.out.1, Lib.hid F8.out.2⟩
          case measure => have := HLE.out; simp [intOf]; omega
        · have HRT := Lib.hid hrt
          clear hrt
          go_upto_region 41 with (go_at_call 16; (with_reducible refine (HRT.out).mono ?_); rintro e w8 ⟨rfl, h8, f8⟩; have H8 := Lib.hid h8; have F8 := Lib.hid (HBK.out _ f8); have HY8 := Lib.hid (f8.box HY7.out (by decide) (by decide)); clear h8 f8)
          have HKQ : Hid (ks.length ≤ 39) := Lib.hid (by have := HO7.out.few; have := HK40.out; omega)
          have HUZ : Hid (∀ wx, UFrame w3.heap.size w8 wx → Below w.heap.size w wx ∧ w4.heap.size ≤ wx.heap.size ∧ w3.heap.size ≤ wx.heap.size ∧ Box wx w6.heap.size 34 (keyV y.root y.high)) := Lib.hid (fun wx f => ⟨F8.out.1.trans ((f.below (Nat.le_trans HB4.out F8.out.2)).mono HBB.out), Nat.le_trans F8.out.2 f.size, Nat.le_trans HB4.out (Nat.le_trans F8.out.2 f.size), f.box HY8.out (by decide) (by decide)⟩)
          clear ly b3 b0
          go_loopw [138] (fun i wx => ∃ i' : Nat, i' ≤ ks.length ∧ i = .int .i64 (i' : Int) ∧ Hid (RtrW w3.heap.size rb mb w4.heap.size k (.slice A' ks.length c') ks y i' wx) ∧ Hid (UFrame w3.heap.size w8 wx)) (fun i _ => ks.length - (intOf i).toNat)
          case atStart => exact ⟨0, Nat.zero_le _, rfl, H8, Lib.hid (UFrame.refl _ _)⟩
          case round =>
            clear H8
            obtain ⟨i, hi, rfl, HO, HU⟩ := hrel
            by_cases hli : i < ks.length
            · skip
              have HLI := Lib.hid hli
              have wi : IntKind.i64.wrap ((i : Int) + 1) = ((i + 1 : Nat) : Int) := by
                rw [IntKind.wrap_i64]
                have := HKQ.out
                omega
              have i3 : (i : Int) < (ks.length : Int) := by omega
              have i4 : (i : Int) < 40 := by have := HKQ.out; omega
              have i4' : i < 40 := by have := HKQ.out; omega
              obtain ⟨g2, o2, rfl, _, hr2⟩ := Sees.flat KeyX.cells 33 (by decide) KeyX.cells_len HO.out.keys hli
              obtain ⟨z, hz⟩ : ∃ z, z = ks[i]'hli := ⟨_, rfl⟩
              have lz := range_key (hr2 i hli)
              rw [← hz] at lz
              have HZE : Hid (∀ h : i < ks.length, ks[i]'h = z) := Lib.hid (fun _ => hz.symm)
              clear hz hr2
              obtain ⟨wy, hst0, hby, hgy⟩ := laid_key wr z.len z.high
              have hsty : (stKey (.pointer (some ⟨wr.heap.size, 0, none⟩)) z.enc).run Tryd.prog (wr.alloc (.cells #[.int .u8 0, .int .u8 0, .int .u8 0, .int .u8 0, .int .u8 0, .int .u8 0, .int .u8 0, .int .u8 0, .int .u8 0, .int .u8 0, .int .u8 0, .int .u8 0, .int .u8 0, .int .u8 0, .int .u8 0, .int .u8 0, .int .u8 0, .int .u8 0, .int .u8 0, .int .u8 0, .int .u8 0, .int .u8 0, .int .u8 0, .int .u8 0, .int .u8 0, .int .u8 0, .int .u8 0, .int .u8 0, .int .u8 0, .int .u8 0, .int .u8 0, .int .u8 0, .int .i64 0] 34)) = .ok () wy := hst0
              have GY : Hid (Below wr.heap.size wr wy) := Lib.hid ⟨hgy.os, hgy.tape, hgy.output, hgy.size, fun q hq => hgy.block q hq (by simp)⟩
              have FY := Lib.hid (HU.out.trans (UFrame.of_below GY.out))
              have UZ := Lib.hid (HUZ.out _ FY.out)
              have OY := Lib.hid (HO.out.call GY.out)
              have lzy := hby.load_key z.len
              have lyy := UZ.out.2.2.2.load_key y.len
              clear hst0 hby hgy hli
              by_cases hzy : z = y
              · have eq : ∀ w, (eqKey (.agg (keyV z.root z.high)) (.agg (keyV y.root y.high))).run Tryd.prog w = .ok true w := eq_keyx z y true (by simp [hzy])
                obtain ⟨⟨v0, hc0⟩, hf0, hO2, hU2⟩ := OY.out.clear HK40.out (i := i) HLI.out
                have O2 := Lib.hid hO2
                have U2 := Lib.hid (FY.out.trans hU2)
                clear hO2 hU2 hzy
                go_wp2
                go_roundw
                case rel => exact ⟨i + 1, HLI.out, by go_num, O2, U2⟩
                case measure => have := HLI.out; simp [intOf]; omega
              · have eq : ∀ w, (eqKey (.agg (keyV z.root z.high)) (.agg (keyV y.root y.high))).run Tryd.prog w = .ok false w := eq_keyx z y false (by simp [hzy])
                have O2 := Lib.hid (OY.out.skip HLI.out (fun e => hzy ((HZE.out _).symm.trans e)))
                clear hzy
                go_wp2
                go_roundw
                case rel => exact ⟨i + 1, HLI.out, by go_num, O2, FY⟩
                case measure => have := HLI.out; simp [intOf]; omega
            · obtain rfl : i = ks.length := by omega
              clear hli
              have UZ := Lib.hid (HUZ.out _ HU.out)
              go_wp2
              go_roundw
              case rel => exact ⟨k + 1, ks, HLE.out, by go_num, Lib.hid HO.out.done, Lib.hid UZ.out.1, Lib.hid UZ.out.2.1⟩
              case measure => have := HLE.out; simp [intOf]; omega
      have e4 : (x.kind == 4) = false := by simp [q4]
      clear q0 q1 q2 q3 q4
      go_wp2
      go_roundw
      case rel => exact ⟨k + 1, ks, HLE.out, by go_num, Lib.hid HO7.out.up, HF7, HZ7⟩
      case measure => have := HLE.out; simp [intOf]; omega
    · obtain rfl : k = cs.length := by omega
      clear hlt
      go_wp2
      go_ret
      exact ⟨rfl, HF.out⟩
set_option maxRecDepth 100000 in
theorem once_walk (cs : List CallX) (A : Option Addr) (c : Nat) (hn : cs.length ≤ maxLen) (w : World) (hS : Cals w w.heap.size A cs) (hR : Roots w) : Calls Tryd.prog 3 #[.slice A cs.length c] w fun e w' => e = .returned (.bool true) ∧ Below w.heap.size w w' := by
  by_cases hg : greatB cs = true
  · exact once_great cs A c hn hg w hS hR
  · have hg' : greatB cs = false := by simpa using hg
    have hl : cs.length ≤ 30 := by
      unfold greatB at hg'
      rw [Bool.or_eq_false_iff] at hg'
      simpa using hg'.2
    exact once_main cs A c hl hg' w hS hR
end Go.Proofs.YtpldnjlfmagccaaDoor
