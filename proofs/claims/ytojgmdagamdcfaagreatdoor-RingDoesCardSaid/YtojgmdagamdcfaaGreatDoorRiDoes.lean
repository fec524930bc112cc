/-
  RingDoes: in every script each answer, how many are left, and the keys are the document's; a nil ring.
-/
import Derived.Test.YtojgmdagamdcfaaGreatDoorDC
import Derived.Deep.DeepCutAuto
import Derived.Deep.CutBlock
import Derived.Deep.RegionHeld3
namespace Go.Proofs.YtojgmdagamdcfaaGreatDoor
open Go.RowKit Go.Maps

attribute [local go_sem ↓] ldKey_def stKey_def ldCall_def stCall_def ldDigest_def ldSig_def eqKey_def apAll_def bsKeys_def

set_option maxRecDepth 100000 in
theorem eq_keyx6 (x y : KeyX) (b : Bool) (h : b = true ↔ x = y) (w : World) : (eqKey x.enc y.enc).run Tryz.prog w = .ok b w := by
  have he := eq_key x.root y.root x.high y.high x.len y.len w
  have e : (decide (x.root = y.root) && decide (x.high = y.high)) = b := by
    rw [Bool.eq_iff_iff, h]
    simp only [Bool.and_eq_true, decide_eq_true_eq]
    exact ⟨fun hh => KeyX.same hh.1 hh.2, fun hh => by rw [hh]; exact ⟨rfl, rfl⟩⟩
  rw [e] at he
  exact he
set_option maxRecDepth 100000 in
theorem does_great (cs : List CallX) (A : Option Addr) (c : Nat) (hn : cs.length ≤ maxLen) (hg : greatB cs = true) (w : World) (hS : Cals w w.heap.size A cs) (hR : Roots w) : Calls Tryz.prog 3 #[.slice A cs.length c] w fun e w' => e = .returned (.bool true) ∧ Below w.heap.size w w' := by
  have HA := Lib.hid (rialive_any w hR)
  have HG : Hid (∀ w', Below w.heap.size w w' → Calls Tryz.prog 5 #[.slice A cs.length c] w' fun e w'' => e = .returned (.bool true) ∧ Below w'.heap.size w' w'') := Lib.hid (fun w' hb => by
    have h := great_any6 cs A c hn w' ((hS.below hb).more hb.size)
    rw [hg] at h
    exact h)
  clear hg hS hR
  go_enter Tryz.func3, Tryz.ntmps3
  go_wp2_with (first
    | (go_at_call 4; (with_reducible refine (HA.out).mono ?_); rintro e w2 ⟨rfl, hb⟩; have F2 := Lib.hid hb; have HG2 := Lib.hid (HG.out _ hb); clear hb)
    | (go_at_call 5; (with_reducible refine (HG2.out).mono ?_); rintro e w3 ⟨rfl, hb⟩; have F3 := Lib.hid (F2.out.trans (hb.mono F2.out.size)); clear hb))
  go_ret
  exact ⟨rfl, F3.out⟩

set_option maxRecDepth 100000 in
set_option maxHeartbeats 40000000 in
theorem does_main (cs : List CallX) (A : Option Addr) (c : Nat) (hn : cs.length ≤ 30) (hg : greatB cs = false) (w : World) (hS : Cals w w.heap.size A cs) (hR : Roots w) : Calls Tryz.prog 3 #[.slice A cs.length c] w fun e w' => e = .returned (.bool true) ∧ Below w.heap.size w w' := by
  have HA := Lib.hid (rialive_any w hR)
  have HG : Hid (∀ w', Below w.heap.size w w' → Calls Tryz.prog 5 #[.slice A cs.length c] w' fun e w'' => e = .returned (.bool false) ∧ Below w'.heap.size w' w'') := Lib.hid (fun w' hb => by
    have h := great_any6 cs A c (Nat.le_trans hn (by simp [maxLen])) w' ((hS.below hb).more hb.size)
    rw [hg] at h
    exact h)
  have HBAD : Hid (∀ i (hi : i < cs.length), (cs[i]'hi).kind = 0 → ¬ (2 < (cs[i]'hi).n ∧ (cs[i]'hi).n ≤ 6)) := Lib.hid (fun i hi h0 h1 => by
    unfold greatB at hg
    rw [Bool.or_eq_false_iff] at hg
    have h2 := hg.1
    rw [List.any_eq_false] at h2
    exact h2 _ (List.getElem_mem hi) (by simp [CallX.bad, h0, h1.1, h1.2]))
  have HS := Lib.hid hS
  have HR := Lib.hid hR
  have HN := Lib.hid hn
  clear hg hS hR hn
  go_enter Tryz.func3, Tryz.ntmps3
  go_upto_region 6 with (first
    | (go_at_call 4; (with_reducible refine (HA.out).mono ?_); rintro e w2 ⟨rfl, hb⟩; have F2 := Lib.hid hb; have HG2 := Lib.hid (HG.out _ hb); clear hb)
    | (go_at_call 5; (with_reducible refine (HG2.out).mono ?_); rintro e w3 ⟨rfl, hb⟩; have F3 := Lib.hid (F2.out.trans (hb.mono F2.out.size)); clear hb)
    | (go_at_call 6; (with_reducible refine (ring_new w3).mono ?_); rintro e w4 ⟨rb, mb, rfl, hr, hb⟩; have F4 := Lib.hid (F3.out.trans (hb.mono F3.out.size)); have HR4 := Lib.hid hr; have HB4 := Lib.hid hb.size; clear hb hr))
  have HO0 := Lib.hid (DoW.start HR4.out F4.out F3.out.size HB4.out)
  have HBL : Hid (1 < w3.heap.size) := Lib.hid (HR.out.of_below F3.out).1
  have HRW : Hid (∀ wr, Below w.heap.size w wr → Roots wr ∧ Cals wr w.heap.size A cs) := Lib.hid (fun wr hb => ⟨HR.out.of_below hb, HS.out.below hb⟩)
  clear HA HG HG2 HR4 HR HS F2 F3 F4
  go_wp2
  clear HB4
  generalize w4.heap.size = db at *
  go_loopw [5, 41] (fun lv i wr => ∃ (k : Nat) (ks : List KeyX), k ≤ cs.length ∧ i = .int .i64 (k : Int) ∧ Hid (DoW w3.heap.size rb mb db k lv ks w wr)) (fun _ i _ => cs.length - (intOf i).toNat)
  case atStart => exact ⟨0, [], Nat.zero_le _, rfl, HO0⟩
  case round =>
    clear HO0
    obtain ⟨k, ks, hk, rfl, HO⟩ := hrel
    by_cases hlt : k < cs.length
    · have HLE := Lib.hid hlt
      have HK30 : Hid (k < 30) := Lib.hid (by have := HN.out; omega)
      have wk : IntKind.i64.wrap ((k : Int) + 1) = ((k + 1 : Nat) : Int) := by
        rw [IntKind.wrap_i64]
        have := HN.out
        omega
      have i1 : (k : Int) < (cs.length : Int) := by omega
      obtain ⟨_, hcals⟩ := HRW.out wr HO.out.far
      obtain ⟨g, oo, rfl, _, hr⟩ := Sees.flat CallX.cells 36 (by decide) CallX.cells_len hcals hlt
      obtain ⟨x, hx⟩ : ∃ x, x = cs[k]'hlt := ⟨_, rfl⟩
      have HBX : Hid (x.kind = 0 → ¬ (2 < x.n ∧ x.n ≤ 6)) := Lib.hid (by
        rw [hx]
        exact HBAD.out k hlt)
      have lk := range_call (hr k hlt)
      rw [← hx] at lk
      clear hx hr hcals hlt hk
      obtain ⟨w5, hst0, hb5, hg5⟩ := laid_call wr x
      have hst : (stCall (.pointer (some ⟨wr.heap.size, 0, none⟩)) x.enc).run Tryz.prog (wr.alloc (.cells #[.int .i64 0, .int .u8 0, .int .i64 0, .int .i64 0, .int .u8 0, .int .u8 0, .int .u8 0, .int .u8 0, .int .u8 0, .int .u8 0, .int .u8 0, .int .u8 0, .int .u8 0, .int .u8 0, .int .u8 0, .int .u8 0, .int .u8 0, .int .u8 0, .int .u8 0, .int .u8 0, .int .u8 0, .int .u8 0, .int .u8 0, .int .u8 0, .int .u8 0, .int .u8 0, .int .u8 0, .int .u8 0, .int .u8 0, .int .u8 0, .int .u8 0, .int .u8 0, .int .u8 0, .int .u8 0, .int .u8 0, .int .u8 0] 35)) = .ok () w5 := hst0
      have hB5 : Below wr.heap.size wr w5 := ⟨hg5.os, hg5.tape, hg5.output, hg5.size, fun i hi => hg5.block i hi (by simp)⟩
      have HO5 := Lib.hid (HO.out.call hB5)
      have HX5 := Lib.hid hb5
      obtain ⟨A', c', rfl, hks⟩ := HO5.out.sees
      have HKY := Lib.hid (key_any6 ks A' c' x.key w5 hks)
      have b2 : w5.cell? ⟨wr.heap.size, 2, none⟩ = some (.int .i64 x.key) := hb5.cell 2
      have HPW : Hid (wr.heap.size < w5.heap.size) := Lib.hid hb5.lt
      clear hst0 hb5 hg5 hB5 hks HO
      go_upto_block 2 with (go_at_call 7; (with_reducible refine (HKY.out).mono ?_); rintro e w6 ⟨⟨y, rfl⟩, hb⟩; have H6 := Lib.hid hb; clear hb; obtain ⟨w7, hst0, hb7, hg7⟩ := laid_key w6 y.len y.high; have hst7 : (stKey (.pointer (some ⟨w6.heap.size, 0, none⟩)) y.enc).run Tryz.prog (w6.alloc (.cells #[.int .u8 0, .int .u8 0, .int .u8 0, .int .u8 0, .int .u8 0, .int .u8 0, .int .u8 0, .int .u8 0, .int .u8 0, .int .u8 0, .int .u8 0, .int .u8 0, .int .u8 0, .int .u8 0, .int .u8 0, .int .u8 0, .int .u8 0, .int .u8 0, .int .u8 0, .int .u8 0, .int .u8 0, .int .u8 0, .int .u8 0, .int .u8 0, .int .u8 0, .int .u8 0, .int .u8 0, .int .u8 0, .int .u8 0, .int .u8 0, .int .u8 0, .int .u8 0, .int .i64 0] 37)) = .ok () w7 := hst0; have G7 : Hid (Below w5.heap.size w5 w7) := Lib.hid (H6.out.trans ((show Below w6.heap.size w6 w7 from ⟨hg7.os, hg7.tape, hg7.output, hg7.size, fun i hi => hg7.block i hi (by simp)⟩).mono H6.out.size)); have HX7 := Lib.hid (HX5.out.below G7.out HPW.out); have HY7 := Lib.hid hb7; clear hst0 hb7 hg7; have b0 : w7.cell? ⟨wr.heap.size, 0, none⟩ = some (.int .i64 x.kind) := HX7.out.cell 0)
      have HO7 := Lib.hid (HO5.out.call G7.out)
      have HAP : Hid (∀ g, (Value.slice A' ks.length c').ownBlock = some g → g ≠ w6.heap.size) := Lib.hid (fun g e => by
        have := (own_box6 (HO5.out.call H6.out).list e).2.1
        omega)
      clear HO5 HPW HKY H6 G7 b2 lk hst hst7 HX5
      generalize wr.heap.size = pc at *
      generalize w6.heap.size = kb at *
      have S7 := Lib.hid (HO7.out.side HX7.out HY7.out)
      have T7 := Lib.hid HO7.out.two
      have HFW := Lib.hid HO7.out.few
      have HRT := Lib.hid (HRW.out w7 HO7.out.far).1
      clear HO7 HX7 HY7
      generalize hLV : Value.slice A' ks.length c' = lv at *
      have HLV := Lib.hid hLV
      clear hLV
      go_cut [5, 9] (fun l ok wx => ok = .bool true ∧ ∃ ks2 : List KeyX, Hid (TwoW w3.heap.size rb mb db (k + 1) wx) ∧ Hid (SideW w3.heap.size l ks2 pc x kb y w wx) ∧ Hid (ks2.length ≤ k + 1))
      case first =>
        by_cases q0 : x.kind = 0
        · have e0 : (x.kind == 0) = true := by simp [q0]
          have hbx := HBX.out q0
          clear q0
          obtain ⟨z, ec, M, hbo⟩ := two_add T7.out x.seed x.n hbx (by have := HK30.out; omega) HRT.out S7.out.high
          have HAD : Hid (Calls Tryz.prog 8 #[.pointer (some ⟨rb, 0, none⟩), .agg #[.int .u8 (x.seed.toNat : Int), .int .u8 0, .int .u8 0, .int .u8 0, .int .u8 0, .int .u8 0, .int .u8 0, .int .u8 0, .int .u8 0, .int .u8 0, .int .u8 0, .int .u8 0, .int .u8 0, .int .u8 0, .int .u8 0, .int .u8 0, .int .u8 0, .int .u8 0, .int .u8 0, .int .u8 0, .int .u8 0, .int .u8 0, .int .u8 0, .int .u8 0, .int .u8 0, .int .u8 0, .int .u8 0, .int .u8 0, .int .u8 0, .int .u8 0, .int .u8 0, .int .u8 0], .int .i64 x.n] w7 fun e w' => e = .returned (.tuple #[z.enc, .int .i64 ec]) ∧ RFrame w3.heap.size w7 w' ∧ M w') := Lib.hid hbo.one
          have HAE : Hid (∀ w', M w' → w3.heap.size ≤ w'.heap.size → Calls Tryz.prog 9 #[.pointer (some ⟨db, 0, none⟩), .agg #[.int .u8 (x.seed.toNat : Int), .int .u8 0, .int .u8 0, .int .u8 0, .int .u8 0, .int .u8 0, .int .u8 0, .int .u8 0, .int .u8 0, .int .u8 0, .int .u8 0, .int .u8 0, .int .u8 0, .int .u8 0, .int .u8 0, .int .u8 0, .int .u8 0, .int .u8 0, .int .u8 0, .int .u8 0, .int .u8 0, .int .u8 0, .int .u8 0, .int .u8 0, .int .u8 0, .int .u8 0, .int .u8 0, .int .u8 0, .int .u8 0, .int .u8 0, .int .u8 0, .int .u8 0], .int .i64 x.n] w' fun e w'' => e = .returned (.tuple #[z.enc, .int .i64 ec]) ∧ DFrame w3.heap.size w' w'' ∧ TwoW w3.heap.size rb mb db (k + 1) w'') := Lib.hid hbo.two
          have HAK := Lib.hid hbo.keep
          clear hbo hbx
          have b1 : w7.cell? ⟨pc, 1, none⟩ = some (.int .u8 (x.seed.toNat : Int)) := S7.out.call.cell 1
          have b3 : w7.cell? ⟨pc, 3, none⟩ = some (.int .i64 x.n) := S7.out.call.cell 3
          go_upto_region 15 with (go_at_call 8; (with_reducible refine (HAD.out).mono ?_); rintro e w8 ⟨rfl, f8, m8⟩; have M8 := Lib.hid m8; have S8 := Lib.hid (S7.out.ring f8); clear f8 m8; obtain ⟨w9, hst0, hbw9, hgw9⟩ := laid_key w8 z.len z.high; have hstw9 : (stKey (.pointer (some ⟨w8.heap.size, 0, none⟩)) z.enc).run Tryz.prog (w8.alloc (.cells #[.int .u8 0, .int .u8 0, .int .u8 0, .int .u8 0, .int .u8 0, .int .u8 0, .int .u8 0, .int .u8 0, .int .u8 0, .int .u8 0, .int .u8 0, .int .u8 0, .int .u8 0, .int .u8 0, .int .u8 0, .int .u8 0, .int .u8 0, .int .u8 0, .int .u8 0, .int .u8 0, .int .u8 0, .int .u8 0, .int .u8 0, .int .u8 0, .int .u8 0, .int .u8 0, .int .u8 0, .int .u8 0, .int .u8 0, .int .u8 0, .int .u8 0, .int .u8 0, .int .i64 0] 37)) = .ok () w9 := hst0; have Gw9 := Lib.hid (show Below w8.heap.size w8 w9 from ⟨hgw9.os, hgw9.tape, hgw9.output, hgw9.size, fun i hi => hgw9.block i hi (by simp)⟩); have HY9 := Lib.hid hbw9; clear hst0 hbw9 hgw9)
          have S9 := Lib.hid (S8.out.below Gw9.out)
          have HAE9 := Lib.hid (HAE.out _ (HAK.out _ _ M8.out Gw9.out) S9.out.high)
          clear b1 b3 b0 HAD HAE HAK hstw9
          have b1 : w9.cell? ⟨pc, 1, none⟩ = some (.int .u8 (x.seed.toNat : Int)) := S9.out.call.cell 1
          have b3 : w9.cell? ⟨pc, 3, none⟩ = some (.int .i64 x.n) := S9.out.call.cell 3
          generalize w8.heap.size = za at *
          go_upto_region 16 with (go_at_call 9; (with_reducible refine (HAE9.out).mono ?_); rintro e w10 ⟨rfl, f10, t10⟩; have T10 := Lib.hid t10; have S10 := Lib.hid (S9.out.doc f10); have HY10 := Lib.hid (f10.box HY9.out (by decide) (by decide) (by decide)); clear f10 t10; obtain ⟨w11, hst0, hbw11, hgw11⟩ := laid_key w10 z.len z.high; have hstw11 : (stKey (.pointer (some ⟨w10.heap.size, 0, none⟩)) z.enc).run Tryz.prog (w10.alloc (.cells #[.int .u8 0, .int .u8 0, .int .u8 0, .int .u8 0, .int .u8 0, .int .u8 0, .int .u8 0, .int .u8 0, .int .u8 0, .int .u8 0, .int .u8 0, .int .u8 0, .int .u8 0, .int .u8 0, .int .u8 0, .int .u8 0, .int .u8 0, .int .u8 0, .int .u8 0, .int .u8 0, .int .u8 0, .int .u8 0, .int .u8 0, .int .u8 0, .int .u8 0, .int .u8 0, .int .u8 0, .int .u8 0, .int .u8 0, .int .u8 0, .int .u8 0, .int .u8 0, .int .i64 0] 37)) = .ok () w11 := hst0; have Gw11 := Lib.hid (show Below w10.heap.size w10 w11 from ⟨hgw11.os, hgw11.tape, hgw11.output, hgw11.size, fun i hi => hgw11.block i hi (by simp)⟩); have HZ11 := Lib.hid hbw11; clear hst0 hbw11 hgw11)
          have S11 := Lib.hid (S10.out.below Gw11.out)
          have T11 := Lib.hid (T10.out.call Gw11.out)
          have HY11 := Lib.hid (HY10.out.below Gw11.out HY10.out.lt)
          clear b1 b3 HAE9 hstw11
          generalize w10.heap.size = zb at *
          have l1 := HY11.out.load_key z.len
          have l2 := HZ11.out.load_key z.len
          have eq : ∀ w, (eqKey (.agg (keyV z.root z.high)) (.agg (keyV z.root z.high))).run Tryz.prog w = .ok true w := eq_keyx6 z z true (by simp)
          by_cases hc : ec = 0
          · have ec0 : (ec == 0) = true := by simp [hc]
            clear hc
            have hbs : (bsKeys 1 #[(0, .agg (keyV z.root z.high))]).run Tryz.prog w11 = .ok (.slice (some ⟨w11.heap.size, 0, none⟩) 1 1) (w11.alloc (.cells z.cells.toArray 37)) := build_one_key z.len z.high w11
            obtain ⟨v, w12, hap, ht, hs⟩ := S11.out.append T11.out (by have := HFW.out; have := HK30.out; omega) z HAP.out
            have T12 := Lib.hid ht
            have S12 := Lib.hid hs
            clear ht hs
            go_wp2
            go_meet
            exact ⟨rfl, ks ++ [z], T12, S12, Lib.hid (by have := HFW.out; simp; omega)⟩
          · have ec0 : (ec == 0) = false := by simp [hc]
            clear hc
            go_wp2
            go_meet
            exact ⟨rfl, ks, T11, S11, Lib.hid (by have := HFW.out; omega)⟩
        have e0 : (x.kind == 0) = false := by simp [q0]
        have ly := S7.out.key.load_key y.len
        by_cases q1 : x.kind = 1
        · have e1 : (x.kind == 1) = true := by simp [q1]
          clear q0 q1
          obtain ⟨a, ec, M, hbo⟩ := two_take T7.out y (by have := HK30.out; omega)
          unfold KeyX.enc at hbo
          have HAD := Lib.hid hbo.one
          have HAE := Lib.hid hbo.two
          clear hbo
          go_wp2_with (first | (go_at_call 10; (with_reducible refine (HAD.out).mono ?_); rintro e w8 ⟨rfl, f8, m8⟩; have S8 := Lib.hid (S7.out.ring f8); have HAE8 := Lib.hid (HAE.out _ m8 S8.out.high); have ly8 := S8.out.key.load_key y.len; clear f8 m8) | (go_at_call 11; (with_reducible refine (HAE8.out).mono ?_); rintro e w9 ⟨rfl, f9, t9⟩; have T9 := Lib.hid t9; have S9 := Lib.hid (S8.out.doc f9); clear f9 t9))
          go_meet
          exact ⟨rfl, ks, T9, S9, Lib.hid (by have := HFW.out; omega)⟩
        have e1 : (x.kind == 1) = false := by simp [q1]
        have b3 : w7.cell? ⟨pc, 3, none⟩ = some (.int .i64 x.n) := S7.out.call.cell 3
        by_cases q2 : x.kind = 2
        · have e2 : (x.kind == 2) = true := by simp [q2]
          clear q0 q1 q2
          obtain ⟨ec, M, hbo⟩ := two_sign T7.out y x.n x.d x.len (by have := HK30.out; omega) HRT.out S7.out.high HBL.out
          unfold KeyX.enc at hbo
          have HAD := Lib.hid hbo.one
          have HAE := Lib.hid hbo.two
          have HAK := Lib.hid hbo.keep
          clear hbo
          have ld : (ldDigest (.pointer (some ⟨pc, 4, none⟩))).run Tryz.prog w7 = .ok (.agg (x.d.map bv).toArray) w7 := range_load (call_d6 S7.out.call) x.len
          go_upto_region 25 with (first | (go_at_call 12; (with_reducible refine (HAD.out).mono ?_); rintro e w8 ⟨sv, rfl, hf8, f8, m8⟩; have HF8 := Lib.hid hf8; have M8 := Lib.hid m8; have S8 := Lib.hid (S7.out.ring f8); clear f8 m8 hf8) | (((with_reducible show wpList _ _ _ ((⟨none, Op.store _ (.tmp 18) (.tmp 119), _, _, _, _⟩ : Oper) :: _) _ _)); refine wpList_store_box rfl 48 (.tmp 18) (.tmp 119) rfl w8.heap.size sv rfl rfl 48 zsig (Box.made w8 _ _) HF8.out.1 HF8.out.2.1 HF8.out.2.2.1 ?_; intro w9 hbw9 hgw9; have HB9 := Lib.hid hbw9; have Gw9 : Hid (Below w8.heap.size w8 w9) := Lib.hid (((Below.refl w8.heap.size w8).alloc (Nat.le_refl _) (.cells zsig 48)).trans (below_only hgw9 (Nat.le_refl _) (by simp))); clear hbw9 hgw9))
          have S9 := Lib.hid (S8.out.below Gw9.out)
          have HAE9 := Lib.hid (HAE.out _ _ (HAK.out _ _ _ M8.out Gw9.out) S9.out.high)
          clear b0 b3 ly ld HAD HAE HAK
          have b3 : w9.cell? ⟨pc, 3, none⟩ = some (.int .i64 x.n) := S9.out.call.cell 3
          have ly := S9.out.key.load_key y.len
          have ld : (ldDigest (.pointer (some ⟨pc, 4, none⟩))).run Tryz.prog w9 = .ok (.agg (x.d.map bv).toArray) w9 := range_load (call_d6 S9.out.call) x.len
          generalize w8.heap.size = sa at *
          go_upto_region 26 with (first | (go_at_call 13; (with_reducible refine (HAE9.out).mono ?_); rintro e w10 ⟨sv2, rfl, f10, s10, t10⟩; have T10 := Lib.hid t10; have HSS := Lib.hid s10; have HF10 := Lib.hid s10.facts.2; have S10 := Lib.hid (S9.out.doc f10); have HB10 := Lib.hid (f10.box HB9.out (by decide) (by decide) (by decide)); clear f10 t10 s10) | (((with_reducible show wpList _ _ _ ((⟨none, Op.store _ (.tmp 20) (.tmp 129), _, _, _, _⟩ : Oper) :: _) _ _)); refine wpList_store_box rfl 48 (.tmp 20) (.tmp 129) rfl w10.heap.size sv2 rfl rfl 48 zsig (Box.made w10 _ _) HF10.out.1 HF10.out.2.1 HF10.out.2.2.1 ?_; intro w11 hbw11 hgw11; have HC11 := Lib.hid hbw11; have Gw11 : Hid (Below w10.heap.size w10 w11) := Lib.hid (((Below.refl w10.heap.size w10).alloc (Nat.le_refl _) (.cells zsig 48)).trans (below_only hgw11 (Nat.le_refl _) (by simp))); clear hbw11 hgw11))
          have S11 := Lib.hid (S10.out.below Gw11.out)
          have T11 := Lib.hid (T10.out.call Gw11.out)
          have HB11 := Lib.hid (HB10.out.below Gw11.out HB10.out.lt)
          have HSM := Lib.hid ((HSS.out.call Gw11.out).same)
          clear b3 ly ld HAE9
          generalize w10.heap.size = sb at *
          have l1 := HB11.out.load_sig HF8.out.2.2.2
          have l2 := HC11.out.load_sig HF10.out.2.2.2
          go_wp2_with (go_at_call 14; (with_reducible refine (HSM.out).mono ?_); rintro e w12 ⟨rfl, b12⟩; have T12 := Lib.hid (T11.out.call b12); have S12 := Lib.hid (S11.out.below b12); clear b12)
          go_meet
          exact ⟨rfl, ks, T12, S12, Lib.hid (by have := HFW.out; omega)⟩
        have e2 : (x.kind == 2) = false := by simp [q2]
        have hundk := key_struct
        have hn1 := key_list y.len y.high
        by_cases q3 : x.kind = 3
        · have e3 : (x.kind == 3) = true := by simp [q3]
          clear q0 q1 q2 q3
          obtain ⟨ec, M, hbo⟩ := two_skip (T7.out.call (Below.refl _ _).drew) y x.n (by have := HK30.out; omega)
          unfold KeyX.enc at hbo
          have HAD := Lib.hid hbo.one
          have HAE := Lib.hid hbo.two
          have S7d := Lib.hid (S7.out.below (Below.refl _ _).drew)
          clear hbo
          go_upto_region 28 with fail
          refine wp_region_held_drew (S := fun w' => Box w' kb 37 (keyV y.root y.high) ∧ w'.cell? ⟨pc, 3, none⟩ = some (.int .i64 x.n)) (by kernel_rfl) ⟨S7d.out.key, S7d.out.call.cell 3⟩ (fun hS => ?_)
          (refine wpAnyH_take (i := 0) (v := .pointer (some ⟨rb, 0, none⟩)) rfl (by kernel_rfl) (by kernel_rfl) (by kernel_rfl) (fun _ _ _ h => h) (Or.inl ⟨by kernel_rfl, fun w hSw => by go_simp⟩) hS ?_)
          (try simp only [Act.put])
          (refine wpAnyH_take (i := 1) (v := .agg (keyV y.root y.high)) rfl (by kernel_rfl) (by kernel_rfl) (by kernel_rfl) (fun _ _ _ h => h) (yieldsIf_load_mid (by kernel_rfl) 37 (.tmp 8) rfl kb (0) (by kernel_rfl) (keyL y.root y.high) _ (fun w h => h.1.range) hundk rfl hn1) hS ?_)
          (try simp only [Act.put])
          (refine wpAnyH_take (i := 2) (v := .pointer (some ⟨pc, 3, none⟩)) rfl (by kernel_rfl) (by kernel_rfl) (by kernel_rfl) (fun _ _ _ h => h) (Or.inl ⟨by kernel_rfl, fun w hSw => by go_simp⟩) hS ?_)
          (try simp only [Act.put])
          (refine wpAnyH_take (i := 3) (v := .int .i64 x.n) rfl (by kernel_rfl) (by kernel_rfl) (by kernel_rfl) (fun _ _ _ h => h) (Or.inl ⟨by kernel_rfl, fun w hSw => by have hc := hSw.2; go_simp⟩) hS ?_)
          (try simp only [Act.put])
          (refine wpAnyH_take (i := 5) (v := .pointer (some ⟨db, 0, none⟩)) rfl (by kernel_rfl) (by kernel_rfl) (by kernel_rfl) (fun _ _ _ h => h) (Or.inl ⟨by kernel_rfl, fun w hSw => by go_simp⟩) hS ?_)
          (try simp only [Act.put])
          (refine wpAnyH_take (i := 6) (v := .agg (keyV y.root y.high)) rfl (by kernel_rfl) (by kernel_rfl) (by kernel_rfl) (fun _ _ _ h => h) (yieldsIf_load_mid (by kernel_rfl) 37 (.tmp 8) rfl kb (0) (by kernel_rfl) (keyL y.root y.high) _ (fun w h => h.1.range) hundk rfl hn1) hS ?_)
          (try simp only [Act.put])
          (refine wpAnyH_take (i := 7) (v := .pointer (some ⟨pc, 3, none⟩)) rfl (by kernel_rfl) (by kernel_rfl) (by kernel_rfl) (fun _ _ _ h => h) (Or.inl ⟨by kernel_rfl, fun w hSw => by go_simp⟩) hS ?_)
          (try simp only [Act.put])
          (refine wpAnyH_take (i := 8) (v := .int .i64 x.n) rfl (by kernel_rfl) (by kernel_rfl) (by kernel_rfl) (fun _ _ _ h => h) (Or.inl ⟨by kernel_rfl, fun w hSw => by have hc := hSw.2; go_simp⟩) hS ?_)
          (try simp only [Act.put])
          refine wpAnyH_ready (rs := [4]) (by decide +kernel) (by simp) (AllReadyH.cons rfl (fun K hK => ?_) AllReadyH.nil)
          go_simp
          (go_at_call 15; (with_reducible refine (HAD.out).mono ?_); rintro e w8 ⟨rfl, f8, m8⟩; have S8 := Lib.hid (S7d.out.ring f8); have HAE8 := Lib.hid (HAE.out _ m8 S8.out.high); clear f8 m8)
          go_simp
          refine hK.out _ _ (⟨S8.out.key, S8.out.call.cell 3⟩) (fun hS => ?_)
          clear hK K
          (try simp only [Act.put])
          refine wpAnyH_ready (rs := [9]) (by decide +kernel) (by simp) (AllReadyH.cons rfl (fun K hK => ?_) AllReadyH.nil)
          go_simp
          (go_at_call 16; (with_reducible refine (HAE8.out).mono ?_); rintro e w9 ⟨rfl, f9, t9⟩; have T9 := Lib.hid t9; have S9 := Lib.hid (S8.out.doc f9); clear f9 t9)
          go_simp
          refine hK.out _ _ (⟨S9.out.key, S9.out.call.cell 3⟩) (fun hS => ?_)
          clear hK K
          (try simp only [Act.put])
          (refine wpAnyH_take (i := 10) (v := .bool true) rfl (by kernel_rfl) (by kernel_rfl) (by kernel_rfl) (fun _ _ _ h => h) (Or.inl ⟨by kernel_rfl, fun w hSw => by go_simp⟩) hS ?_)
          (try simp only [Act.put])
          (refine wpAnyH_take (i := 11) (v := .bool true) rfl (by kernel_rfl) (by kernel_rfl) (by kernel_rfl) (fun _ _ _ h => h) (Or.inl ⟨by kernel_rfl, fun w hSw => by go_simp⟩) hS ?_)
          (try simp only [Act.put])
          refine wpAnyH_done (by kernel_rfl) ?_ _
          go_simp
          go_wp2
          go_meet
          exact ⟨rfl, ks, T9, S9, Lib.hid (by have := HFW.out; omega)⟩
        have e3 : (x.kind == 3) = false := by simp [q3]
        by_cases q4 : x.kind = 4
        · have e4 : (x.kind == 4) = true := by simp [q4]
          clear q0 q1 q2 q3 q4
          obtain ⟨ec, M, hbo⟩ := two_retire (T7.out.call (Below.refl _ _).drew) y (by have := HK30.out; omega)
          unfold KeyX.enc at hbo
          have HAD := Lib.hid hbo.one
          have HAE := Lib.hid hbo.two
          have S7d := Lib.hid (S7.out.below (Below.refl _ _).drew)
          clear hbo
          go_upto_region 30 with fail
          refine wp_region_held_drew (S := fun w' => Box w' kb 37 (keyV y.root y.high) ∧ w'.cell? ⟨pc, 3, none⟩ = some (.int .i64 x.n)) (by kernel_rfl) ⟨S7d.out.key, S7d.out.call.cell 3⟩ (fun hS => ?_)
          (refine wpAnyH_take (i := 0) (v := .pointer (some ⟨rb, 0, none⟩)) rfl (by kernel_rfl) (by kernel_rfl) (by kernel_rfl) (fun _ _ _ h => h) (Or.inl ⟨by kernel_rfl, fun w hSw => by go_simp⟩) hS ?_)
          (try simp only [Act.put])
          (refine wpAnyH_take (i := 1) (v := .agg (keyV y.root y.high)) rfl (by kernel_rfl) (by kernel_rfl) (by kernel_rfl) (fun _ _ _ h => h) (yieldsIf_load_mid (by kernel_rfl) 37 (.tmp 8) rfl kb (0) (by kernel_rfl) (keyL y.root y.high) _ (fun w h => h.1.range) hundk rfl hn1) hS ?_)
          (try simp only [Act.put])
          (refine wpAnyH_take (i := 3) (v := .pointer (some ⟨db, 0, none⟩)) rfl (by kernel_rfl) (by kernel_rfl) (by kernel_rfl) (fun _ _ _ h => h) (Or.inl ⟨by kernel_rfl, fun w hSw => by go_simp⟩) hS ?_)
          (try simp only [Act.put])
          (refine wpAnyH_take (i := 4) (v := .agg (keyV y.root y.high)) rfl (by kernel_rfl) (by kernel_rfl) (by kernel_rfl) (fun _ _ _ h => h) (yieldsIf_load_mid (by kernel_rfl) 37 (.tmp 8) rfl kb (0) (by kernel_rfl) (keyL y.root y.high) _ (fun w h => h.1.range) hundk rfl hn1) hS ?_)
          (try simp only [Act.put])
          refine wpAnyH_ready (rs := [2]) (by decide +kernel) (by simp) (AllReadyH.cons rfl (fun K hK => ?_) AllReadyH.nil)
          go_simp
          (go_at_call 17; (with_reducible refine (HAD.out).mono ?_); rintro e w8 ⟨rfl, f8, m8⟩; have S8 := Lib.hid (S7d.out.ring f8); have HAE8 := Lib.hid (HAE.out _ m8 S8.out.high); clear f8 m8)
          go_simp
          refine hK.out _ _ (⟨S8.out.key, S8.out.call.cell 3⟩) (fun hS => ?_)
          clear hK K
          (try simp only [Act.put])
          refine wpAnyH_ready (rs := [5]) (by decide +kernel) (by simp) (AllReadyH.cons rfl (fun K hK => ?_) AllReadyH.nil)
          go_simp
          (go_at_call 18; (with_reducible refine (HAE8.out).mono ?_); rintro e w9 ⟨rfl, f9, t9⟩; have T9 := Lib.hid t9; have S9 := Lib.hid (S8.out.doc f9); clear f9 t9)
          go_simp
          refine hK.out _ _ (⟨S9.out.key, S9.out.call.cell 3⟩) (fun hS => ?_)
          clear hK K
          (try simp only [Act.put])
          (refine wpAnyH_take (i := 6) (v := .bool true) rfl (by kernel_rfl) (by kernel_rfl) (by kernel_rfl) (fun _ _ _ h => h) (Or.inl ⟨by kernel_rfl, fun w hSw => by go_simp⟩) hS ?_)
          (try simp only [Act.put])
          (refine wpAnyH_take (i := 7) (v := .bool true) rfl (by kernel_rfl) (by kernel_rfl) (by kernel_rfl) (fun _ _ _ h => h) (Or.inl ⟨by kernel_rfl, fun w hSw => by go_simp⟩) hS ?_)
          (try simp only [Act.put])
          refine wpAnyH_done (by kernel_rfl) ?_ _
          go_simp
          go_wp2
          go_meet
          exact ⟨rfl, ks, T9, S9, Lib.hid (by have := HFW.out; omega)⟩
        have e4 : (x.kind == 4) = false := by simp [q4]
        clear q0 q1 q2 q3 q4
        go_wp2
        go_meet
        exact ⟨rfl, ks, Lib.hid T7.out.up, S7, Lib.hid (by have := HFW.out; omega)⟩
      case rest =>
        obtain ⟨rfl, ks2, TC, SC, FC⟩ := hcut
        clear S7 T7 HAP HBX HLV HFW HRT b0
        have HK1 := Lib.hid (two_keys TC.out (by have := HK30.out; omega))
        go_upto_region 32 with (first | (go_at_call 19; (with_reducible refine (HK1.out).mono ?_); rintro e w8 ⟨xs, Ax, cx, rfl, hs8, hx8, m8, b8⟩; have S8 := Lib.hid (SC.out.below b8); have X8 := Lib.hid hs8; have HX40 := Lib.hid hx8; have T8 := Lib.hid m8.two; have HK2 := Lib.hid (two_keys2 m8 (by have := HK30.out; omega)); clear hs8 hx8 m8 b8) | (go_at_call 20; (with_reducible refine (HK2.out).mono ?_); rintro e w9 ⟨Ay, cy, rfl, hs9, b9⟩; have S9 := Lib.hid (S8.out.below b9); have X9 := Lib.hid ((X8.out.below b9).more b9.size); have Y9 := Lib.hid hs9; have T9 := Lib.hid (T8.out.call b9); clear hs9 b9))
        obtain ⟨lc, hl1, hl2⟩ := two_left (T9.out.call (Below.refl _ _).drew) y (by have := HK30.out; omega)
        unfold KeyX.enc at hl1 hl2
        have HL1 := Lib.hid hl1
        have HL2 := Lib.hid hl2
        have S9d := Lib.hid (S9.out.below (Below.refl _ _).drew)
        clear hl1 hl2 HK1 HK2 X8 T8
        have hundk := key_struct
        have hn1 := key_list y.len y.high
        refine wp_region_held_drew (S := fun w' => Box w' kb 37 (keyV y.root y.high)) (by kernel_rfl) S9d.out.key (fun hS => ?_)
        (refine wpAnyH_take (i := 0) (v := .bool true) rfl (by kernel_rfl) (by kernel_rfl) (by kernel_rfl) (fun _ _ _ h => h) (Or.inl ⟨by kernel_rfl, fun w hSw => by go_simp⟩) hS ?_)
        (try simp only [Act.put])
        (refine wpAnyH_take (i := 1) (v := .bool false) rfl (by kernel_rfl) (by kernel_rfl) (by kernel_rfl) (fun _ _ _ h => h) (Or.inl ⟨by kernel_rfl, fun w hSw => by go_simp⟩) hS ?_)
        (try simp only [Act.put])
        (refine wpAnyH_take (i := 2) (v := .bool false) rfl (by kernel_rfl) (by kernel_rfl) (by kernel_rfl) (fun _ _ _ h => h) (Or.inl ⟨by kernel_rfl, fun w hSw => by go_simp⟩) hS ?_)
        (try simp only [Act.put])
        (refine wpAnyH_take (i := 3) (v := .pointer (some ⟨rb, 0, none⟩)) rfl (by kernel_rfl) (by kernel_rfl) (by kernel_rfl) (fun _ _ _ h => h) (Or.inl ⟨by kernel_rfl, fun w hSw => by go_simp⟩) hS ?_)
        (try simp only [Act.put])
        (refine wpAnyH_take (i := 4) (v := .agg (keyV y.root y.high)) rfl (by kernel_rfl) (by kernel_rfl) (by kernel_rfl) (fun _ _ _ h => h) (yieldsIf_load_mid (by kernel_rfl) 37 (.tmp 8) rfl kb (0) (by kernel_rfl) (keyL y.root y.high) _ (fun w h => h.range) hundk rfl hn1) hS ?_)
        (try simp only [Act.put])
        (refine wpAnyH_take (i := 6) (v := .pointer (some ⟨db, 0, none⟩)) rfl (by kernel_rfl) (by kernel_rfl) (by kernel_rfl) (fun _ _ _ h => h) (Or.inl ⟨by kernel_rfl, fun w hSw => by go_simp⟩) hS ?_)
        (try simp only [Act.put])
        (refine wpAnyH_take (i := 7) (v := .agg (keyV y.root y.high)) rfl (by kernel_rfl) (by kernel_rfl) (by kernel_rfl) (fun _ _ _ h => h) (yieldsIf_load_mid (by kernel_rfl) 37 (.tmp 8) rfl kb (0) (by kernel_rfl) (keyL y.root y.high) _ (fun w h => h.range) hundk rfl hn1) hS ?_)
        (try simp only [Act.put])
        refine wpAnyH_ready (rs := [5]) (by decide +kernel) (by simp) (AllReadyH.cons rfl (fun K hK => ?_) AllReadyH.nil)
        go_simp
        (go_at_call 21; (with_reducible refine (HL1.out).mono ?_); rintro e w10 ⟨rfl, b10⟩; have S10 := Lib.hid (S9d.out.below b10); have HL3 := Lib.hid (HL2.out _ b10); have G10 := Lib.hid b10; clear b10)
        go_simp
        refine hK.out _ _ (S10.out.key) (fun hS => ?_)
        clear hK K
        (try simp only [Act.put])
        refine wpAnyH_ready (rs := [8]) (by decide +kernel) (by simp) (AllReadyH.cons rfl (fun K hK => ?_) AllReadyH.nil)
        go_simp
        (go_at_call 22; (with_reducible refine (HL3.out).mono ?_); rintro e w11 ⟨rfl, b11⟩; have S11 := Lib.hid (S10.out.below b11); have G11 : Hid (Below w9.heap.size w9 w11) := Lib.hid ((Below.refl w9.heap.size w9).drew.trans (G10.out.trans (b11.mono G10.out.size))); clear b11)
        go_simp
        refine hK.out _ _ (S11.out.key) (fun hS => ?_)
        clear hK K
        (try simp only [Act.put])
        (refine wpAnyH_take (i := 9) (v := .bool false) rfl (by kernel_rfl) (by kernel_rfl) (by kernel_rfl) (fun _ _ _ h => h) (Or.inl ⟨by kernel_rfl, fun w hSw => by go_simp⟩) hS ?_)
        (try simp only [Act.put])
        (refine wpAnyH_take (i := 10) (v := .bool false) rfl (by kernel_rfl) (by kernel_rfl) (by kernel_rfl) (fun _ _ _ h => h) (Or.inl ⟨by kernel_rfl, fun w hSw => by go_simp⟩) hS ?_)
        (try simp only [Act.put])
        (refine wpAnyH_take (i := 11) (v := .bool false) rfl (by kernel_rfl) (by kernel_rfl) (by kernel_rfl) (fun _ _ _ h => h) (Or.inl ⟨by kernel_rfl, fun w hSw => by go_simp⟩) hS ?_)
        (try simp only [Act.put])
        (refine wpAnyH_take (i := 12) (v := .slice Ax xs.length cx) rfl (by kernel_rfl) (by kernel_rfl) (by kernel_rfl) (fun _ _ _ h => h) (Or.inl ⟨by kernel_rfl, fun w hSw => by go_simp⟩) hS ?_)
        (try simp only [Act.put])
        (refine wpAnyH_take (i := 13) (v := .int .i64 (xs.length : Int)) rfl (by kernel_rfl) (by kernel_rfl) (by kernel_rfl) (fun _ _ _ h => h) (Or.inl ⟨by kernel_rfl, fun w hSw => by go_simp⟩) hS ?_)
        (try simp only [Act.put])
        (refine wpAnyH_take (i := 14) (v := .slice Ay xs.length cy) rfl (by kernel_rfl) (by kernel_rfl) (by kernel_rfl) (fun _ _ _ h => h) (Or.inl ⟨by kernel_rfl, fun w hSw => by go_simp⟩) hS ?_)
        (try simp only [Act.put])
        (refine wpAnyH_take (i := 15) (v := .int .i64 (xs.length : Int)) rfl (by kernel_rfl) (by kernel_rfl) (by kernel_rfl) (fun _ _ _ h => h) (Or.inl ⟨by kernel_rfl, fun w hSw => by go_simp⟩) hS ?_)
        (try simp only [Act.put])
        (refine wpAnyH_take (i := 16) (v := .bool false) rfl (by kernel_rfl) (by kernel_rfl) (by kernel_rfl) (fun _ _ _ h => h) (Or.inl ⟨by kernel_rfl, fun w hSw => by go_simp⟩) hS ?_)
        (try simp only [Act.put])
        (refine wpAnyH_take (i := 17) (v := .bool false) rfl (by kernel_rfl) (by kernel_rfl) (by kernel_rfl) (fun _ _ _ h => h) (Or.inl ⟨by kernel_rfl, fun w hSw => by go_simp⟩) hS ?_)
        (try simp only [Act.put])
        refine wpAnyH_done (by kernel_rfl) ?_ _
        go_simp
        have T11 := Lib.hid (T9.out.call G11.out)
        have X11 := Lib.hid ((X9.out.below G11.out).more G11.out.size)
        have Y11 := Lib.hid ((Y9.out.below G11.out).more G11.out.size)
        clear HL1 HL2 HL3 S9 S9d S10 X9 Y9 T9 G10 G11 hundk hn1
        go_wp2
        go_loopw [185] (fun i wx => ∃ i' : Nat, i' ≤ xs.length ∧ i = .int .i64 (i' : Int) ∧ Hid (Below w11.heap.size w11 wx)) (fun i _ => xs.length - (intOf i).toNat)
        case atStart => exact ⟨0, Nat.zero_le _, rfl, Lib.hid (Below.refl _ _)⟩
        case round =>
          obtain ⟨i, hi, rfl, HU⟩ := hrel
          by_cases hli : i < xs.length
          · clear hi
            have HLI := Lib.hid hli
            have wi : IntKind.i64.wrap ((i : Int) + 1) = ((i + 1 : Nat) : Int) := by
              rw [IntKind.wrap_i64]
              have := HX40.out
              omega
            have i3 : (i : Int) < (xs.length : Int) := by omega
            obtain ⟨g2, o2, rfl, _, hr2⟩ := Sees.flat KeyX.cells 33 (by decide) KeyX.cells_len ((X11.out.below HU.out).more HU.out.size) hli
            obtain ⟨g3, o3, rfl, _, hr3⟩ := Sees.flat KeyX.cells 33 (by decide) KeyX.cells_len ((Y11.out.below HU.out).more HU.out.size) hli
            obtain ⟨z, hz⟩ : ∃ z, z = xs[i]'hli := ⟨_, rfl⟩
            have h2 := hr2 i hli
            have h3 := hr3 i hli
            rw [← hz] at h2 h3
            have HR2 : Hid (wr.drew.rangeAt g2 (o2 + i * 33) (keyL z.root z.high) ∧ wr.drew.rangeAt g3 (o3 + i * 33) (keyL z.root z.high)) := Lib.hid ⟨h2, h3⟩
            clear hz hr2 hr3 h2 h3 hli
            have eq : ∀ w, (eqKey (.agg (keyV z.root z.high)) (.agg (keyV z.root z.high))).run Tryz.prog w = .ok true w := eq_keyx6 z z true (by simp)
            have hundk := key_struct
            have hn1 := key_list z.len z.high
            go_upto_region 37 with fail
            refine wp_region_held_drew (S := fun w' => w'.rangeAt g2 (o2 + i * 33) (keyL z.root z.high) ∧ w'.rangeAt g3 (o3 + i * 33) (keyL z.root z.high)) (by kernel_rfl) HR2.out (fun hS => ?_)
            (refine wpAnyH_take (i := 0) (v := .slice (some ⟨g2, o2, none⟩) xs.length cx) rfl (by kernel_rfl) (by kernel_rfl) (by kernel_rfl) (fun _ _ _ h => h) (Or.inl ⟨by kernel_rfl, fun w hSw => by go_simp⟩) hS ?_)
            (try simp only [Act.put])
            (refine wpAnyH_take (i := 1) (v := .int .i64 (i : Int)) rfl (by kernel_rfl) (by kernel_rfl) (by kernel_rfl) (fun _ _ _ h => h) (Or.inl ⟨by kernel_rfl, fun w hSw => by go_simp⟩) hS ?_)
            (try simp only [Act.put])
            (refine wpAnyH_take (i := 2) (v := .pointer (some ⟨g2, o2 + i * 33, none⟩)) rfl (by kernel_rfl) (by kernel_rfl) (by kernel_rfl) (fun _ _ _ h => h) (Or.inl ⟨by kernel_rfl, fun w hSw => by go_simp⟩) hS ?_)
            (try simp only [Act.put])
            (refine wpAnyH_take (i := 3) (v := .agg (keyV z.root z.high)) rfl (by kernel_rfl) (by kernel_rfl) (by kernel_rfl) (fun _ _ _ h => h) (yieldsIf_load_mid (by kernel_rfl) 37 (.tmp 190) rfl g2 (o2 + i * 33) (by kernel_rfl) (keyL z.root z.high) _ (fun w h => h.1) hundk rfl hn1) hS ?_)
            (try simp only [Act.put])
            (refine wpAnyH_take (i := 4) (v := .slice (some ⟨g3, o3, none⟩) xs.length cy) rfl (by kernel_rfl) (by kernel_rfl) (by kernel_rfl) (fun _ _ _ h => h) (Or.inl ⟨by kernel_rfl, fun w hSw => by go_simp⟩) hS ?_)
            (try simp only [Act.put])
            (refine wpAnyH_take (i := 5) (v := .int .i64 (i : Int)) rfl (by kernel_rfl) (by kernel_rfl) (by kernel_rfl) (fun _ _ _ h => h) (Or.inl ⟨by kernel_rfl, fun w hSw => by go_simp⟩) hS ?_)
            (try simp only [Act.put])
            (refine wpAnyH_take (i := 6) (v := .pointer (some ⟨g3, o3 + i * 33, none⟩)) rfl (by kernel_rfl) (by kernel_rfl) (by kernel_rfl) (fun _ _ _ h => h) (Or.inl ⟨by kernel_rfl, fun w hSw => by go_simp⟩) hS ?_)
            (try simp only [Act.put])
            (refine wpAnyH_take (i := 7) (v := .agg (keyV z.root z.high)) rfl (by kernel_rfl) (by kernel_rfl) (by kernel_rfl) (fun _ _ _ h => h) (yieldsIf_load_mid (by kernel_rfl) 37 (.tmp 194) rfl g3 (o3 + i * 33) (by kernel_rfl) (keyL z.root z.high) _ (fun w h => h.2) hundk rfl hn1) hS ?_)
            (try simp only [Act.put])
            (refine wpAnyH_take (i := 8) (v := .bool false) rfl (by kernel_rfl) (by kernel_rfl) (by kernel_rfl) (fun _ _ _ h => h) (Or.inl ⟨by kernel_rfl, fun w hSw => by go_simp⟩) hS ?_)
            (try simp only [Act.put])
            refine wpAnyH_done (by kernel_rfl) ?_ _
            go_simp
            go_wp2
            go_roundw
            case rel => exact ⟨i + 1, HLI.out, by go_num, Lib.hid HU.out.drew⟩
            case measure => have := HLI.out; simp [intOf]; omega
          · obtain rfl : i = xs.length := by omega
            clear hli
            go_wp2
            go_roundw
            case rel => exact ⟨k + 1, ks2, HLE.out, by go_num, Lib.hid ((S11.out.below HU.out).does (T11.out.call HU.out) FC.out)⟩
            case measure => have := HLE.out; simp [intOf]; omega
    · obtain rfl : k = cs.length := by omega
      clear hlt
      have HNA : Hid (∀ w', Calls Tryz.prog 8 #[.pointer none, .agg #[.int .u8 0, .int .u8 0, .int .u8 0, .int .u8 0, .int .u8 0, .int .u8 0, .int .u8 0, .int .u8 0, .int .u8 0, .int .u8 0, .int .u8 0, .int .u8 0, .int .u8 0, .int .u8 0, .int .u8 0, .int .u8 0, .int .u8 0, .int .u8 0, .int .u8 0, .int .u8 0, .int .u8 0, .int .u8 0, .int .u8 0, .int .u8 0, .int .u8 0, .int .u8 0, .int .u8 0, .int .u8 0, .int .u8 0, .int .u8 0, .int .u8 0, .int .u8 0], .int .i64 0] w' fun e w'' => e = .returned (.tuple #[.agg #[.int .u8 0, .int .u8 0, .int .u8 0, .int .u8 0, .int .u8 0, .int .u8 0, .int .u8 0, .int .u8 0, .int .u8 0, .int .u8 0, .int .u8 0, .int .u8 0, .int .u8 0, .int .u8 0, .int .u8 0, .int .u8 0, .int .u8 0, .int .u8 0, .int .u8 0, .int .u8 0, .int .u8 0, .int .u8 0, .int .u8 0, .int .u8 0, .int .u8 0, .int .u8 0, .int .u8 0, .int .u8 0, .int .u8 0, .int .u8 0, .int .u8 0, .int .u8 0, .int .i64 0], .int .i64 2]) ∧ Below w'.heap.size w' w'') := Lib.hid (fun w' => radd_nil (List.replicate 32 0) rfl 0 w')
      have HNT : Hid (∀ w', Calls Tryz.prog 10 #[.pointer none, .agg #[.int .u8 0, .int .u8 0, .int .u8 0, .int .u8 0, .int .u8 0, .int .u8 0, .int .u8 0, .int .u8 0, .int .u8 0, .int .u8 0, .int .u8 0, .int .u8 0, .int .u8 0, .int .u8 0, .int .u8 0, .int .u8 0, .int .u8 0, .int .u8 0, .int .u8 0, .int .u8 0, .int .u8 0, .int .u8 0, .int .u8 0, .int .u8 0, .int .u8 0, .int .u8 0, .int .u8 0, .int .u8 0, .int .u8 0, .int .u8 0, .int .u8 0, .int .u8 0, .int .i64 0]] w' fun e w'' => e = .returned (.tuple #[.int .i64 0, .int .i64 2]) ∧ Below w'.heap.size w' w'') := Lib.hid (fun w' => take_nil (List.replicate 32 0) 0 rfl w')
      have HNS : Hid (∀ w', Calls Tryz.prog 12 #[.pointer none, .agg #[.int .u8 0, .int .u8 0, .int .u8 0, .int .u8 0, .int .u8 0, .int .u8 0, .int .u8 0, .int .u8 0, .int .u8 0, .int .u8 0, .int .u8 0, .int .u8 0, .int .u8 0, .int .u8 0, .int .u8 0, .int .u8 0, .int .u8 0, .int .u8 0, .int .u8 0, .int .u8 0, .int .u8 0, .int .u8 0, .int .u8 0, .int .u8 0, .int .u8 0, .int .u8 0, .int .u8 0, .int .u8 0, .int .u8 0, .int .u8 0, .int .u8 0, .int .u8 0, .int .i64 0], .int .i64 0, .agg #[.int .u8 0, .int .u8 0, .int .u8 0, .int .u8 0, .int .u8 0, .int .u8 0, .int .u8 0, .int .u8 0, .int .u8 0, .int .u8 0, .int .u8 0, .int .u8 0, .int .u8 0, .int .u8 0, .int .u8 0, .int .u8 0, .int .u8 0, .int .u8 0, .int .u8 0, .int .u8 0, .int .u8 0, .int .u8 0, .int .u8 0, .int .u8 0, .int .u8 0, .int .u8 0, .int .u8 0, .int .u8 0, .int .u8 0, .int .u8 0, .int .u8 0, .int .u8 0]] w' fun e w'' => e = .returned (.tuple #[.agg zsig, .int .i64 2]) ∧ Below w'.heap.size w' w'') := Lib.hid (fun w' => sign_nil (List.replicate 32 0) (List.replicate 32 0) 0 0 rfl w')
      have HNK : Hid (∀ w', Calls Tryz.prog 15 #[.pointer none, .agg #[.int .u8 0, .int .u8 0, .int .u8 0, .int .u8 0, .int .u8 0, .int .u8 0, .int .u8 0, .int .u8 0, .int .u8 0, .int .u8 0, .int .u8 0, .int .u8 0, .int .u8 0, .int .u8 0, .int .u8 0, .int .u8 0, .int .u8 0, .int .u8 0, .int .u8 0, .int .u8 0, .int .u8 0, .int .u8 0, .int .u8 0, .int .u8 0, .int .u8 0, .int .u8 0, .int .u8 0, .int .u8 0, .int .u8 0, .int .u8 0, .int .u8 0, .int .u8 0, .int .i64 0], .int .i64 1] w' fun e w'' => e = .returned (.int .i64 2) ∧ Below w'.heap.size w' w'') := Lib.hid (fun w' => skip_nil (List.replicate 32 0) 0 1 rfl w')
      have HNR : Hid (∀ w', Calls Tryz.prog 17 #[.pointer none, .agg #[.int .u8 0, .int .u8 0, .int .u8 0, .int .u8 0, .int .u8 0, .int .u8 0, .int .u8 0, .int .u8 0, .int .u8 0, .int .u8 0, .int .u8 0, .int .u8 0, .int .u8 0, .int .u8 0, .int .u8 0, .int .u8 0, .int .u8 0, .int .u8 0, .int .u8 0, .int .u8 0, .int .u8 0, .int .u8 0, .int .u8 0, .int .u8 0, .int .u8 0, .int .u8 0, .int .u8 0, .int .u8 0, .int .u8 0, .int .u8 0, .int .u8 0, .int .u8 0, .int .i64 0]] w' fun e w'' => e = .returned (.int .i64 2) ∧ Below w'.heap.size w' w'') := Lib.hid (fun w' => retire_nil (List.replicate 32 0) 0 rfl w')
      have HNL : Hid (∀ w', Calls Tryz.prog 21 #[.pointer none, .agg #[.int .u8 0, .int .u8 0, .int .u8 0, .int .u8 0, .int .u8 0, .int .u8 0, .int .u8 0, .int .u8 0, .int .u8 0, .int .u8 0, .int .u8 0, .int .u8 0, .int .u8 0, .int .u8 0, .int .u8 0, .int .u8 0, .int .u8 0, .int .u8 0, .int .u8 0, .int .u8 0, .int .u8 0, .int .u8 0, .int .u8 0, .int .u8 0, .int .u8 0, .int .u8 0, .int .u8 0, .int .u8 0, .int .u8 0, .int .u8 0, .int .u8 0, .int .u8 0, .int .i64 0]] w' fun e w'' => e = .returned (.int .i64 0) ∧ Below w'.heap.size w' w'') := Lib.hid (fun w' => rleft_nil (List.replicate 32 0) 0 rfl w')
      have F0 := Lib.hid HO.out.far
      clear HO HRW HBAD HBL
      go_upto_region 43 with (go_at_call 8; (with_reducible refine (HNA.out wr).mono ?_); rintro e n1 ⟨rfl, hb⟩; have F1 := Lib.hid (F0.out.trans (hb.mono F0.out.size)); clear hb; obtain ⟨n2, hst0, hb2, hg2⟩ := laid_key n1 (show (List.replicate 32 (0 : UInt8)).length = 32 from rfl) 0; have hstn : (stKey (.pointer (some ⟨n1.heap.size, 0, none⟩)) (.agg #[.int .u8 0, .int .u8 0, .int .u8 0, .int .u8 0, .int .u8 0, .int .u8 0, .int .u8 0, .int .u8 0, .int .u8 0, .int .u8 0, .int .u8 0, .int .u8 0, .int .u8 0, .int .u8 0, .int .u8 0, .int .u8 0, .int .u8 0, .int .u8 0, .int .u8 0, .int .u8 0, .int .u8 0, .int .u8 0, .int .u8 0, .int .u8 0, .int .u8 0, .int .u8 0, .int .u8 0, .int .u8 0, .int .u8 0, .int .u8 0, .int .u8 0, .int .u8 0, .int .i64 0])).run Tryz.prog (n1.alloc (.cells #[.int .u8 0, .int .u8 0, .int .u8 0, .int .u8 0, .int .u8 0, .int .u8 0, .int .u8 0, .int .u8 0, .int .u8 0, .int .u8 0, .int .u8 0, .int .u8 0, .int .u8 0, .int .u8 0, .int .u8 0, .int .u8 0, .int .u8 0, .int .u8 0, .int .u8 0, .int .u8 0, .int .u8 0, .int .u8 0, .int .u8 0, .int .u8 0, .int .u8 0, .int .u8 0, .int .u8 0, .int .u8 0, .int .u8 0, .int .u8 0, .int .u8 0, .int .u8 0, .int .i64 0] 37)) = .ok () n2 := hst0; have hb := (show Below n1.heap.size n1 n2 from ⟨hg2.os, hg2.tape, hg2.output, hg2.size, fun i hi => hg2.block i hi (by simp)⟩); have F2 := Lib.hid (F1.out.trans (hb.mono F1.out.size)); clear hb; clear hst0 hb2 hg2)
      clear hstn
      go_upto_region 45 with (first | (go_at_call 10; (with_reducible refine (HNT.out n2).mono ?_); rintro e n3 ⟨rfl, hb⟩; have F3 := Lib.hid (F2.out.trans (hb.mono F2.out.size)); clear hb) | (go_at_call 12; (with_reducible refine (HNS.out n3).mono ?_); rintro e n4 ⟨rfl, hb⟩; have F4 := Lib.hid (F3.out.trans (hb.mono F3.out.size)); clear hb) | (((with_reducible show wpList _ _ _ ((⟨none, Op.store _ (.tmp 30) (.tmp 216), _, _, _, _⟩ : Oper) :: _) _ _)); refine wpList_store_box rfl 48 (.tmp 30) (.tmp 216) rfl n4.heap.size zsig rfl rfl 48 zsig (Box.made n4 _ _) SigF.zero.1 SigF.zero.2.1 SigF.zero.2.2.1 ?_; intro n5 hbn5 hgn5; have HN5 := Lib.hid hbn5; have Gn5 : Hid (Below n4.heap.size n4 n5) := Lib.hid (((Below.refl n4.heap.size n4).alloc (Nat.le_refl _) (.cells zsig 48)).trans (below_only hgn5 (Nat.le_refl _) (by simp))); clear hbn5 hgn5))
      have F5 := Lib.hid (F4.out.trans (Gn5.out.mono F4.out.size))
      go_wp2_with (first | (go_at_call 15; (with_reducible refine (HNK.out n5).mono ?_); rintro e n6 ⟨rfl, hb⟩; have F6 := Lib.hid (F5.out.trans (hb.mono F5.out.size)); clear hb) | (go_at_call 17; (with_reducible refine (HNR.out n6).mono ?_); rintro e n7 ⟨rfl, hb⟩; have F7 := Lib.hid (F6.out.trans (hb.mono F6.out.size)); clear hb) | (go_at_call 21; (with_reducible refine (HNL.out n7).mono ?_); rintro e n8 ⟨rfl, hb⟩; have F8 := Lib.hid (F7.out.trans (hb.mono F7.out.size)); clear hb) | (go_at_call 19; (with_reducible refine (rkeys_nil n8).mono ?_); rintro e n9 ⟨rfl, hb⟩; have F9 := Lib.hid (F8.out.trans (hb.mono F8.out.size)); clear hb))
      go_ret
      exact ⟨rfl, F9.out⟩
set_option maxRecDepth 100000 in
theorem does_walk (cs : List CallX) (A : Option Addr) (c : Nat) (hn : cs.length ≤ maxLen) (w : World) (hS : Cals w w.heap.size A cs) (hR : Roots w) : Calls Tryz.prog 3 #[.slice A cs.length c] w fun e w' => e = .returned (.bool true) ∧ Below w.heap.size w w' := by
  by_cases hg : greatB cs = true
  · exact does_great cs A c hn hg w hS hR
  · have hg' : greatB cs = false := by simpa using hg
    have hl : cs.length ≤ 30 := by
      unfold greatB at hg'
      rw [Bool.or_eq_false_iff] at hg'
      simpa using hg'.2
    exact does_main cs A c hl hg' w hS hR
end Go.Proofs.YtojgmdagamdcfaaGreatDoor
