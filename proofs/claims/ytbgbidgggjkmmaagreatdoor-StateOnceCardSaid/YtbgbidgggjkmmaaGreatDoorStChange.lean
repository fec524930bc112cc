/-
  state.change: config.Apply, and the configuration that it answers.
-/
import Derived.Test.YtbgbidgggjkmmaaGreatDoorStOper
import Derived.Test.YtbgbidgggjkmmaaGreatDoorCC
namespace Go.Proofs.YtbgbidgggjkmmaaGreatDoor
open Go.RowKit

set_option maxRecDepth 100000 in
theorem errC_ne8 (ep : Int) (ms : List MemX) (k i n h : Int) : errC ep ms k i n h ≠ 8 := by
  unfold errC
  split
  · decide
  · split
    · decide
    · split
      · decide
      · split
        · decide
        · split
          · decide
          · split <;> decide
def CfOk (ep : Int) (ms : List MemX) (ep2 : Int) (ms2 : List MemX) : Prop := ms2.length ≤ 20 ∧ ((R64 ep ∧ ∀ m ∈ ms, R64 m.id) → R64 ep2 ∧ ∀ m ∈ ms2, R64 m.id)
set_option maxRecDepth 100000 in
theorem capply_any (ep : Int) (ms : List MemX) (A : Option Addr) (c : Nat) (hn : ms.length ≤ 20) (k i n : Int) (hi : R64 i) (hin : R64 n) (r : List UInt8) (h : Int) (hr : r.length = 32) (w : World) (hS : MK.See w w.heap.size A ms) :
    Calls Tryz.prog 56 #[.agg (cfgV ep A ms.length c), chgV k i n r h] w fun e w' => ∃ (er ep2 : Int) (A2 : Option Addr) (c2 : Nat) (ms2 : List MemX), e = .returned (.tuple #[.agg (cfgV ep2 A2 ms2.length c2), .int .i64 er]) ∧ er ≠ 8 ∧ CfOk ep ms ep2 ms2 ∧ MK.Own w' w.heap.size (.slice A2 ms2.length c2) ms2 ∧ Below w.heap.size w w' := by
  by_cases he : errC ep ms k i n h = 0
  · refine (apply_ok ep ms A c k i n r h hr he w hS).mono ?_
    rintro e w' ⟨A', c', ys, rfl, hb, ho, hf⟩
    refine ⟨0, ep + 1, A', c', ys, rfl, by decide, ⟨?_, fun hok => ⟨?_, fun m hm => ?_⟩⟩, ho, hf⟩
    have hg := good_len (err0 he).1
    have hp := hb.perm.length_eq
    have hd := dropId_le i ms
    have h1 : (nextM ms k i n r h hr).length ≤ (dropId i ms).length + 1 := by
      unfold nextM
      rw [List.length_append]
      split <;> simp
    omega
    · have := good_len (err0 he).1
      exact ⟨by omega, by omega⟩
    · have h1 := (hb.perm.mem_iff).1 hm
      unfold nextM at h1
      rcases List.mem_append.1 h1 with h1 | h1
      · exact hok.2 m (List.mem_filter.1 (show m ∈ ms.filter _ from h1)).1
      · split at h1
        · cases h1
        · simp only [List.mem_singleton] at h1
          subst h1
          unfold comerX cid
          simp only
          split <;> assumption
  · refine (apply_not ep ms A c (by simp [maxLen]; omega) k i n r h hr he w hS).mono ?_
    rintro e w' ⟨rfl, hf⟩
    exact ⟨errC ep ms k i n h, 0, none, 0, [], rfl, errC_ne8 _ _ _ _ _ _, ⟨by simp, fun _ => ⟨⟨by decide, by decide⟩, fun m hm => by cases hm⟩⟩, EK.own_nil MK _ _, hf⟩
section
variable {s : StM} {w w' : World} {base b : Nat}
set_option maxRecDepth 100000 in
/-- The configuration is stored. -/
theorem OwnB.config (h : OwnB s w base b) {ep : Int} {ms : List MemX} {A : Option Addr} {c : Nat} (ho : MK.Own w base (.slice A ms.length c) ms) :
    ∃ w', (stCf (.pointer (some ⟨b, 2, none⟩)) (.agg (cfgV ep A ms.length c))).run Tryz.prog w = .ok () w' ∧ OwnB { s with ep := ep, ms := ms, mA := A, mc := c } w' base b ∧ Below base w w' ∧ Twx w w' b s.pA := by
  have hb : Box w b 28 ([Value.slice s.pA s.ps.length s.pc, .slice s.rA s.rs.length s.rc] ++ ([Value.int .i64 s.ep, .slice s.mA s.ms.length s.mc] ++ [])).toArray := h.box
  have h1 := Box.put_mid hb (o := 2) rfl (vs := [Value.int .i64 ep, .slice A ms.length c]) rfl
  have hg : w.grownBy (w.setCells b 2 [Value.int .i64 ep, .slice A ms.length c]) (some b) := only_cells _ _ _
  refine ⟨w.setCells b 2 [Value.int .i64 ep, .slice A ms.length c], ?_, ⟨h1, ⟨own_box h.own.ps h.box (by decide) hg, own_box h.own.rs h.box (by decide) hg, fun r hr => own_box (h.own.vals r hr) h.box (by decide) hg, own_box ho h.box (by decide) hg⟩, h.hb⟩, below_only hg h.hb h.size, Twx.of_b hg⟩
  exact run_storeAt_mid (P := Tryz.prog) w b 2 26 (cfgV ep A ms.length c) (fun j hj => by
    have hj2 : j < 2 := hj
    rw [h.box.cell, h.box.free, Array.getElem?_eq_getElem (by show 2 + j < 4; omega)]
    exact ⟨rfl, rfl⟩) (cf_size ep A ms.length c) (by have := all_oneCell_toArray (cf_one ep A ms.length c); simpa using this)
end

attribute [local go_sem ↓] ldChg_def ldCf_def stCf_def

set_option maxRecDepth 100000 in
set_option maxHeartbeats 4000000 in
theorem change_any (s : StM) (base b : Nat) (hm : s.ms.length ≤ 20) (k i n : Int) (hi : R64 i) (hin : R64 n) (r : List UInt8) (hr : r.length = 32) (hh : Int) (w : World) (h : OwnB s w base b) :
    Calls Tryz.prog 47 #[.pointer (some ⟨b, 0, none⟩), chgV k i n r hh] w (ChgPost s base b w) := by
  obtain ⟨w1, hw1⟩ : ∃ w1, w1 = w.alloc (.cells (chgL k i n r hh).toArray 52) := ⟨_, rfl⟩
  have HX : Hid (Box w1 w.heap.size 52 (chgL k i n r hh).toArray) := by rw [hw1]; exact Box.made _ _ _
  have hal : Below w.heap.size w w1 := by rw [hw1]; exact (Below.refl _ _).alloc (Nat.le_refl _) _
  have H1 := Lib.hid (h.call hal)
  have HF := Lib.hid (hal.mono h.size)
  have HT : Hid (Twx w w1 b s.pA) := Lib.hid (Twx.of_below hal)
  have HCF : Hid (∀ w', Below w1.heap.size w1 w' → w'.rangeAt b 2 (cfgV s.ep s.mA s.ms.length s.mc).toList ∧ w'.rangeAt w.heap.size 0 (chgL k i n r hh)) := Lib.hid (fun w' hb => ⟨Box.range_mid (pre := [.slice s.pA s.ps.length s.pc, .slice s.rA s.rs.length s.rc]) (mid := (cfgV s.ep s.mA s.ms.length s.mc).toList) (post := []) (H1.out.call hb).box rfl, Box.range (HX.out.below hb HX.out.lt)⟩)
  have HAP : Hid (∀ w', Below w1.heap.size w1 w' → Calls Tryz.prog 56 #[.agg (cfgV s.ep s.mA s.ms.length s.mc), chgV k i n r hh] w' fun e w'' => ∃ (er ep2 : Int) (A2 : Option Addr) (c2 : Nat) (ms2 : List MemX), e = .returned (.tuple #[.agg (cfgV ep2 A2 ms2.length c2), .int .i64 er]) ∧ er ≠ 8 ∧ CfOk s.ep s.ms ep2 ms2 ∧ MK.Own w'' w'.heap.size (.slice A2 ms2.length c2) ms2 ∧ Below w'.heap.size w' w'') := Lib.hid (fun w' hb => capply_any s.ep s.ms s.mA s.mc hm k i n hi hin r hh hr w' (EK.Own.see (H1.out.call hb).own.ms))
  have HM := Lib.hid hm
  have HCL := chg_list hr k i n hh
  clear hal h hm hr hi hin
  go_enter Tryz.func47, Tryz.ntmps47
  go_upto_region 1 with fail
  change Code.wp _ _ _ _ (w.alloc (.cells (chgL k i n r hh).toArray 52))
  rw [← hw1]
  clear hw1
  have HD0 : Hid (Below w1.heap.size w1 w1.drew) := (Below.refl _ _).drew
  have hu26 := Tryz.underlying26
  have hu39 := Tryz.underlying52
  refine wp_region_held_drew (S := fun w' => Below w1.heap.size w1 w') (by kernel_rfl) HD0.out (fun hS => ?_)
  clear HD0
  generalize w1.drew = wd at *
  (refine wpAnyH_take (i := 0) (v := .pointer (some ⟨b, 0, none⟩)) rfl (by kernel_rfl) (by kernel_rfl) (by kernel_rfl) (fun _ _ _ h => h) (Or.inl ⟨by kernel_rfl, fun w hSw => by go_simp⟩) hS ?_)
  (try simp only [Act.put])
  (refine wpAnyH_take (i := 1) (v := .pointer (some ⟨b, 0, none⟩)) rfl (by kernel_rfl) (by kernel_rfl) (by kernel_rfl) (fun _ _ _ h => h) (Or.inl ⟨by kernel_rfl, fun w hSw => by go_simp⟩) hS ?_)
  (try simp only [Act.put])
  (refine wpAnyH_take (i := 2) (v := .pointer (some ⟨b, 2, none⟩)) rfl (by kernel_rfl) (by kernel_rfl) (by kernel_rfl) (fun _ _ _ h => h) (Or.inl ⟨by kernel_rfl, fun w hSw => by go_simp⟩) hS ?_)
  (try simp only [Act.put])
  (refine wpAnyH_take (i := 3) (v := .agg (cfgV s.ep s.mA s.ms.length s.mc)) rfl (by kernel_rfl) (by kernel_rfl) (by kernel_rfl) (fun _ _ _ h => h) (yieldsIf_load_mid (by kernel_rfl) 26 (.tmp 10) rfl b (2) (by kernel_rfl) ((cfgV s.ep s.mA s.ms.length s.mc).toList) _ (fun w hSw => (HCF.out w hSw).1) hu26 rfl (cf_list s.ep s.mA s.ms.length s.mc)) hS ?_)
  (try simp only [Act.put])
  (refine wpAnyH_take (i := 4) (v := chgV k i n r hh) rfl (by kernel_rfl) (by kernel_rfl) (by kernel_rfl) (fun _ _ _ h => h) (yieldsIf_load_mid (by kernel_rfl) 52 (.tmp 3) rfl w.heap.size (0) (by kernel_rfl) (chgL k i n r hh) _ (fun w hSw => (HCF.out w hSw).2) hu39 rfl HCL) hS ?_)
  (try simp only [Act.put])
  refine wpAnyH_ready (rs := [5, 9]) (by decide +kernel) (by simp) (AllReadyH.cons rfl (fun K hK => ?_) (AllReadyH.cons rfl (fun K hK => ?_) AllReadyH.nil))
  · go_simp
    (go_at_call 56; (with_reducible refine (HAP.out _ hS).mono ?_); rintro e u5 ⟨er, ep2, A2, c2, ms2, rfl, he8, hl2, ho, hb⟩)
    have HSZ := Lib.hid hS.size
    have HE8 := Lib.hid he8
    have HL2 := Lib.hid hl2
    have HO := Lib.hid (EK.Own.base ho (Nat.le_trans H1.out.size HSZ.out))
    clear he8 hl2 ho
    refine hK.out _ _ (hS.trans (hb.mono hS.size)) (fun hS => ?_)
    clear hK K hb HSZ
    (try simp only [Act.put])
    (refine wpAnyH_take (i := 6) (v := .tuple #[.agg (cfgV ep2 A2 ms2.length c2), .int .i64 er]) rfl (by kernel_rfl) (by kernel_rfl) (by kernel_rfl) (fun _ _ _ h => h) (Or.inl ⟨by kernel_rfl, fun w hSw => by go_simp⟩) hS ?_)
    (try simp only [Act.put])
    (refine wpAnyH_take (i := 7) (v := .agg (cfgV ep2 A2 ms2.length c2)) rfl (by kernel_rfl) (by kernel_rfl) (by kernel_rfl) (fun _ _ _ h => h) (Or.inl ⟨by kernel_rfl, fun w hSw => by go_simp⟩) hS ?_)
    (try simp only [Act.put])
    (refine wpAnyH_take (i := 8) (v := .int .i64 er) rfl (by kernel_rfl) (by kernel_rfl) (by kernel_rfl) (fun _ _ _ h => h) (Or.inl ⟨by kernel_rfl, fun w hSw => by go_simp⟩) hS ?_)
    (try simp only [Act.put])
    refine wpAnyH_ready (rs := [9]) (by decide +kernel) (by simp) (AllReadyH.cons rfl (fun K hK => ?_) AllReadyH.nil)
    go_simp
    have HSZ := Lib.hid hS.size
    refine hK.out _ _ (hS.alloc hS.size _) (fun hS => ?_)
    clear hK K
    (try simp only [Act.put])
    have hb : Below u5.heap.size u5 (u5.alloc (.cells (cfgV 0 none 0 0) 26)) := (Below.refl _ _).alloc (Nat.le_refl _) _
    have HB : Hid (Box (u5.alloc (.cells (cfgV 0 none 0 0) 26)) u5.heap.size 26 (cfgV 0 none 0 0)) := Lib.hid (Box.made _ _ _)
    have GHB : Hid (w1.heap.size ≤ u5.heap.size) := Lib.hid HSZ.out
    have HO := Lib.hid (EK.Own.keep HO.out hb)
    clear hb HSZ
    generalize u5.alloc (.cells (cfgV 0 none 0 0) 26) = u9 at *
    generalize u5.heap.size = b9 at *
    refine wpAnyH_ready (rs := [10]) (by decide +kernel) (by simp) (AllReadyH.cons rfl (fun K hK => ?_) AllReadyH.nil)
    obtain ⟨u10, hst, hbx, hg⟩ := HB.out.s_cf rfl ep2 A2 ms2.length c2
    have hS2 := hS.trans (below_only hg GHB.out hS.size)
    go_simp
    refine hK.out _ _ hS2 (fun hS => ?_)
    clear hK K hS2
    (try simp only [Act.put])
    have HB2 := Lib.hid hbx
    have HO2 := Lib.hid (own_box HO.out HB.out (by decide) hg)
    clear hbx hg hst HB HO
    (refine wpAnyH_take (i := 11) (v := .int .i64 er) rfl (by kernel_rfl) (by kernel_rfl) (by kernel_rfl) (fun _ _ _ h => h) (Or.inl ⟨by kernel_rfl, fun w hSw => by go_simp⟩) hS ?_)
    (try simp only [Act.put])
    refine wpAnyH_done (by kernel_rfl) ?_ _
    have H2 := Lib.hid (H1.out.call hS)
    have HF2 := Lib.hid (H1.out.far HF.out hS)
    have HT2 := Lib.hid (HT.out.trans (Twx.of_below hS))
    clear hS HCF HAP HX GHB HCL
    go_simp
    by_cases he : er = 0
    · subst he
      have l5 := HB2.out.l_cf
      obtain ⟨w9, hst9, ho9, hb9, ht9⟩ := H2.out.config HO2.out (ep := ep2)
      have HO9 := Lib.hid ho9
      have HB9 := Lib.hid hb9
      have HT9 := Lib.hid (HT2.out.trans ht9)
      clear ho9 hb9 ht9
      go_wp2
      go_ret
      exact ⟨{ s with ep := ep2, ms := ms2, mA := A2, mc := c2 }, 0, rfl, rfl, ⟨rfl, rfl⟩, by decide, HL2.out, HO9.out, HF2.out.trans HB9.out, HT9.out⟩
    · have e1 : (er == 0) = false := by simpa using he
      go_wp2
      go_ret
      exact ⟨s, er, rfl, rfl, ⟨rfl, rfl⟩, HE8.out, ⟨HM.out, fun h => h⟩, H2.out, HF2.out, HT2.out⟩
  · go_simp
    have HSZ := Lib.hid hS.size
    refine hK.out _ _ (hS.alloc hS.size _) (fun hS => ?_)
    clear hK K
    (try simp only [Act.put])
    have hb : Below wd.heap.size wd (wd.alloc (.cells (cfgV 0 none 0 0) 26)) := (Below.refl _ _).alloc (Nat.le_refl _) _
    have HB : Hid (Box (wd.alloc (.cells (cfgV 0 none 0 0) 26)) wd.heap.size 26 (cfgV 0 none 0 0)) := Lib.hid (Box.made _ _ _)
    have GHB : Hid (w1.heap.size ≤ wd.heap.size) := Lib.hid HSZ.out
    clear hb HSZ
    generalize wd.alloc (.cells (cfgV 0 none 0 0) 26) = u9 at *
    generalize wd.heap.size = b9 at *
    refine wpAnyH_ready (rs := [5]) (by decide +kernel) (by simp) (AllReadyH.cons rfl (fun K hK => ?_) AllReadyH.nil)
    go_simp
    (go_at_call 56; (with_reducible refine (HAP.out _ hS).mono ?_); rintro e u5 ⟨er, ep2, A2, c2, ms2, rfl, he8, hl2, ho, hb⟩)
    have HSZ := Lib.hid hS.size
    have HE8 := Lib.hid he8
    have HL2 := Lib.hid hl2
    have HO := Lib.hid (EK.Own.base ho (Nat.le_trans H1.out.size HSZ.out))
    clear he8 hl2 ho
    have HB := Lib.hid (HB.out.below hb HB.out.lt)
    refine hK.out _ _ (hS.trans (hb.mono hS.size)) (fun hS => ?_)
    clear hK K hb HSZ
    (try simp only [Act.put])
    (refine wpAnyH_take (i := 6) (v := .tuple #[.agg (cfgV ep2 A2 ms2.length c2), .int .i64 er]) rfl (by kernel_rfl) (by kernel_rfl) (by kernel_rfl) (fun _ _ _ h => h) (Or.inl ⟨by kernel_rfl, fun w hSw => by go_simp⟩) hS ?_)
    (try simp only [Act.put])
    (refine wpAnyH_take (i := 7) (v := .agg (cfgV ep2 A2 ms2.length c2)) rfl (by kernel_rfl) (by kernel_rfl) (by kernel_rfl) (fun _ _ _ h => h) (Or.inl ⟨by kernel_rfl, fun w hSw => by go_simp⟩) hS ?_)
    (try simp only [Act.put])
    (refine wpAnyH_take (i := 8) (v := .int .i64 er) rfl (by kernel_rfl) (by kernel_rfl) (by kernel_rfl) (fun _ _ _ h => h) (Or.inl ⟨by kernel_rfl, fun w hSw => by go_simp⟩) hS ?_)
    (try simp only [Act.put])
    refine wpAnyH_ready (rs := [10]) (by decide +kernel) (by simp) (AllReadyH.cons rfl (fun K hK => ?_) AllReadyH.nil)
    obtain ⟨u10, hst, hbx, hg⟩ := HB.out.s_cf rfl ep2 A2 ms2.length c2
    have hS2 := hS.trans (below_only hg GHB.out hS.size)
    go_simp
    refine hK.out _ _ hS2 (fun hS => ?_)
    clear hK K hS2
    (try simp only [Act.put])
    have HB2 := Lib.hid hbx
    have HO2 := Lib.hid (own_box HO.out HB.out (by decide) hg)
    clear hbx hg hst HB HO
    (refine wpAnyH_take (i := 11) (v := .int .i64 er) rfl (by kernel_rfl) (by kernel_rfl) (by kernel_rfl) (fun _ _ _ h => h) (Or.inl ⟨by kernel_rfl, fun w hSw => by go_simp⟩) hS ?_)
    (try simp only [Act.put])
    refine wpAnyH_done (by kernel_rfl) ?_ _
    have H2 := Lib.hid (H1.out.call hS)
    have HF2 := Lib.hid (H1.out.far HF.out hS)
    have HT2 := Lib.hid (HT.out.trans (Twx.of_below hS))
    clear hS HCF HAP HX GHB HCL
    go_simp
    by_cases he : er = 0
    · subst he
      have l5 := HB2.out.l_cf
      obtain ⟨w9, hst9, ho9, hb9, ht9⟩ := H2.out.config HO2.out (ep := ep2)
      have HO9 := Lib.hid ho9
      have HB9 := Lib.hid hb9
      have HT9 := Lib.hid (HT2.out.trans ht9)
      clear ho9 hb9 ht9
      go_wp2
      go_ret
      exact ⟨{ s with ep := ep2, ms := ms2, mA := A2, mc := c2 }, 0, rfl, rfl, ⟨rfl, rfl⟩, by decide, HL2.out, HO9.out, HF2.out.trans HB9.out, HT9.out⟩
    · have e1 : (er == 0) = false := by simpa using he
      go_wp2
      go_ret
      exact ⟨s, er, rfl, rfl, ⟨rfl, rfl⟩, HE8.out, ⟨HM.out, fun h => h⟩, H2.out, HF2.out, HT2.out⟩

end Go.Proofs.YtbgbidgggjkmmaaGreatDoor
