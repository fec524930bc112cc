/-
  The Writer of package code, on: Bytes.
-/
import Derived.Test.YtdgedhaiefingaaDoorWrite3
import Derived.Deep.RegionLawGrows
namespace Go.Proofs.YtdgedhaiefingaaDoor
open Go.RowKit

attribute [local go_sem ↓] Go.wp_at_zero Go.wp_at_succ

set_option maxHeartbeats 400000 in
theorem wbytes_nil (w : World) : Calls Tryd.prog 19 #[.pointer none] w fun e w' => e = .returned (.slice none 0 0) ∧ w = w' := by
  go_enter Tryd.func19, Tryd.ntmps19
  go_wp2
  go_ret
  exact ⟨rfl, rfl⟩

set_option maxHeartbeats 400000 in
theorem wbytes_any (base a : Nat) (bs : List UInt8) (w : World) (h : Wr w base a bs) (hb : bs.length ≤ 70368744177664) :
    Calls Tryd.prog 19 #[.pointer (some ⟨a, 0, none⟩)] w fun e w' => ∃ A c, e = .returned (.slice A bs.length c) ∧ c ≤ maxLen ∧
      (bs = [] ∨ w'.ownsRow w.heap.size 5 1 (.slice A bs.length c) bs.length (bs.map bv)) ∧ Below w.heap.size w w' := by
  obtain ⟨hba, hbs, v, hbox, hown⟩ := h
  have c0 := hbox.cell 0
  simp only [List.getElem?_toArray, List.getElem?_cons_zero] at c0
  obtain ⟨i0, hi0, hz0, hz1, hz2⟩ := info_parts wr_byte_info
  have hlt := hbox.lt
  rcases Nat.eq_zero_or_pos bs.length with hz | hpos
  · have hnil : bs = [] := List.eq_nil_of_length_eq_zero hz
    subst hnil
    obtain ⟨_, hv⟩ := hown
    rcases hv with ⟨rfl, _⟩ | ⟨g, cap, cur, rfl, _, hg, _, hcm, _⟩
    · clear hbox
      go_enter Tryd.func19, Tryd.ntmps19
      go_wp2
      go_region
      all_goals
        go_wp2
        go_ret
        exact ⟨none, 0, rfl, by simp [maxLen], .inl trivial, (Below.refl _ _).drew⟩
    · clear hbox hg
      go_enter Tryd.func19, Tryd.ntmps19
      go_wp2
      go_region
      all_goals
        go_wp2
        go_ret
        exact ⟨some ⟨g, 0, none⟩, 0, rfl, by simp [maxLen], .inl trivial, (Below.refl _ _).drew⟩
  · obtain ⟨g, cap, rfl, hg1, hg2⟩ := hown.form hpos
    have hN : ∀ j u, (bs.map bv)[j]? = some u → w.drew.cell? ((⟨g, 0, none⟩ : Addr).add j) = some u := hown.cells rfl
    have HN := Lib.hid hN
    have hone := Lib.hid (bv_one bs)
    have hlen : Hid ((bs.map bv).length = bs.length * 1) := by
      show _ = _
      rw [List.length_map, Nat.mul_one]
    have hm1 : 0 + bs.length ≤ maxLen := by unfold maxLen; omega
    have hm2 : (0 + bs.length) * 1 ≤ 140737488355328 := by omega
    have hm3 : 0 < 0 + bs.length := by omega
    have hcm : cap ≤ maxLen := by
      rcases hown.2 with ⟨h, _⟩ | ⟨g', cap', cur, hv, _, _, _, hm, _⟩
      · cases h
      · injection hv with _ _ e3
        rw [e3]
        exact hm
    unfold maxLen at hcm
    clear hbox hown hN
    go_enter Tryd.func19, Tryd.ntmps19
    go_wp2
    go_region_law ((refine step_append_grows (by rfl) _ _ _ (by rfl) 5 i0 _ 1 1 Tryd.underlying37 hi0 hz0 hz1 hz2 rfl (by omega) (some ⟨g, 0, none⟩) 0 0 [] (by rfl) (fun h => by cases h) (by rfl) (fun _ _ _ _ h => by simp at h) ⟨g, 0, none⟩ bs.length cap (bs.map bv) (by rfl) hlen.out HN.out hone.out hm3 hm1 hm2 ?_; intro v1 w1 hown1 hgrow))
    all_goals
      obtain ⟨g2, cap2, rfl, hg3, hg4⟩ := hown1.form hm3
      have hown2 : w1.ownsRow w.heap.size 5 1 (.slice (some ⟨g2, 0, none⟩) bs.length cap2) bs.length (bs.map bv) := by simpa using hown1
      have HO := Lib.hid hown2
      have HG := Lib.hid hgrow
      clear hown1 hown2 hgrow c0
      go_wp2
      go_ret
      have hcap : cap2 ≤ maxLen := by
        rcases HO.out.2 with ⟨h, _⟩ | ⟨g', cap', cur, hv, _, _, _, hm, _⟩
        · cases h
        · injection hv with _ _ e3
          rw [e3]
          exact hm
      refine ⟨some ⟨g2, 0, none⟩, cap2, ret_val ?_, hcap, .inr HO.out, (Below.refl w.heap.size w).drew.grown HG.out (Nat.le_refl _) (fun k h => by cases h)⟩
      show Value.slice _ (0 + bs.length) _ = _
      rw [Nat.zero_add]

end Go.Proofs.YtdgedhaiefingaaDoor
