/-
  The Writer of package code, on: Digest, Bytes.
-/
import Derived.Test.YtdgedhaiefingaaDoorWrite2
import Derived.Deep.Cut
namespace Go.Proofs.YtdgedhaiefingaaDoor
open Go.RowKit

attribute [local go_sem ↓] Go.wp_at_zero Go.wp_at_succ

set_option maxHeartbeats 400000 in
theorem wdigest_nil (v : Value) (w : World) : Calls Tryd.prog 15 #[.pointer none, v] w fun e w' => e = .returned (.tuple #[]) ∧ w = w' := by
  go_enter Tryd.func15, Tryd.ntmps15
  go_wp2
  refine bodyPost_ret (Go.Proofs.YtdgedhaiefingaaDoor.results_none rfl _ _ _) rfl ?_
  exact ⟨rfl, rfl⟩

theorem flat_len32 : ∀ ds : List (List UInt8), (∀ d ∈ ds, d.length = 32) → (ds.flatMap id).length = 32 * ds.length
  | [], _ => rfl
  | d :: r, h => by
    rw [List.flatMap_cons, List.length_append, flat_len32 r (fun x hx => h x (List.mem_cons_of_mem _ hx)), List.length_cons]
    have := h d List.mem_cons_self
    simp only [id]
    omega
theorem flat_at32 : ∀ (ds : List (List UInt8)), (∀ d ∈ ds, d.length = 32) → ∀ (k : Nat) (h : k < ds.length) (j : Nat), j < 32 → (ds.flatMap id)[32 * k + j]? = ds[k][j]?
  | [], _, k, h, _, _ => by simp at h
  | d :: r, h, 0, _, j, hj => by
    have := h d List.mem_cons_self
    rw [List.flatMap_cons, List.getElem?_append_left (by simp only [id]; omega)]
    simp
  | d :: r, h, k + 1, hk, j, hj => by
    have := h d List.mem_cons_self
    rw [List.flatMap_cons, List.getElem?_append_right (by simp only [id]; omega)]
    have e : 32 * (k + 1) + j - (id d).length = 32 * k + j := by simp only [id]; omega
    rw [e, flat_at32 r (fun x hx => h x (List.mem_cons_of_mem _ hx)) k (by simpa using hk) j hj]
    simp

abbrev zcells' : Array Value := #[Value.int IntKind.u8 0, Value.int IntKind.u8 0, Value.int IntKind.u8 0, Value.int IntKind.u8 0, Value.int IntKind.u8 0, Value.int IntKind.u8 0, Value.int IntKind.u8 0, Value.int IntKind.u8 0, Value.int IntKind.u8 0, Value.int IntKind.u8 0, Value.int IntKind.u8 0, Value.int IntKind.u8 0, Value.int IntKind.u8 0, Value.int IntKind.u8 0, Value.int IntKind.u8 0, Value.int IntKind.u8 0, Value.int IntKind.u8 0, Value.int IntKind.u8 0, Value.int IntKind.u8 0, Value.int IntKind.u8 0, Value.int IntKind.u8 0, Value.int IntKind.u8 0, Value.int IntKind.u8 0, Value.int IntKind.u8 0, Value.int IntKind.u8 0, Value.int IntKind.u8 0, Value.int IntKind.u8 0, Value.int IntKind.u8 0, Value.int IntKind.u8 0, Value.int IntKind.u8 0, Value.int IntKind.u8 0, Value.int IntKind.u8 0]

set_option maxHeartbeats 400000 in
theorem wdigest_any (base a : Nat) (A : Option Addr) (ds : List (List UInt8)) (hd : ∀ d ∈ ds, d.length = 32) (c : Nat) (bs : List UInt8) (w : World) (h : Wr w base a bs) (hs : Src w a A ((ds.flatMap id).map bv)) (hb : bs.length + 32 * ds.length ≤ 70368744177664) :
    Calls Tryd.prog 15 #[.pointer (some ⟨a, 0, none⟩), .slice A ds.length c] w fun e w' =>
      e = .returned (.tuple #[]) ∧ Wr w' base a (bs ++ ds.flatMap id) ∧ WF a w w' := by
  go_enter Tryd.func15, Tryd.ntmps15
  go_wp2
  go_loopw [5, 10] (fun _ i wr => ∃ k : Nat, k ≤ ds.length ∧ i = .int .i64 k ∧ Hid (Wr wr base a (bs ++ (ds.take k).flatMap id)) ∧ Hid (WF a w wr)) (fun _ i _ => ds.length - (intOf i).toNat)
  case atStart => exact ⟨0, Nat.zero_le _, rfl, (by show Wr w base a (bs ++ []); rw [List.append_nil]; exact h), WF.refl _ _⟩
  case round =>
    obtain ⟨k, hk, rfl, hW, hF⟩ := hrel
    by_cases hlt : k < ds.length
    · obtain ⟨g, o, rfl, hr⟩ : ∃ g o, A = some ⟨g, o, none⟩ ∧ wr.rangeAt g (o + k * 32) (ds[k].map bv) := by
        rcases hs with h | ⟨g, o, e, hg, hn, hc⟩
        · have e := congrArg List.length h
          rw [List.length_map, flat_len32 ds hd] at e
          simp at e
          omega
        · refine ⟨g, o, e, fun j v hj => ?_⟩
          have hdl := hd ds[k] (List.getElem_mem hlt)
          have hj32 : j < 32 := by
            rcases Nat.lt_or_ge j 32 with h | h
            · exact h
            · rw [List.getElem?_eq_none (by rw [List.length_map]; omega)] at hj; cases hj
          rw [World.cell?_of_block (hF.out.block g hg hn), Nat.add_assoc]
          refine hc _ _ ?_
          rw [Nat.mul_comm k 32, List.getElem?_map, flat_at32 ds hd k hlt j hj32, ← List.getElem?_map]
          exact hj
      have hdl := hd ds[k] (List.getElem_mem hlt)
      have HB : Hid (bs ++ (ds.take (k + 1)).flatMap id = bs ++ (ds.take k).flatMap id ++ ds[k]) := by
        show _ = _
        rw [take_snoc' ds k hlt, List.flatMap_append]
        simp
      generalize ds[k] = d at *
      have hl6 : (bs ++ (ds.take k).flatMap id).length + 32 ≤ 70368744177664 := by
        rw [List.length_append, flat_len32 _ (fun x hx => hd x (List.mem_of_mem_take hx)), List.length_take]
        omega
      generalize bs ++ (ds.take k).flatMap id = bk at *
      have HR := Lib.hid hr
      have HDL := Lib.hid hdl
      clear hs h hr hdl
      have hsz : Hid ((Tryd.prog.info? 23).map (·.size) = some (d.map bv).length) := by
        show _ = _
        rw [List.length_map, HDL.out]
        kernel_rfl
      have hsz2 : Hid ((Tryd.prog.info? 23).map (·.size) = some (d.map bv).toArray.size) := hsz
      have hsz3 : Hid ((d.map bv).toArray.size = zcells'.size) := by
        show _ = _
        rw [List.size_toArray, List.length_map, HDL.out]
        rfl
      have hone2 : Hid (∀ v ∈ (d.map bv).toArray.toList, v.oneCell' = true) := bv_one d
      have hB0 := Lib.hid (Box.made wr 23 zcells')
      go_upto_region 4 with (first
        | (with_reducible show wpList _ _ _ ((⟨some 13, _, _, _, _, _⟩ : Oper) :: _) _ _; refine wpList_load_mid rfl 23 (.tmp 12) rfl g (o + k * 32) rfl (d.map bv) _ HR.out Tryd.underlying23 rfl hsz.out ?_)
        | (with_reducible show wpList _ _ _ ((⟨none, .store _ _ _, _, _, _, _⟩ : Oper) :: _) _ _; refine wpList_store_box rfl 23 (.tmp 5) (.tmp 13) rfl wr.heap.size (d.map bv).toArray rfl rfl 23 zcells' hB0.out hsz3.out hsz2.out hone2.out ?_; intro w1 hb1 hg1))
      simp only [Act.put]
      have hB1 : Below wr.heap.size wr w1 := ((Below.refl _ _).alloc (Nat.le_refl _) _).trans (below_only hg1 (Nat.le_refl _) (by simp))
      have HF1 := Lib.hid (hF.out.trans (WF.of_below hB1 hW.out.lt))
      have HB1 := Lib.hid hb1
      have hN : ∀ j u, (d.map bv)[j]? = some u → w1.drew.cell? ((⟨wr.heap.size, 0, none⟩ : Addr).add j) = some u := World.news_of_block (cs := (d.map bv).toArray) hb1
      have HN := Lib.hid hN
      have hlen : Hid ((d.map bv).length = 32 * 1) := by
        show _ = _
        rw [List.length_map, HDL.out]
      have hone3 : Hid (∀ v ∈ d.map bv, v.oneCell' = true) := bv_one d
      obtain ⟨hba, hbs, v, hbox, hown⟩ := hW.out.below_size hB1
      have c0 := hbox.cell 0
      have f0 := hbox.free 0
      simp only [List.getElem?_toArray, List.getElem?_cons_zero] at c0
      obtain ⟨i0, hi0, hz0, hz1, hz2⟩ := info_parts wr_byte_info
      have hlt1 := hbox.lt
      have hne := hbox.own_ne hown (by decide)
      have hm1 : bk.length + 32 ≤ maxLen := by unfold maxLen; omega
      have hm2 : (bk.length + 32) * 1 ≤ 140737488355328 := by omega
      clear hb1 hg1 hB1 hN hsz hsz2 hsz3 hone2 hB0 HB1 HR
      go_region_law ((refine step_append_lies _ (by rfl) _ _ _ (by rfl) base 5 i0 _ 1 1 Tryd.underlying37 hi0 hz0 hz1 hz2 rfl (by omega) v bk.length (bk.map bv) (by rfl) hown.drew ⟨wr.heap.size, 0, none⟩ 32 32 (d.map bv) (by rfl) hlen.out HN.out hone3.out (by omega) hm1 hm2 hbs w1.heap.size (by simp) ?_; intro gg cap w2 hown1 hgrow hat hlt2; have hb1 := hbox.drew.grown hgrow (Ne.symm hne); have k0 := hb1.cell 0; have k1 := hb1.free 0; simp only [List.getElem?_toArray, List.getElem?_cons_zero] at k0))
      all_goals
        have R := Wr.step (m := bk.length + 32) hba hbs hbox hown ((Below.refl _ _).drew) hgrow (more := d) hown1 (hat.imp_right (fun e => by omega)) (by rw [HDL.out])
        have HR1 := Lib.hid R.1
        have HR2 := Lib.hid (HF1.out.trans R.2)
        clear R hown1 hgrow hat hb1 k0 k1 hown hbox c0 f0 hne hm1 hm2 hz0 hz1 hz2 hi0 hW hlen hone3 HN
        go_wp2
        go_roundw
        case rel => exact ⟨k + 1, by omega, by go_num, (by show Wr _ base a _; rw [HB.out]; exact HR1.out), HR2⟩
        case measure => simp [intOf]; omega
    · go_wp2
      go_end0
      have hW' := hW.out
      rw [List.take_of_length_le (by omega)] at hW'
      exact ⟨rfl, hW', hF.out⟩

end Go.Proofs.YtdgedhaiefingaaDoor
