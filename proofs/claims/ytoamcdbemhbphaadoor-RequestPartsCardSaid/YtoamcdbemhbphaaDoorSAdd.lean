/-
  Package sha: bytes taken in (sha.hash.add).
-/
import Derived.Test.YtoamcdbemhbphaaDoorSB
namespace Go.Proofs.YtoamcdbemhbphaaDoor
open Go.RowKit

attribute [local go_sem ↓] ldState_def ldBlock_def stState_def

theorem Roots.of_below_only {w w' : World} {a : Nat} (h : Roots w) (hg : w.grownBy w' (some a)) (ha : 0 < a) : Roots w' :=
  h.below (B := 0 + 1) (below_only hg (by omega) (by have := h.1; omega)) (by omega)
/-- A hash in memory that has taken in l. -/
def HashF (w : World) (a : Nat) (l : List UInt8) (size : Nat) : Prop := ∃ st blk used, HashW w a st blk used size ∧ Fed l st blk used

def sliceLen (v : Value) : Nat := match v with | .slice _ n _ => n | _ => 0

theorem slice_from {A : Option Addr} {n c m : Nat} (hm : m ≤ n) (w : World) :
    (Instr.slice 35 (.slice A n c) (some (.int .i64 (m : Int))) none none).run Tryd.prog w = .ok (.slice (if c = m then A else A.map (·.add m)) (n - m) (c - m)) w := by
  have hu : Tryd.prog.underlying 35 = some (.slice (Tryd.prog.elem 35)) := by kernel_rfl
  have hs : (sizeOf (Tryd.prog.elem 35)).run Tryd.prog w = .ok 1 w := by kernel_rfl
  rw [run_slice_l w 35 A n c hu .i64 (m : Int) (by omega) (by omega), hs]
  simp [sliced]

set_option maxRecDepth 100000 in
set_option maxHeartbeats 2000000 in
theorem add_any (a : Nat) (l : List UInt8) (size : Nat) (p : List UInt8) (A : Option Addr) (c : Nat) (w : World) (hF : HashF w a l size) (hs : Sees w a A (p.map bv)) (hc : p.length ≤ c) (hm : c ≤ maxLen) (hz : size + p.length < 4611686018427387904) (hR : Roots w) (ha : 0 < a) :
    Calls Tryd.prog 21 #[.pointer (some ⟨a, 0, none⟩), .slice A p.length c] w fun e w' => e = .returned (.tuple #[]) ∧ HashF w' a (l ++ p) (size + p.length) ∧ w.grownBy w' (some a) := by
  have HR := Lib.hid hR
  have HS := Lib.hid hs
  have HF := Lib.hid hF
  obtain ⟨st, blk, used, hW, hfed⟩ := hF
  have c73 := hW.cell_size
  have f73 := hW.free 73
  have HW := Lib.hid hW
  have HFD := Lib.hid hfed
  unfold maxLen at hm
  clear hR hs hW hfed
  go_enter Tryd.func21, Tryd.ntmps21
  go_wp2
  obtain ⟨w1, hw1⟩ : ∃ w1, w1 = w.setCell ⟨a, 73, none⟩ (.int .u64 ((size : Int) + (p.length : Int))) := ⟨_, rfl⟩
  rw [← hw1]
  have HF1 : Hid (HashF w1 a l (size + p.length)) := by
    have h := HW.out.put_size (size + p.length)
    rw [Int.natCast_add, ← hw1] at h
    exact ⟨_, _, _, h, HFD.out⟩
  have HG1 : Hid (w.grownBy w1 (some a)) := by rw [hw1]; exact only_put (only_refl _ _) _ _
  have HL := Lib.hid HW.out.lt
  clear hw1 c73 f73 HW HFD HF
  go_loopw [1] (fun v wr => ∃ (A' : Option Addr) (c' : Nat) (done q : List UInt8), v = .slice A' q.length c' ∧ q.length ≤ c' ∧ c' ≤ 9223372036854775807 ∧ q.length ≤ p.length ∧ Hid (p = done ++ q) ∧ Hid (Sees wr a A' (q.map bv)) ∧ Hid (HashF wr a (l ++ done) (size + p.length)) ∧ Hid (w.grownBy wr (some a))) (fun v _ => sliceLen v)
  case atStart =>
    refine ⟨A, c, [], p, rfl, hc, by omega, Nat.le_refl _, rfl, ?_, by show HashF _ _ _ _; rw [List.append_nil]; exact HF1.out, HG1⟩
    exact HS.out.keep (fun q hq => World.cell?_of_block (HG1.out.block q.block (by have := HL.out; omega) (by simp; omega)))
  case round =>
    clear HF1 HG1 HS hc
    obtain ⟨A', c', done, q, rfl, hqc, hcm, hqp, HP, HS, HF, HG⟩ := hrel
    by_cases hq : 0 < q.length
    · obtain ⟨st, blk, used, hW, hfed⟩ := HF.out
      have hu := hfed.lt
      have HW := Lib.hid hW
      have HFD := Lib.hid hfed
      clear hW hfed HF
      go_wp2
      refine wp_still_tail 9 (by kernel_rfl) (by kernel_rfl) ?_
      intro w2 hw2
      have HW2 : Hid (HashW w2 a st blk used (size + p.length)) := by rw [hw2]; exact HW.out.drew
      have HG2 : Hid (w.grownBy w2 (some a)) := by rw [hw2]; exact only_drew HG.out
      have HS2 : Hid (Sees w2 a A' (q.map bv)) := by rw [hw2]; exact HS.out
      clear hw2 HW HG HS
      simp only [List.take_succ_cons, List.take_zero, List.drop_succ_cons, List.drop_zero]
      have c72 := HW2.out.cell_used
      have b0 : (used : Int) < 64 := by omega
      have b1 : (used : Int) ≤ 64 := by omega
      have b2 : ¬ 64 = used := by omega
      repeat still_step
      try refine wpStill_nil ?_
      obtain ⟨g, o, hA, hg, hsc⟩ : ∃ g o, A' = some ⟨g, o, none⟩ ∧ g < a ∧ ∀ j u, (q.map bv)[j]? = some u → w2.cell? ⟨g, o + j, none⟩ = some u := by
        rcases HS2.out with h | h
        · rw [List.map_eq_nil_iff] at h
          rw [h] at hq
          exact absurd hq (by decide)
        · exact h
      have HA := Lib.hid hA
      have HSC := Lib.hid hsc
      obtain ⟨m, hm⟩ : ∃ m, m = Nat.min q.length (64 - used) := ⟨_, rfl⟩
      have hm' : m = min q.length (64 - used) := hm
      have hxl : Hid ((q.take m).length = m) := by
        show _ = _
        rw [List.length_take]
        omega
      have HMM := Lib.hid hm
      have hmq : m ≤ q.length := by omega
      have hmu : used + m ≤ 64 := by omega
      have hm0 : 0 < m := by omega
      have HFU : Hid (used + m = 64 ∨ used + m < 64 ∧ m = q.length) := by show _ ∨ _; omega
      clear hm hm' hA hsc c72 b0 b1 b2
      have hcsl : Hid (((q.take m).map bv).length = Nat.min q.length (64 - used)) := by
        show _ = _
        rw [List.length_map, hxl.out]
        exact HMM.out
      refine wpList_copy_own (o := ⟨some 27, _, _, _, _, _⟩) rfl (.tmp 25) (.tmp 26) _ _ rfl 5 Tryd.underlying35 (by kernel_rfl) a (8 + used) (64 - used) (64 - used) ⟨g, o, none⟩ q.length c' (by simp [Act.eval]) (by rw [← HA.out]; simp [Act.eval]) (hashList st blk used (size + p.length)).toArray 64 HW2.out.box ((q.take m).map bv) hcsl.out ?c1 ?c2 (bv_one _) ?c3
      case c1 =>
        intro j v hj
        rw [plain_add]
        refine HSC.out j v ?_
        rw [List.getElem?_map, List.getElem?_take] at hj
        rw [List.getElem?_map]
        split at hj
        · exact hj
        · cases hj
      case c2 =>
        rw [List.size_toArray, hashList_length _ _ _ _ HW2.out.len, List.length_map, hxl.out]
        omega
      have HW3 := Lib.hid (HW2.out.copied used (q.take m) (by rw [hxl.out]; exact hmu))
      have HG3 := Lib.hid (only_trans HG2.out (only_setRow w2 a ((hashList st blk used (size + p.length)).toArray.toList.take (8 + used) ++ ((q.take m).map bv ++ (hashList st blk used (size + p.length)).toArray.toList.drop (8 + used + ((q.take m).map bv).length))).toArray))
      have HS3 := Lib.hid (HS2.out.keep (w' := w2.setRow a ((hashList st blk used (size + p.length)).toArray.toList.take (8 + used) ++ ((q.take m).map bv ++ (hashList st blk used (size + p.length)).toArray.toList.drop (8 + used + ((q.take m).map bv).length))).toArray) (fun q hq => World.cell?_of_block (setRow_other w2 a q.block _ (by omega))))
      generalize w2.setRow a ((hashList st blk used (size + p.length)).toArray.toList.take (8 + used) ++ ((q.take m).map bv ++ (hashList st blk used (size + p.length)).toArray.toList.drop (8 + used + ((q.take m).map bv).length))).toArray = w3 at *
      rw [List.length_map, hxl.out]
      simp only [Act.put]
      clear HW2 HG2 HS2 HSC hcsl hg
      have HCUT := Lib.hid (HS3.out.cut (k := m) (cap := c') (by rw [List.length_map]; exact hqc) (by rw [List.length_map]; exact hmq))
      have hsl := slice_from (A := A') (n := q.length) (c := c') (m := m) hmq
      generalize (if c' = m then A' else A'.map (·.add m)) = A2 at *
      have c72 := HW3.out.cell_used
      have f72 := HW3.out.free 72
      have HW4 := Lib.hid (HW3.out.put_used (used + m))
      rw [Int.natCast_add] at HW4
      rcases HFU.out with hfull | hpart
      · have heq2 : (used : Int) + (m : Int) = 64 := by omega
        have HFUL := Lib.hid hfull
        clear HW4 hfull
        have HW4 := Lib.hid (HW3.out.put_used 64)
        have HG4 := Lib.hid (only_put HG3.out 72 (.int .i64 ((64 : Nat) : Int)))
        have HC4 : Hid (Sees (w3.setCell ⟨a, 72, none⟩ (.int .i64 ((64 : Nat) : Int))) a A2 ((q.drop m).map bv)) := by
          have hcut := HCUT.out
          rw [← List.map_drop] at hcut
          exact hcut.keep (fun x hx => World.cell?_of_block (heap_setCell_other _ _ x.block _ (by simp; omega)))
        have HR4 : Hid (Roots (w3.setCell ⟨a, 72, none⟩ (.int .i64 ((64 : Nat) : Int)))) := HR.out.of_below_only HG4.out ha
        rw [show ((64 : Nat) : Int) = 64 from rfl] at HW4 HG4 HC4 HR4
        clear HW3 HG3 HS3 HCUT
        go_wp2
        generalize w3.setCell ⟨a, 72, none⟩ (.int .i64 64) = w4 at *
        clear c72 f72 heq2 hsl
        have HW5 := Lib.hid HW4.out.drew
        have HG5 : Hid (w.grownBy w4.drew (some a)) := only_drew HG4.out
        have HC5 : Hid (Sees w4.drew a A2 ((q.drop m).map bv)) := HC4.out
        have HR5 : Hid (Roots w4.drew) := HR4.out
        clear HW4 HG4 HC4 HR4
        have l1 := HW5.out.load_state
        have l2 := HW5.out.load_block
        have HC := Lib.hid (mixed_any st (into blk used (q.take m)) HW5.out.len w4.drew HR5.out)
        generalize hM : mix st (into blk used (q.take m)) = M at *
        have HMX := Lib.hid hM
        clear hM
        go_region_with ((go_at_call 25; refine (HC.out).mono ?_; rintro e w6 ⟨rfl, hB6⟩; have HW6 := Lib.hid (HW5.out.of_below hB6 HW5.out.lt); have HB6 := Lib.hid hB6; have hst := HW6.out.store_state M; clear hB6))
        all_goals
          have HW7 := Lib.hid (HW6.out.put_state M)
          have HG7 := Lib.hid (only_trans (only_trans HG5.out (only_below HB6.out (some a))) (only_cells (M.list.map wv) 0 w6))
          have HC7 : Hid (Sees (w6.setCells a 0 (M.list.map wv)) a A2 ((q.drop m).map bv)) := by
            refine (HC5.out.keep (fun x hx => HB6.out.cell (by have := HW5.out.lt; omega))).keep (fun x hx => World.cell?_of_block ((only_cells (M.list.map wv) 0 w6).block x.block ?_ ?_))
            · have := HW6.out.lt
              omega
            · simp; omega
          clear HW6 HB6 HC5 HG5 hst l1 l2 HC HR5 HW5
          generalize w6.setCells a 0 (M.list.map wv) = w7 at *
          have c72 := HW7.out.cell_used
          have f72 := HW7.out.free 72
          have HW8 := Lib.hid (HW7.out.put_used 0)
          rw [show ((0 : Nat) : Int) = 0 from rfl] at HW8
          go_wp2
          go_roundw
          case rel =>
            refine ⟨A2, c' - m, done ++ q.take m, q.drop m, by rw [List.length_drop], by rw [List.length_drop]; omega, by omega, by rw [List.length_drop]; omega, ?_, ?_, ?_, ?_⟩
            · have e := HP.out
              show p = _
              rw [List.append_assoc, List.take_append_drop]
              exact e
            · exact HC7.out.keep (fun x hx => World.cell?_of_block (heap_setCell_other _ _ x.block _ (by simp; omega)))
            · have hf := HFD.out.full (q.take m) (by rw [hxl.out]; exact HFUL.out)
              rw [HMX.out, List.append_assoc] at hf
              exact ⟨_, _, _, HW8.out, hf⟩
            · exact only_put HG7.out _ _
          case measure => simp [sliceLen]; omega
      · have hlt := hpart.1
        have HMQ := Lib.hid hpart.2
        clear hpart
        have hne : ((used : Int) + (m : Int) == 64) = false := by simp; omega
        go_wp2
        go_roundw
        case rel =>
          refine ⟨A2, c' - m, done ++ q.take m, q.drop m, by rw [List.length_drop], by rw [List.length_drop]; omega, by omega, by rw [List.length_drop]; omega, ?_, ?_, ?_, ?_⟩
          · have e := HP.out
            show p = _
            rw [List.append_assoc, List.take_append_drop]
            exact e
          · have hcut := HCUT.out
            rw [← List.map_drop] at hcut
            exact hcut.keep (fun x hx => World.cell?_of_block (heap_setCell_other _ _ x.block _ (by simp; omega)))
          · have hf := HFD.out.more (q.take m) (by rw [hxl.out]; exact hlt)
            rw [hxl.out, List.append_assoc] at hf
            exact ⟨_, _, _, HW4.out, hf⟩
          · exact only_put HG3.out _ _
        case measure => simp [sliceLen]; have := HMQ.out; omega
    · have hq0 : q = [] := List.eq_nil_of_length_eq_zero (by omega)
      subst hq0
      go_wp2
      go_end0
      have hF := HF.out
      have e := HP.out
      rw [List.append_nil] at e
      rw [← e] at hF
      exact ⟨rfl, hF, HG.out⟩
end Go.Proofs.YtoamcdbemhbphaaDoor
