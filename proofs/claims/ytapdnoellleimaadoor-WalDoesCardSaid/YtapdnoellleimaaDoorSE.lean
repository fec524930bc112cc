/-
  Package sha: bytes taken in (sha.hash.add).
  Package sha: a hash of no bytes (sha.start); the document's numbers (wapentakeref02.Numbers).
  Package sha: the end of a hash (sha.hash.end).
-/
import Derived.Test.YtapdnoellleimaaDoorSB
import Derived.Lib.SliceRun
namespace Go.Proofs.YtapdnoellleimaaDoor
open Go.RowKit

attribute [local go_sem ↓] ldState_def ldBlock_def stState_def

theorem Roots.of_below_only {w w' : World} {a : Nat} (h : Roots w) (hg : w.grownBy w' (some a)) (ha : 0 < a) : Roots w' :=
  h.below (B := 0 + 1) (below_only hg (by omega) (by have := h.1; omega)) (by omega)
/-- A hash in memory that has taken in l. -/
def HashF (w : World) (a : Nat) (l : List UInt8) (size : Nat) : Prop := ∃ st blk used, HashW w a st blk used size ∧ Fed l st blk used

def sliceLen (v : Value) : Nat := match v with | .slice _ n _ => n | _ => 0

theorem slice_from {A : Option Addr} {n c m : Nat} (hm : m ≤ n) (w : World) :
    (Instr.slice 22 (.slice A n c) (some (.int .i64 (m : Int))) none none).run Tryd.prog w = .ok (.slice (if c = m then A else A.map (·.add m)) (n - m) (c - m)) w := by
  have hu : Tryd.prog.underlying 22 = some (.slice (Tryd.prog.elem 22)) := by kernel_rfl
  have hs : (sizeOf (Tryd.prog.elem 22)).run Tryd.prog w = .ok 1 w := by kernel_rfl
  rw [run_slice_l w 22 A n c hu .i64 (m : Int) (by omega) (by omega), hs]
  simp [sliced]

set_option maxRecDepth 100000 in
set_option maxHeartbeats 2000000 in
theorem add_any (a : Nat) (l : List UInt8) (size : Nat) (p : List UInt8) (A : Option Addr) (c : Nat) (w : World) (hF : HashF w a l size) (hs : Sees w a A (p.map bv)) (hc : p.length ≤ c) (hm : c ≤ maxLen) (hz : size + p.length < 4611686018427387904) (hR : Roots w) (ha : 0 < a) :
    Calls Tryd.prog 75 #[.pointer (some ⟨a, 0, none⟩), .slice A p.length c] w fun e w' => e = .returned (.tuple #[]) ∧ HashF w' a (l ++ p) (size + p.length) ∧ w.grownBy w' (some a) := by
  have HR := Lib.hid hR
  have HS := Lib.hid hs
  have HF := Lib.hid hF
  obtain ⟨st, blk, used, hW, hfed⟩ := hF
  have c73 := hW.cell_size
  have f73 := hW.free 73
  have HW := Lib.hid hW
  have HFD := Lib.hid hfed
  unfold maxLen at hm
  clear hR hs hW hfed
  go_enter Tryd.func75, Tryd.ntmps75
  go_wp2
  obtain ⟨w1, hw1⟩ : ∃ w1, w1 = w.setCell ⟨a, 73, none⟩ (.int .u64 ((size : Int) + (p.length : Int))) := ⟨_, rfl⟩
  rw [← hw1]
  have HF1 : Hid (HashF w1 a l (size + p.length)) := by
    have h := HW.out.put_size (size + p.length)
    rw [Int.natCast_add, ← hw1] at h
    exact ⟨_, _, _, h, HFD.out⟩
  have HG1 : Hid (w.grownBy w1 (some a)) := by rw [hw1]; exact only_put (only_refl _ _) _ _
  have HL := Lib.hid HW.out.lt
  clear hw1 c73 f73 HW HFD HF
  go_loopw [1] (fun v wr => ∃ (A' : Option Addr) (c' : Nat) (done q : List UInt8), v = .slice A' q.length c' ∧ q.length ≤ c' ∧ c' ≤ 9223372036854775807 ∧ q.length ≤ p.length ∧ Hid (p = done ++ q) ∧ Hid (Sees wr a A' (q.map bv)) ∧ Hid (HashF wr a (l ++ done) (size + p.length)) ∧ Hid (w.grownBy wr (some a))) (fun v _ => sliceLen v)
  case atStart =>
    refine ⟨A, c, [], p, rfl, hc, by omega, Nat.le_refl _, rfl, ?_, by show HashF _ _ _ _; rw [List.append_nil]; exact HF1.out, HG1⟩
    exact HS.out.keep (fun q hq => World.cell?_of_block (HG1.out.block q.block (by have := HL.out; omega) (by simp; omega)))
  case round =>
    clear HF1 HG1 HS hc
    obtain ⟨A', c', done, q, rfl, hqc, hcm, hqp, HP, HS, HF, HG⟩ := hrel
    by_cases hq : 0 < q.length
    · obtain ⟨st, blk, used, hW, hfed⟩ := HF.out
      have hu := hfed.lt
      have HW := Lib.hid hW
      have HFD := Lib.hid hfed
      clear hW hfed HF
      go_wp2
      refine wp_still_tail 9 (by kernel_rfl) (by kernel_rfl) ?_
      intro w2 hw2
      have HW2 : Hid (HashW w2 a st blk used (size + p.length)) := by rw [hw2]; exact HW.out.drew
      have HG2 : Hid (w.grownBy w2 (some a)) := by rw [hw2]; exact only_drew HG.out
      have HS2 : Hid (Sees w2 a A' (q.map bv)) := by rw [hw2]; exact HS.out
      clear hw2 HW HG HS
      simp only [List.take_succ_cons, List.take_zero, List.drop_succ_cons, List.drop_zero]
      have c72 := HW2.out.cell_used
      have b0 : (used : Int) < 64 := by omega
      have b1 : (used : Int) ≤ 64 := by omega
      have b2 : ¬ 64 = used := by omega
      repeat still_step
      try refine wpStill_nil ?_
      obtain ⟨g, o, hA, hg, hsc⟩ : ∃ g o, A' = some ⟨g, o, none⟩ ∧ g < a ∧ ∀ j u, (q.map bv)[j]? = some u → w2.cell? ⟨g, o + j, none⟩ = some u := by
        rcases HS2.out with h | h
        · rw [List.map_eq_nil_iff] at h
          rw [h] at hq
          exact absurd hq (by decide)
        · exact h
      have HA := Lib.hid hA
      have HSC := Lib.hid hsc
      obtain ⟨m, hm⟩ : ∃ m, m = Nat.min q.length (64 - used) := ⟨_, rfl⟩
      have hm' : m = min q.length (64 - used) := hm
      have hxl : Hid ((q.take m).length = m) := by
        show _ = _
        rw [List.length_take]
        omega
      have HMM := Lib.hid hm
      have hmq : m ≤ q.length := by omega
      have hmu : used + m ≤ 64 := by omega
      have hm0 : 0 < m := by omega
      have HFU : Hid (used + m = 64 ∨ used + m < 64 ∧ m = q.length) := by show _ ∨ _; omega
      clear hm hm' hA hsc c72 b0 b1 b2
      have hcsl : Hid (((q.take m).map bv).length = Nat.min q.length (64 - used)) := by
        show _ = _
        rw [List.length_map, hxl.out]
        exact HMM.out
      refine wpList_copy_own (o := ⟨some 27, _, _, _, _, _⟩) rfl (.tmp 25) (.tmp 26) _ _ rfl 5 Tryd.underlying22 (by kernel_rfl) a (8 + used) (64 - used) (64 - used) ⟨g, o, none⟩ q.length c' (by simp [Act.eval]) (by rw [← HA.out]; simp [Act.eval]) (hashList st blk used (size + p.length)).toArray 121 HW2.out.box ((q.take m).map bv) hcsl.out ?c1 ?c2 (bv_one _) ?c3
      case c1 =>
        intro j v hj
        rw [plain_add]
        refine HSC.out j v ?_
        rw [List.getElem?_map, List.getElem?_take] at hj
        rw [List.getElem?_map]
        split at hj
        · exact hj
        · cases hj
      case c2 =>
        rw [List.size_toArray, hashList_length _ _ _ _ HW2.out.len, List.length_map, hxl.out]
        omega
      have HW3 := Lib.hid (HW2.out.copied used (q.take m) (by rw [hxl.out]; exact hmu))
      have HG3 := Lib.hid (only_trans HG2.out (only_setRow w2 a ((hashList st blk used (size + p.length)).toArray.toList.take (8 + used) ++ ((q.take m).map bv ++ (hashList st blk used (size + p.length)).toArray.toList.drop (8 + used + ((q.take m).map bv).length))).toArray))
      have HS3 := Lib.hid (HS2.out.keep (w' := w2.setRow a ((hashList st blk used (size + p.length)).toArray.toList.take (8 + used) ++ ((q.take m).map bv ++ (hashList st blk used (size + p.length)).toArray.toList.drop (8 + used + ((q.take m).map bv).length))).toArray) (fun q hq => World.cell?_of_block (setRow_other w2 a q.block _ (by omega))))
      generalize w2.setRow a ((hashList st blk used (size + p.length)).toArray.toList.take (8 + used) ++ ((q.take m).map bv ++ (hashList st blk used (size + p.length)).toArray.toList.drop (8 + used + ((q.take m).map bv).length))).toArray = w3 at *
      rw [List.length_map, hxl.out]
      simp only [Act.put]
      clear HW2 HG2 HS2 HSC hcsl hg
      have HCUT := Lib.hid (HS3.out.cut (k := m) (cap := c') (by rw [List.length_map]; exact hqc) (by rw [List.length_map]; exact hmq))
      have hsl := slice_from (A := A') (n := q.length) (c := c') (m := m) hmq
      generalize (if c' = m then A' else A'.map (·.add m)) = A2 at *
      have c72 := HW3.out.cell_used
      have f72 := HW3.out.free 72
      have HW4 := Lib.hid (HW3.out.put_used (used + m))
      rw [Int.natCast_add] at HW4
      rcases HFU.out with hfull | hpart
      · have heq2 : (used : Int) + (m : Int) = 64 := by omega
        have HFUL := Lib.hid hfull
        clear HW4 hfull
        have HW4 := Lib.hid (HW3.out.put_used 64)
        have HG4 := Lib.hid (only_put HG3.out 72 (.int .i64 ((64 : Nat) : Int)))
        have HC4 : Hid (Sees (w3.setCell ⟨a, 72, none⟩ (.int .i64 ((64 : Nat) : Int))) a A2 ((q.drop m).map bv)) := by
          have hcut := HCUT.out
          rw [← List.map_drop] at hcut
          exact hcut.keep (fun x hx => World.cell?_of_block (heap_setCell_other _ _ x.block _ (by simp; omega)))
        have HR4 : Hid (Roots (w3.setCell ⟨a, 72, none⟩ (.int .i64 ((64 : Nat) : Int)))) := HR.out.of_below_only HG4.out ha
        rw [show ((64 : Nat) : Int) = 64 from rfl] at HW4 HG4 HC4 HR4
        clear HW3 HG3 HS3 HCUT
        go_wp2
        generalize w3.setCell ⟨a, 72, none⟩ (.int .i64 64) = w4 at *
        clear c72 f72 heq2 hsl
        have HW5 := Lib.hid HW4.out.drew
        have HG5 : Hid (w.grownBy w4.drew (some a)) := only_drew HG4.out
        have HC5 : Hid (Sees w4.drew a A2 ((q.drop m).map bv)) := HC4.out
        have HR5 : Hid (Roots w4.drew) := HR4.out
        clear HW4 HG4 HC4 HR4
        have l1 := HW5.out.load_state
        have l2 := HW5.out.load_block
        have HC := Lib.hid (mixed_any st (into blk used (q.take m)) HW5.out.len w4.drew HR5.out)
        generalize hM : mix st (into blk used (q.take m)) = M at *
        have HMX := Lib.hid hM
        clear hM
        go_region_with ((go_at_call 79; refine (HC.out).mono ?_; rintro e w6 ⟨rfl, hB6⟩; have HW6 := Lib.hid (HW5.out.of_below hB6 HW5.out.lt); have HB6 := Lib.hid hB6; have hst := HW6.out.store_state M; clear hB6))
        all_goals
          have HW7 := Lib.hid (HW6.out.put_state M)
          have HG7 := Lib.hid (only_trans (only_trans HG5.out (only_below HB6.out (some a))) (only_cells (M.list.map wv) 0 w6))
          have HC7 : Hid (Sees (w6.setCells a 0 (M.list.map wv)) a A2 ((q.drop m).map bv)) := by
            refine (HC5.out.keep (fun x hx => HB6.out.cell (by have := HW5.out.lt; omega))).keep (fun x hx => World.cell?_of_block ((only_cells (M.list.map wv) 0 w6).block x.block ?_ ?_))
            · have := HW6.out.lt
              omega
            · simp; omega
          clear HW6 HB6 HC5 HG5 hst l1 l2 HC HR5 HW5
          generalize w6.setCells a 0 (M.list.map wv) = w7 at *
          have c72 := HW7.out.cell_used
          have f72 := HW7.out.free 72
          have HW8 := Lib.hid (HW7.out.put_used 0)
          rw [show ((0 : Nat) : Int) = 0 from rfl] at HW8
          go_wp2
          go_roundw
          case rel =>
            refine ⟨A2, c' - m, done ++ q.take m, q.drop m, by rw [List.length_drop], by rw [List.length_drop]; omega, by omega, by rw [List.length_drop]; omega, ?_, ?_, ?_, ?_⟩
            · have e := HP.out
              show p = _
              rw [List.append_assoc, List.take_append_drop]
              exact e
            · exact HC7.out.keep (fun x hx => World.cell?_of_block (heap_setCell_other _ _ x.block _ (by simp; omega)))
            · have hf := HFD.out.full (q.take m) (by rw [hxl.out]; exact HFUL.out)
              rw [HMX.out, List.append_assoc] at hf
              exact ⟨_, _, _, HW8.out, hf⟩
            · exact only_put HG7.out _ _
          case measure => simp [sliceLen]; omega
      · have hlt := hpart.1
        have HMQ := Lib.hid hpart.2
        clear hpart
        have hne : ((used : Int) + (m : Int) == 64) = false := by simp; omega
        go_wp2
        go_roundw
        case rel =>
          refine ⟨A2, c' - m, done ++ q.take m, q.drop m, by rw [List.length_drop], by rw [List.length_drop]; omega, by omega, by rw [List.length_drop]; omega, ?_, ?_, ?_, ?_⟩
          · have e := HP.out
            show p = _
            rw [List.append_assoc, List.take_append_drop]
            exact e
          · have hcut := HCUT.out
            rw [← List.map_drop] at hcut
            exact hcut.keep (fun x hx => World.cell?_of_block (heap_setCell_other _ _ x.block _ (by simp; omega)))
          · have hf := HFD.out.more (q.take m) (by rw [hxl.out]; exact hlt)
            rw [hxl.out, List.append_assoc] at hf
            exact ⟨_, _, _, HW4.out, hf⟩
          · exact only_put HG3.out _ _
        case measure => simp [sliceLen]; have := HMQ.out; omega
    · have hq0 : q = [] := List.eq_nil_of_length_eq_zero (by omega)
      subst hq0
      go_wp2
      go_end0
      have hF := HF.out
      have e := HP.out
      rw [List.append_nil] at e
      rw [← e] at hF
      exact ⟨rfl, hF, HG.out⟩
end Go.Proofs.YtapdnoellleimaaDoor

namespace Go.Proofs.YtapdnoellleimaaDoor
open Go.RowKit

set_option maxRecDepth 100000 in
set_option maxHeartbeats 1000000 in
theorem numbers_any (w : World) : Calls Tryd.prog 71 #[] w fun e w' => e = .returned (.agg (roots.map wv).toArray) ∧ Below w.heap.size w w' := by
  have hX : Hid (Box (w.alloc (.cells (List.replicate 64 (Value.int .u32 0)).toArray 114)) w.heap.size 114 (List.replicate 64 (Value.int .u32 0)).toArray) := Box.made w _ _
  have HF : Hid (Below w.heap.size w (w.alloc (.cells (List.replicate 64 (Value.int .u32 0)).toArray 114))) := (Below.refl _ _).alloc (Nat.le_refl _) _
  have hsz : Hid ((Tryd.prog.info? 114).map (·.size) = some (roots.map wv).toArray.size) := by
    show _ = some 64
    kernel_rfl
  have hsame : Hid ((roots.map wv).toArray.size = (List.replicate 64 (Value.int .u32 0)).toArray.size) := Lib.hid rfl
  have hone : Hid (∀ v ∈ (roots.map wv).toArray.toList, v.oneCell' = true) := wv_one _
  go_enter Tryd.func71, Tryd.ntmps71
  go_wp2_with (((with_reducible show wpList _ _ _ ((⟨none, Op.store _ (.tmp 0) (.tmp 1), _, _, _, _⟩ : Oper) :: _) _ _)); refine wpList_store_box rfl 114 (.tmp 0) (.tmp 1) rfl w.heap.size (roots.map wv).toArray rfl rfl 114 (List.replicate 64 (Value.int .u32 0)).toArray hX.out hsame.out hsz.out hone.out ?_; intro w3 hb3 hg3; have HB5 := Lib.hid hb3; have HG5 := Lib.hid hg3; clear hb3 hg3)
  refine bodyPost_ret (v := .agg (roots.map wv).toArray) (results_cell_row rfl _ w3 w.heap.size 114 (roots.map wv).toArray (0, 0) _ rfl HB5.out Tryd.underlying114 rfl hsz.out) rfl ⟨rfl, ?_⟩
  exact HF.out.trans (below_only HG5.out (Nat.le_refl _) HF.out.size)

def hashStart : Array Value := (hashList st0 (List.replicate 64 0) 0 0).toArray
def hashZero : Array Value := (List.replicate 8 (Value.int .u32 0) ++ (List.replicate 64 (Value.int .u8 0) ++ [Value.int .i64 0, Value.int .u64 0])).toArray
set_option maxRecDepth 100000 in
theorem zero_hash (w : World) : (zeroValue 121).run Tryd.prog w = .ok (.agg hashZero) w := by kernel_rfl
set_option maxRecDepth 100000 in
set_option maxHeartbeats 1000000 in
theorem start_any (w : World) : Calls Tryd.prog 74 #[] w fun e w' => e = .returned (.agg hashStart) ∧ Below w.heap.size w w' := by
  have hX : Hid (Box (w.alloc (.cells hashZero 121)) w.heap.size 121 hashZero) := Box.made w _ _
  have HF : Hid (Below w.heap.size w (w.alloc (.cells hashZero 121))) := (Below.refl _ _).alloc (Nat.le_refl _) _
  have hsz : Hid ((Tryd.prog.info? 121).map (·.size) = some hashStart.size) := by
    show _ = some 74
    kernel_rfl
  have hsame : Hid (hashStart.size = hashZero.size) := Lib.hid rfl
  have hone : Hid (∀ v ∈ hashStart.toList, v.oneCell' = true) := by
    have : hashStart.toList.all (·.oneCell') = true := by decide +kernel
    exact fun v hv => List.all_eq_true.1 this v hv
  have hz := zero_hash
  go_enter Tryd.func74, Tryd.ntmps74
  go_wp2_with (((with_reducible show wpList _ _ _ ((⟨none, Op.store _ (.tmp 0) (.tmp 2), _, _, _, _⟩ : Oper) :: _) _ _)); refine wpList_store_box rfl 121 (.tmp 0) (.tmp 2) rfl w.heap.size hashStart rfl rfl 121 hashZero hX.out hsame.out hsz.out hone.out ?_; intro w3 hb3 hg3; have HB5 := Lib.hid hb3; have HG5 := Lib.hid hg3; clear hb3 hg3)
  refine bodyPost_ret (v := .agg hashStart) (results_cell_row rfl _ w3 w.heap.size 121 hashStart (0, 0) _ rfl HB5.out Tryd.underlying121 rfl hsz.out) rfl ⟨rfl, ?_⟩
  exact HF.out.trans (below_only HG5.out (Nat.le_refl _) HF.out.size)
end Go.Proofs.YtapdnoellleimaaDoor

namespace Go.Proofs.YtapdnoellleimaaDoor
open Go.RowKit

attribute [local go_sem ↓] ldState_def ldBlock_def stState_def stDigest_def

theorem last_block (blk : List UInt8) (used : Nat) (h : blk.length = 64) (hu : used < 64) : into (into blk used [128]) (used + 1) (List.replicate (63 - used) 0) = lastBlock blk used := by
  have h1 : ([128] : List UInt8).length = 1 := rfl
  have hl := into_length blk used [128] (by omega)
  have ht := into_take blk used [128] (by omega)
  rw [h1] at ht
  have e : ∀ (X : List UInt8), X.length = 64 → into X (used + 1) (List.replicate (63 - used) 0) = X.take (used + 1) ++ List.replicate (63 - used) 0 := by
    intro X hX
    unfold into
    rw [List.length_replicate, List.drop_eq_nil_of_le (by omega), List.append_nil]
  rw [e _ (by omega), ht]
  unfold lastBlock
  simp
theorem put_count (n k : Nat) : 8 * (n : Int) / 2 ^ (8 * k) % 256 = ((UInt8.ofNat (8 * n / 256 ^ k)).toNat : Int) := by
  have h := put_byte (8 * n) k ((8 * k : Nat) : Int) (by omega)
  rw [IntKind.wrap_u8', Int.toNat_natCast, Int.natCast_mul] at h
  exact h
/-- What the walk of end carries of memory. -/
structure EndW (w0 : World) (a : Nat) (st : St) (blk : List UInt8) (used size : Nat) (w : World) : Prop where
  hash : HashW w a st blk used size
  out : ∃ z, Box w w0.heap.size 89 z ∧ z.size = 32
  only : w0.grownBy w (some a)
  roots : Roots w
  low : a < w0.heap.size
  ne : 0 < a
/-- What stands where the number of bits is still to be laid in. -/
def Padded (w0 : World) (a : Nat) (l : List UInt8) (wx : World) : Prop := ∃ st blk used, EndW w0 a st blk used l.length wx ∧ shaOf l = (mix st (counted blk l.length)).bytes
theorem EndW.drew {w0 w : World} {a : Nat} {st : St} {blk : List UInt8} {used size : Nat} (h : EndW w0 a st blk used size w) : EndW w0 a st blk used size w.drew :=
  ⟨h.hash.drew, h.out, only_drew h.only, h.roots, h.low, h.ne⟩
theorem EndW.turn {w0 w w' : World} {a : Nat} {st st' : St} {blk blk' : List UInt8} {used used' size size' : Nat} (h : EndW w0 a st blk used size w) (hg : w.grownBy w' (some a)) (hw : HashW w' a st' blk' used' size') : EndW w0 a st' blk' used' size' w' := by
  obtain ⟨z, hz, hs⟩ := h.out
  refine ⟨hw, ⟨z, hz.grown hg (by have := h.low; simp; omega), hs⟩, only_trans h.only hg, h.roots.of_below_only hg h.ne, h.low, h.ne⟩
theorem EndW.call {w0 w w' : World} {a : Nat} {st : St} {blk : List UInt8} {used size : Nat} (h : EndW w0 a st blk used size w) (hb : Below w.heap.size w w') : EndW w0 a st blk used size w' :=
  h.turn (only_below hb _) (h.hash.of_below hb h.hash.lt)

set_option maxRecDepth 100000 in
set_option maxHeartbeats 2000000 in
theorem end_any (a : Nat) (l : List UInt8) (w : World) (hF : HashF w a l l.length) (hz : l.length < 1152921504606846976) (hR : Roots w) (ha : 0 < a) :
    Calls Tryd.prog 76 #[.pointer (some ⟨a, 0, none⟩)] w fun e w' => e = .returned (.agg ((shaOf l).map bv).toArray) ∧ w.grownBy w' (some a) := by
  obtain ⟨st, blk, used, hW, hfed⟩ := hF
  have hu := hfed.lt
  have HR := Lib.hid hR
  have HW := Lib.hid hW
  have HFD := Lib.hid hfed
  clear hR hW hfed
  go_enter Tryd.func76, Tryd.ntmps76
  have HE : Hid (EndW w a st blk used l.length (w.alloc (.cells (List.replicate 32 (Value.int .u8 0)).toArray 89))) := by
    have hlt := HW.out.lt
    exact ⟨⟨HW.out.box.alloc _, HW.out.len⟩, ⟨_, Box.made _ _ _, rfl⟩, only_made (only_refl _ _) _, HR.out.of_below ((Below.refl _ _).alloc (Nat.le_refl _) _), hlt, ha⟩
  clear HW HR
  go_upto_region 1 with fail
  change Code.wp _ _ _ _ (w.alloc (.cells (List.replicate 32 (Value.int .u8 0)).toArray 89))
  generalize w.alloc (.cells (List.replicate 32 (Value.int .u8 0)).toArray 89) = w1 at *
  have HE1 : Hid (EndW w a st blk used l.length w1.drew) := HE.out.drew
  have c72 := HE1.out.hash.cell_used
  have cu := HE1.out.hash.cell_byte hu
  have fu := HE1.out.hash.free (8 + used)
  have b0 : 0 ≤ (used : Int) ∧ (used : Int) < 64 := by omega
  go_region_with (fail)
  have HE2 : Hid (EndW w a st (into blk used [128]) used l.length (w1.setCell ⟨a, 8 + used, none⟩ (.int .u8 128)).drew) := by
    have h := HE.out.hash.put_block used [128] (by simp; omega)
    exact (HE.out.turn (only_put (only_refl _ _) (8 + used) (.int .u8 128)) h).drew
  generalize (w1.setCell ⟨a, 8 + used, none⟩ (.int .u8 128)).drew = w2 at *
  clear HE HE1 c72 cu fu
  go_upto_region 2 with fail
  go_cut [21] (fun _ wx => EndW w a st (lastBlock blk used) used l.length wx)
  case first =>
    have HE3 : Hid (EndW w a st (into blk used [128]) used l.length w2.drew) := HE2.out.drew
    have c72 : w2.drew.cell? ⟨a, 72, none⟩ = some (.int .i64 (used : Int)) := HE2.out.hash.cell_used
    have hwr : IntKind.i64.wrap ((used : Int) + 1) = (used : Int) + 1 := IntWalk.i64_in _ (by omega)
    have ht : ((used : Int) + 1).toNat = used + 1 := by omega
    have b1 : 0 ≤ (used : Int) + 1 ∧ (used : Int) + 1 ≤ 64 := by omega
    have hz : ∀ w, (zeroValue 5).run Tryd.prog w = .ok (.int .u8 0) w := fun w => by kernel_rfl
    have hlb : Hid (into (into blk used [128]) (used + 1) (List.replicate (63 - used) 0) = lastBlock blk used) := Lib.hid (last_block blk used HFD.out.len hu)
    by_cases h63 : used = 63
    · have hcl : (Builtin.clear_ #[22] 0 #[.slice (some ⟨a, 8, none⟩) 0 0]).run Tryd.prog w2.drew = .ok (.tuple #[]) w2.drew := by
        simp [Builtin.clear_, run_underlying Tryd.underlying22 w2.drew]
      subst h63
      have HE4 : Hid (EndW w a st (lastBlock blk 63) 63 l.length w2.drew) := by
        have e : into blk 63 [128] = lastBlock blk 63 := by
          have h := hlb.out
          have hl := into_length blk 63 [128] (by rw [HFD.out.len]; decide)
          rw [← h]
          unfold into
          simp
        rw [← e]
        exact HE3.out
      have hw2 : IntKind.i64.wrap 64 = 64 := by decide
      clear hz hlb HFD hwr
      go_region_with (fail)
      all_goals go_wp2_with fail
      all_goals go_meet
      all_goals exact HE4.out
    · have h2 : ¬ 64 = used + 1 := by omega
      have hcl := Lib.run_clear_slice (P := Tryd.prog) w2.drew 22 5 0 (.int .u8 0) Tryd.underlying22 hz rfl rfl a (8 + (used + 1)) (63 - used) (63 - used) (by omega)
        (fun j hj => (HE3.out.hash.there (8 + (used + 1)) (63 - used) (by omega) j hj).1) (fun j hj => (HE3.out.hash.there (8 + (used + 1)) (63 - used) (by omega) j hj).2)
      have HE4 : Hid (EndW w a st (lastBlock blk used) used l.length (w2.drew.setCells a (8 + (used + 1)) (List.replicate (63 - used) (.int .u8 0)))) := by
        have h := HE3.out.hash.put_block (used + 1) (List.replicate (63 - used) 0) (by rw [List.length_replicate]; omega)
        rw [hlb.out, List.map_replicate] at h
        exact HE3.out.turn (only_cells _ _ _) h
      clear hz
      go_region_with (fail)
      all_goals go_wp2_with fail
      all_goals go_meet
      all_goals exact HE4.out
  case rest =>
    have HE3 := Lib.hid hcut
    clear hcut HE2
    have c72 := HE3.out.hash.cell_used
    have hlbl := Lib.hid (lastBlock_length blk used HFD.out.len hu)
    go_upto_if 26 with fail
    go_cut [26] (fun _ wx => Padded w a l wx)
    case first =>
      by_cases h56 : used < 56
      · have hd : decide ((56 : Int) ≤ (used : Int)) = false := by simp; omega
        have HP : Hid (Padded w a l wc) := ⟨_, _, _, HE3.out, HFD.out.end_room h56⟩
        clear HE3 HFD c72 hlbl
        go_wp2_with fail
        go_meet
        exact HP.out
      · have hd : decide ((56 : Int) ≤ (used : Int)) = true := by simp; omega
        have HEF := Lib.hid (HFD.out.end_full (by omega))
        clear HFD c72
        go_upto_region 4 with fail
        have HE4 : Hid (EndW w a st (lastBlock blk used) used l.length wc.drew) := HE3.out.drew
        have l1 := HE4.out.hash.load_state
        have l2 := HE4.out.hash.load_block
        have HC := Lib.hid (mixed_any st (lastBlock blk used) hlbl.out wc.drew HE4.out.roots)
        generalize hM : mix st (lastBlock blk used) = M at *
        clear hM HE3 hlbl
        go_region_with ((go_at_call 79; refine (HC.out).mono ?_; rintro e w6 ⟨rfl, hB6⟩; have HE6 := Lib.hid (HE4.out.call hB6); clear hB6; have hst := HE6.out.hash.store_state M))
        all_goals
          have HE7 := Lib.hid (HE6.out.turn (only_cells (M.list.map wv) 0 w6) (HE6.out.hash.put_state M))
          clear HE6 hst HC HE4 l1 l2
          generalize w6.setCells a 0 (M.list.map wv) = w7 at *
          have hz : ∀ w, (zeroValue 5).run Tryd.prog w = .ok (.int .u8 0) w := fun w => by kernel_rfl
          have hcl := Lib.run_clear_slice (P := Tryd.prog) w7 22 5 0 (.int .u8 0) Tryd.underlying22 hz rfl rfl a 8 64 64 (by omega)
            (fun j hj => (HE7.out.hash.there 8 64 (by omega) j hj).1) (fun j hj => (HE7.out.hash.there 8 64 (by omega) j hj).2)
          have HE8 : Hid (Padded w a l (w7.setCells a 8 (List.replicate 64 (.int .u8 0)))) := by
            have h := HE7.out.hash.put_block 0 (List.replicate 64 0) (by rw [List.length_replicate]; decide)
            have e : into (lastBlock blk used) 0 (List.replicate 64 0) = List.replicate 64 0 := by
              have hl := HE7.out.hash.len
              unfold into
              rw [List.drop_eq_nil_of_le (by rw [List.length_replicate]; omega)]
              simp
            rw [e, List.map_replicate] at h
            exact ⟨_, _, _, HE7.out.turn (only_cells (List.replicate 64 (.int .u8 0)) 8 w7) h, HEF.out⟩
          clear hz HE7
          go_wp2_with fail
          go_meet
          exact HE8.out
    case rest =>
      have HPD := Lib.hid hcut
      clear hcut HE3 HFD c72 hlbl
      obtain ⟨st2, blk2, used2, hE, hsha⟩ := HPD.out
      have HE5 := Lib.hid hE
      have HSH := Lib.hid hsha
      clear hE hsha HPD
      have c73 := HE5.out.hash.cell_size
      have b1 : (l.length : Int) < 1152921504606846976 := by omega
      go_wp2
      go_loopw [48] (fun i wr => ∃ k : Nat, k ≤ 8 ∧ i = .int .i64 k ∧ Hid (EndW w a st2 (cnt blk2 l.length k) used2 l.length wr)) (fun i _ => 8 - (intOf i).toNat)
      case atStart => exact ⟨0, by decide, rfl, by rw [cnt_zero _ _ HE5.out.hash.len]; exact HE5⟩
      case round =>
        have HBL := Lib.hid HE5.out.hash.len
        clear HE5 c73 b1 hz
        obtain ⟨k, hk, rfl, HE⟩ := hrel
        by_cases hlt : k < 8
        · have s1 : IntKind.i64.wrap (63 - (k : Int)) = 63 - (k : Int) := IntWalk.i64_in _ (by omega)
          have s2 : IntKind.i64.wrap (8 * (k : Int)) = 8 * (k : Int) := IntWalk.i64_in _ (by omega)
          have n1 : (63 - (k : Int)).toNat = 63 - k := by omega
          have n2 : (8 * (k : Int)).toNat = 8 * k := by omega
          have b2 : 0 ≤ 63 - (k : Int) ∧ 63 - (k : Int) < 64 := by omega
          have b3 : 0 ≤ 8 * (k : Int) ∧ 8 * (k : Int) < 64 := by omega
          have cb : wr.drew.cell? ⟨a, 8 + (63 - k), none⟩ = some (.int .u8 (((cnt blk2 l.length k).getD (63 - k) 0).toNat : Int)) := HE.out.hash.cell_byte (j := 63 - k) (by omega)
          have fb : wr.drew.frozen? ⟨a, 8 + (63 - k), none⟩ = false := HE.out.hash.free (8 + (63 - k))
          go_wp2
          go_region_with (fail)
          have HE7 : Hid (EndW w a st2 (cnt blk2 l.length (k + 1)) used2 l.length (wr.setCell ⟨a, 8 + (63 - k), none⟩ (.int .u8 (8 * (l.length : Int) / 2 ^ (8 * k) % 256))).drew) := by
            have h := HE.out.hash.put_block (63 - k) [UInt8.ofNat (8 * l.length / 256 ^ k)] (by simp)
            rw [cnt_put _ _ _ HBL.out hlt] at h
            have e : (wr.setCell ⟨a, 8 + (63 - k), none⟩ (.int .u8 (8 * (l.length : Int) / 2 ^ (8 * k) % 256))) = wr.setCells a (8 + (63 - k)) ([UInt8.ofNat (8 * l.length / 256 ^ k)].map bv) := by
              rw [put_count]
              rfl
            rw [e]
            exact (HE.out.turn (only_cells _ _ _) h).drew
          generalize (wr.setCell ⟨a, 8 + (63 - k), none⟩ (.int .u8 (8 * (l.length : Int) / 2 ^ (8 * k) % 256))).drew = w8 at *
          clear s1 s2 n1 n2 b2 b3 cb fb HE
          go_wp2
          go_roundw
          case rel => exact ⟨k + 1, by omega, by go_num, HE7⟩
          case measure => simp [intOf]; omega
        · obtain rfl : k = 8 := by omega
          have hh := HE.out
          rw [cnt_last] at hh
          have hcl : (counted blk2 l.length).length = 64 := hh.hash.len
          have HCL := Lib.hid hcl
          have HE8 : Hid (EndW w a st2 (counted blk2 l.length) used2 l.length wr.drew) := hh.drew
          clear hh hcl HE
          generalize counted blk2 l.length = blk3 at *
          go_upto_region 12 with fail
          have l1 := HE8.out.hash.load_state
          have l2 := HE8.out.hash.load_block
          have HC := Lib.hid (mixed_any st2 blk3 HCL.out wr.drew HE8.out.roots)
          generalize hM : mix st2 blk3 = M at *
          clear hM HCL
          go_region_with ((first
            | (go_at_call 79; refine (HC.out).mono ?_; rintro e w6 ⟨rfl, hB6⟩; have HE6 := Lib.hid (HE8.out.call hB6); clear hB6; have HJ := Lib.hid (joined_any M w6))
            | (go_at_call 80; refine (HJ.out).mono ?_; rintro e w7 ⟨rfl, hB7⟩; have HE7 := Lib.hid (HE6.out.call hB7); clear hB7; obtain ⟨z, hz1, hz2⟩ := HE7.out.out; have HZ1 := Lib.hid hz1; have hst := hz1.store_digest hz2 M.bytes rfl; clear hz1)))
          all_goals
            have hsz : Hid ((Tryd.prog.info? 89).map (·.size) = some (M.bytes.map bv).toArray.size) := by
              show _ = some 32
              kernel_rfl
            have HB9 : Hid (Box (w7.setCells w.heap.size 0 (M.bytes.map bv)) w.heap.size 89 (M.bytes.map bv).toArray) := HZ1.out.cells_all (M.bytes.map bv).toArray (by rw [hz2]; rfl)
            have HG9 := Lib.hid (only_new HE7.out.only (only_cells (M.bytes.map bv) 0 w7 (g := w.heap.size)) (Nat.le_refl _))
            clear l1 l2 HC HJ HE6 HE7 HZ1 hst hz2 HE8
            generalize w7.setCells w.heap.size 0 (M.bytes.map bv) = w9 at *
            go_wp2
            refine bodyPost_ret (v := .agg (M.bytes.map bv).toArray) (results_cell_row rfl _ w9 w.heap.size 89 (M.bytes.map bv).toArray (0, 0) _ rfl HB9.out Tryd.underlying89 rfl hsz.out) rfl ⟨by rw [HSH.out], HG9.out⟩
end Go.Proofs.YtapdnoellleimaaDoor
