/-
  slices.Chunk over bytes (256 each) and over digests (2 each): its closure's contract, and the call that makes it.
  Written by gen_chchunk.py.
  slices.Chunk over digests, 2 each. Written by gen_chchunk.py.
-/
import Derived.Test.YtlogceoeodjeoaaDoorHA
import Derived.RangeFuncNested
import Derived.RangeFuncBound
import Derived.RangeFuncCalls
import Derived.RangeFuncLeaves
import Derived.RangeFuncBox
import Derived.Shelf.Abstract
import Derived.Shelf.RegionOpen
import Derived.WalkKit
import Derived.OwnWalkIn
import Derived.TacticsInMore
import Derived.RegionIn
import Derived.LoopNIn
import Derived.LoopIn
import Derived.Maps.AppendAt
namespace Go.Proofs.YtlogceoeodjeoaaDoor
open Go.RowKit Go.Maps Go.Shelf

/-- What lies in some blocks is as it was. -/
def KeepAt (T : Nat → Prop) (w w' : World) : Prop := ∀ p : Addr, T p.block → w'.cell? p = w.cell? p
set_option maxRecDepth 100000 in
theorem KeepAt.refl (T : Nat → Prop) (w : World) : KeepAt T w w := fun _ _ => rfl
set_option maxRecDepth 100000 in
theorem KeepAt.trans {T : Nat → Prop} {a b c : World} (h : KeepAt T a b) (k : KeepAt T b c) : KeepAt T a c := fun p hp => (k p hp).trans (h p hp)
set_option maxRecDepth 100000 in
theorem KeepAt.cell {T : Nat → Prop} {w w' : World} (h : KeepAt T w w') {b i : Nat} (hb : T b) : w'.cell? ⟨b, i, none⟩ = w.cell? ⟨b, i, none⟩ := h ⟨b, i, none⟩ hb
attribute [local go_sem] Oper.semAt_some

/-! ### B -/
noncomputable def sl1B (a l : Value) : Sem Value := Instr.sliceAt 46 a (some l) none none
set_option maxRecDepth 100000 in
theorem sl1B_def (a l : Value) : Instr.sliceAt 46 a (some l) none none = sl1B a l := rfl
noncomputable def sl3B (a l h m : Value) : Sem Value := Instr.sliceAt 46 a (some l) (some h) (some m)
set_option maxRecDepth 100000 in
theorem sl3B_def (a l h m : Value) : Instr.sliceAt 46 a (some l) (some h) (some m) = sl3B a l h m := rfl
set_option maxRecDepth 100000 in
theorem undB : Tryd.prog.underlying 46 = some (.slice (Tryd.prog.elem 46)) := by kernel_rfl
set_option maxRecDepth 100000 in
theorem elemB (w : World) : (sizeOf (Tryd.prog.elem 46)).run Tryd.prog w = .ok 1 w := by kernel_rfl
set_option maxRecDepth 100000 in
theorem sl1B_run (g o L c i : Nat) (h1 : i < L) (h2 : L ≤ c) (w : World) : (sl1B (.slice (some ⟨g, o, none⟩) L c) (.int .i64 (i : Int))).run Tryd.prog w = .ok (.slice (some ⟨g, o + i, none⟩) (L - i) (c - i)) w := by
  unfold sl1B
  rw [run_sliceAt_slice _ _ _ _ _ _ undB, run_slice_l _ _ _ _ _ undB .i64 (i : Int) (by omega) (by omega), elemB]
  simp only [Result.andThen_ok, sliced, Int.toNat_natCast]
  rw [if_neg (by omega)]
  simp [Addr.add]
set_option maxRecDepth 100000 in
theorem sl3B_run (g o L c i h : Nat) (h1 : i < h) (h2 : h ≤ c) (w : World) : (sl3B (.slice (some ⟨g, o, none⟩) L c) (.int .i64 (i : Int)) (.int .i64 (h : Int)) (.int .i64 (h : Int))).run Tryd.prog w = .ok (.slice (some ⟨g, o + i, none⟩) (h - i) (h - i)) w := by
  unfold sl3B
  rw [run_sliceAt_slice _ _ _ _ _ _ undB, run_slice_lhm _ _ _ _ _ undB .i64 .i64 .i64 (i : Int) (h : Int) (h : Int) (by omega) (by omega) (by omega) (by omega), elemB]
  simp only [Result.andThen_ok, sliced, Int.toNat_natCast]
  rw [if_neg (by omega)]
  simp [Addr.add]
/-- The chunk at a place. -/
def chkB (g o L k : Nat) : Value := .slice (some ⟨g, o + k * 256, none⟩) (min 256 (L - k * 256)) (min 256 (L - k * 256))
attribute [local go_sem ↓] sl1B_def sl3B_def in
set_option maxRecDepth 100000 in
set_option maxHeartbeats 2000000 in
theorem citerB_in (F : Fence) (n : Nat) (hF : F.fn 86) (hro : F.round = none) (hn : 1 ≤ n) (l Bs Bn g o L c : Nat) (hL : 0 < L) (hLc : L ≤ c) (hm : L ≤ 1099511627776) (J Jx : List Nat → World → Prop)
    (hY : ∀ pre x W, J pre W → pre.length < L → YieldAt F (n - 1) Tryd.prog l #[chkB g o L x] W fun e W' =>
      (e = .returned (.bool true) ∧ J (pre ++ [x]) W' ∧ KeepAt (fun b => b = Bs ∨ b = Bn) W W') ∨ (e = .returned (.bool false) ∧ Jx (pre ++ [x]) W'))
    (W : World) (hJ : AbidesFrom W.heap.size J) (hs : W.cell? ⟨Bs, 0, none⟩ = some (.slice (some ⟨g, o, none⟩) L c)) (hb : W.cell? ⟨Bn, 0, none⟩ = some (.int .i64 256)) (h0 : J [] W) :
    CallsIn F n Tryd.prog 86 #[.func (.yield l) #[] #[], .pointer (some ⟨Bs, 0, none⟩), .pointer (some ⟨Bn, 0, none⟩)] W fun e W' => (∃ v, e = .returned v) ∧ ((∃ xs, xs = List.range ((L + 255) / 256) ∧ J xs W') ∨ (∃ pre : List Nat, True ∧ Jx pre W')) := by
  refine callsIn_of_wp Tryd.func86 rfl hF ?_ hro
  simp only [Tryd.ntmps86, List.size_toArray, List.length_cons, List.length_nil, Nat.reduceAdd, Nat.reduceSub, Array.replicate_succ, Array.replicate_zero, List.push_toArray, List.append_toArray, List.nil_append, List.cons_append]
  gi_wp2
  gi_loopw [4] (fun i wr => ∃ k : Nat, k * 256 < L + 256 ∧ i = .int .i64 ((k * 256 : Nat) : Int) ∧ J (List.range k) wr ∧ KeepAt (fun b => b = Bs ∨ b = Bn) W wr)
    (fun i _ => L + 256 - (intOf i).toNat)
  case atStart => exact ⟨0, by omega, rfl, h0, KeepAt.refl _ _⟩
  case round =>
    obtain ⟨k, hk, rfl, hJs, hkp⟩ := hrel
    have ls := (hkp.cell (b := Bs) (i := 0) (.inl rfl)).trans hs
    have lb := (hkp.cell (b := Bn) (i := 0) (.inr rfl)).trans hb
    by_cases hlt : k * 256 < L
    · obtain ⟨fn, tmps, assign, body, hy, hR⟩ := hY _ k wr.drew (hJ _ wr wr.drew none hJs ⟨rfl, rfl, rfl, Nat.le_refl _, fun _ _ _ => rfl⟩ (fun r e => by cases e)) (by rw [List.length_range]; omega)
      have HRR := Lib.hid hR
      have HKP := Lib.hid hkp
      unfold chkB at hy
      have hmn : (if ((L - k * 256 : Nat) : Int) < 256 then ((L - k * 256 : Nat) : Int) else 256) = ((min 256 (L - k * 256) : Nat) : Int) := by
        by_cases h : ((L - k * 256 : Nat) : Int) < 256
        · rw [if_pos h]; omega
        · rw [if_neg h]; omega
      obtain ⟨m, hmm⟩ : ∃ m, m = min 256 (L - k * 256) := ⟨_, rfl⟩
      rw [← hmm] at hmn hy
      have HM : Hid (0 < m ∧ k * 256 + m ≤ L) := Lib.hid (by omega)
      have HK : Hid (List.range k ++ [k] = List.range (k + 1)) := Lib.hid (by rw [List.range_succ])
      have HLT : Hid (((k + 1 : Nat) : Int) * 256 = ((k * 256 : Nat) : Int) + 256 ∧ (k + 1) * 256 = k * 256 + 256) := Lib.hid (by omega)
      obtain ⟨i, hi⟩ : ∃ i, i = k * 256 := ⟨_, rfl⟩
      rw [← hi] at hlt hmn hy HM hk HLT ⊢
      have HI := Lib.hid hi
      have s1 : ∀ w' : World, (sl1B (.slice (some ⟨g, o, none⟩) L c) (.int .i64 (i : Int))).run Tryd.prog w' = .ok (.slice (some ⟨g, o + i, none⟩) (L - i) (c - i)) w' := fun w' => sl1B_run g o L c i hlt hLc w'
      have w1 : IntKind.i64.wrap ((i : Int) + (m : Int)) = (i : Int) + (m : Int) := by rw [IntKind.wrap_i64]; have := HM.out; omega
      have s3 : ∀ w' : World, (sl3B (.slice (some ⟨g, o, none⟩) L c) (.int .i64 (i : Int)) (.int .i64 ((i : Int) + (m : Int))) (.int .i64 ((i : Int) + (m : Int)))).run Tryd.prog w' = .ok (.slice (some ⟨g, o + i, none⟩) m m) w' := fun w' => by
        rw [show (i : Int) + (m : Int) = ((i + m : Nat) : Int) by omega, sl3B_run g o L c i (i + m) (by have := HM.out; omega) (by have := HM.out; omega) w', show i + m - i = m by omega]
      have w2 : IntKind.i64.wrap ((i : Int) + 256) = (i : Int) + 256 := by rw [IntKind.wrap_i64]; omega
      have l1 : (i : Int) < (L : Int) := by omega
      have HLL := Lib.hid hlt
      clear hR hkp hJs hmm hk hi hlt hm hLc hL
      gi_wp2
      gi_region
      all_goals (gi_wp2; refine HRR.out.mono ?_; rintro e W3 (⟨rfl, hJ3, hk3⟩ | ⟨rfl, hJx3⟩))
      all_goals first
        | (gi_wp2
           refine bodyPost_ret (results_none rfl _ _ _) rfl ?_
           exact ⟨⟨_, rfl⟩, .inr ⟨_, trivial, hJx3⟩⟩)
        | (have lb3 := (hk3.cell (b := Bn) (i := 0) (.inr rfl)).trans lb
           have HJ3 := Lib.hid hJ3
           have HK3 := Lib.hid (HKP.out.trans hk3)
           clear hJ3 hk3 ls lb s1 s3
           gi_wp2
           go_roundw
           case rel => exact ⟨k + 1, by have := HLT.out; have := HLL.out; omega, by rw [HLT.out.2]; rfl, by rw [← HK.out]; exact HJ3.out, HK3.out⟩
           case measure => have := HLL.out; simp [intOf]; omega)
    · have l1 : ¬ ((k * 256 : Nat) : Int) < (L : Int) := by omega
      have hkc : k = (L + 255) / 256 := by omega
      subst hkc
      gi_wp2
      go_end0
      exact ⟨⟨_, rfl⟩, .inl hJs⟩
set_option maxRecDepth 100000 in
theorem cstopsB (F : Fence) (n : Nat) (hF : F.fn 86) (hro : F.round = none) (hn : 1 ≤ n) (Bs Bn g o L c : Nat) (hL : 0 < L) (hLc : L ≤ c) (hm : L ≤ 1099511627776) (w : World) (hBs : Bs < w.heap.size) (hBn : Bn < w.heap.size)
    (hs : w.cell? ⟨Bs, 0, none⟩ = some (.slice (some ⟨g, o, none⟩) L c)) (hb : w.cell? ⟨Bn, 0, none⟩ = some (.int .i64 256)) :
    SeqStopsK F n Tryd.prog 86 #[.pointer (some ⟨Bs, 0, none⟩), .pointer (some ⟨Bn, 0, none⟩)] (fun k : Nat => #[chkB g o L k]) (KeepAt (fun b => b = Bs ∨ b = Bn)) (fun xs => xs = List.range ((L + 255) / 256)) (fun _ => True) L w := fun l J Jx W hW hJ _ hY h0 =>
  citerB_in F n hF hro hn l Bs Bn g o L c hL hLc hm J Jx hY W hJ ((hW.cell (p := ⟨Bs, 0, none⟩) hBs).trans hs) ((hW.cell (p := ⟨Bn, 0, none⟩) hBn).trans hb) h0
set_option maxRecDepth 100000 in
theorem cmakeB (A : Option Addr) (L c : Nat) (w : World) : Calls Tryd.prog 66 #[.slice A L c, .int .i64 256] w fun e w' => e = .returned (.func (.func 86) #[] #[.pointer (some ⟨w.heap.size, 0, none⟩), .pointer (some ⟨w.heap.size + 1, 0, none⟩)]) ∧ w' = (w.alloc (.cells #[.slice A L c] 46)).alloc (.cells #[.int .i64 256] 3) := by
  go_enter Tryd.func66, Tryd.ntmps66
  go_wp2
  go_ret
  exact ⟨rfl, rfl⟩
end Go.Proofs.YtlogceoeodjeoaaDoor

namespace Go.Proofs.YtlogceoeodjeoaaDoor
open Go.RowKit Go.Maps Go.Shelf
attribute [local go_sem] Oper.semAt_some

/-! ### D -/
noncomputable def sl1D (a l : Value) : Sem Value := Instr.sliceAt 27 a (some l) none none
set_option maxRecDepth 100000 in
theorem sl1D_def (a l : Value) : Instr.sliceAt 27 a (some l) none none = sl1D a l := rfl
noncomputable def sl3D (a l h m : Value) : Sem Value := Instr.sliceAt 27 a (some l) (some h) (some m)
set_option maxRecDepth 100000 in
theorem sl3D_def (a l h m : Value) : Instr.sliceAt 27 a (some l) (some h) (some m) = sl3D a l h m := rfl
set_option maxRecDepth 100000 in
theorem undD : Tryd.prog.underlying 27 = some (.slice (Tryd.prog.elem 27)) := by kernel_rfl
set_option maxRecDepth 100000 in
theorem elemD (w : World) : (sizeOf (Tryd.prog.elem 27)).run Tryd.prog w = .ok 32 w := by kernel_rfl
set_option maxRecDepth 100000 in
theorem sl1D_run (g o L c i : Nat) (h1 : i < L) (h2 : L ≤ c) (w : World) : (sl1D (.slice (some ⟨g, o, none⟩) L c) (.int .i64 (i : Int))).run Tryd.prog w = .ok (.slice (some ⟨g, o + i * 32, none⟩) (L - i) (c - i)) w := by
  unfold sl1D
  rw [run_sliceAt_slice _ _ _ _ _ _ undD, run_slice_l _ _ _ _ _ undD .i64 (i : Int) (by omega) (by omega), elemD]
  simp only [Result.andThen_ok, sliced, Int.toNat_natCast]
  rw [if_neg (by omega)]
  simp [Addr.add]
set_option maxRecDepth 100000 in
theorem sl3D_run (g o L c i h : Nat) (h1 : i < h) (h2 : h ≤ c) (w : World) : (sl3D (.slice (some ⟨g, o, none⟩) L c) (.int .i64 (i : Int)) (.int .i64 (h : Int)) (.int .i64 (h : Int))).run Tryd.prog w = .ok (.slice (some ⟨g, o + i * 32, none⟩) (h - i) (h - i)) w := by
  unfold sl3D
  rw [run_sliceAt_slice _ _ _ _ _ _ undD, run_slice_lhm _ _ _ _ _ undD .i64 .i64 .i64 (i : Int) (h : Int) (h : Int) (by omega) (by omega) (by omega) (by omega), elemD]
  simp only [Result.andThen_ok, sliced, Int.toNat_natCast]
  rw [if_neg (by omega)]
  simp [Addr.add]
/-- The chunk at a place. -/
def chkD (g o L k : Nat) : Value := .slice (some ⟨g, o + k * 2 * 32, none⟩) (min 2 (L - k * 2)) (min 2 (L - k * 2))
attribute [local go_sem ↓] sl1D_def sl3D_def in
set_option maxRecDepth 100000 in
set_option maxHeartbeats 2000000 in
theorem citerD_in (F : Fence) (n : Nat) (hF : F.fn 93) (hro : F.round = none) (hn : 1 ≤ n) (l Bs Bn g o L c : Nat) (hL : 0 < L) (hLc : L ≤ c) (hm : L ≤ 1099511627776) (J Jx : List Nat → World → Prop)
    (hY : ∀ pre x W, J pre W → pre.length < L → YieldAt F (n - 1) Tryd.prog l #[chkD g o L x] W fun e W' =>
      (e = .returned (.bool true) ∧ J (pre ++ [x]) W' ∧ KeepAt (fun b => b = Bs ∨ b = Bn) W W') ∨ (e = .returned (.bool false) ∧ Jx (pre ++ [x]) W'))
    (W : World) (hJ : AbidesFrom W.heap.size J) (hs : W.cell? ⟨Bs, 0, none⟩ = some (.slice (some ⟨g, o, none⟩) L c)) (hb : W.cell? ⟨Bn, 0, none⟩ = some (.int .i64 2)) (h0 : J [] W) :
    CallsIn F n Tryd.prog 93 #[.func (.yield l) #[] #[], .pointer (some ⟨Bs, 0, none⟩), .pointer (some ⟨Bn, 0, none⟩)] W fun e W' => (∃ v, e = .returned v) ∧ ((∃ xs, xs = List.range ((L + 1) / 2) ∧ J xs W') ∨ (∃ pre : List Nat, True ∧ Jx pre W')) := by
  refine callsIn_of_wp Tryd.func93 rfl hF ?_ hro
  simp only [Tryd.ntmps93, List.size_toArray, List.length_cons, List.length_nil, Nat.reduceAdd, Nat.reduceSub, Array.replicate_succ, Array.replicate_zero, List.push_toArray, List.append_toArray, List.nil_append, List.cons_append]
  gi_wp2
  gi_loopw [4] (fun i wr => ∃ k : Nat, k * 2 < L + 2 ∧ i = .int .i64 ((k * 2 : Nat) : Int) ∧ J (List.range k) wr ∧ KeepAt (fun b => b = Bs ∨ b = Bn) W wr)
    (fun i _ => L + 2 - (intOf i).toNat)
  case atStart => exact ⟨0, by omega, rfl, h0, KeepAt.refl _ _⟩
  case round =>
    obtain ⟨k, hk, rfl, hJs, hkp⟩ := hrel
    have ls := (hkp.cell (b := Bs) (i := 0) (.inl rfl)).trans hs
    have lb := (hkp.cell (b := Bn) (i := 0) (.inr rfl)).trans hb
    by_cases hlt : k * 2 < L
    · obtain ⟨fn, tmps, assign, body, hy, hR⟩ := hY _ k wr.drew (hJ _ wr wr.drew none hJs ⟨rfl, rfl, rfl, Nat.le_refl _, fun _ _ _ => rfl⟩ (fun r e => by cases e)) (by rw [List.length_range]; omega)
      have HRR := Lib.hid hR
      have HKP := Lib.hid hkp
      unfold chkD at hy
      have hmn : (if ((L - k * 2 : Nat) : Int) < 2 then ((L - k * 2 : Nat) : Int) else 2) = ((min 2 (L - k * 2) : Nat) : Int) := by
        by_cases h : ((L - k * 2 : Nat) : Int) < 2
        · rw [if_pos h]; omega
        · rw [if_neg h]; omega
      obtain ⟨m, hmm⟩ : ∃ m, m = min 2 (L - k * 2) := ⟨_, rfl⟩
      rw [← hmm] at hmn hy
      have HM : Hid (0 < m ∧ k * 2 + m ≤ L) := Lib.hid (by omega)
      have HK : Hid (List.range k ++ [k] = List.range (k + 1)) := Lib.hid (by rw [List.range_succ])
      have HLT : Hid (((k + 1 : Nat) : Int) * 2 = ((k * 2 : Nat) : Int) + 2 ∧ (k + 1) * 2 = k * 2 + 2) := Lib.hid (by omega)
      obtain ⟨i, hi⟩ : ∃ i, i = k * 2 := ⟨_, rfl⟩
      rw [← hi] at hlt hmn hy HM hk HLT ⊢
      have HI := Lib.hid hi
      have s1 : ∀ w' : World, (sl1D (.slice (some ⟨g, o, none⟩) L c) (.int .i64 (i : Int))).run Tryd.prog w' = .ok (.slice (some ⟨g, o + i * 32, none⟩) (L - i) (c - i)) w' := fun w' => sl1D_run g o L c i hlt hLc w'
      have w1 : IntKind.i64.wrap ((i : Int) + (m : Int)) = (i : Int) + (m : Int) := by rw [IntKind.wrap_i64]; have := HM.out; omega
      have s3 : ∀ w' : World, (sl3D (.slice (some ⟨g, o, none⟩) L c) (.int .i64 (i : Int)) (.int .i64 ((i : Int) + (m : Int))) (.int .i64 ((i : Int) + (m : Int)))).run Tryd.prog w' = .ok (.slice (some ⟨g, o + i * 32, none⟩) m m) w' := fun w' => by
        rw [show (i : Int) + (m : Int) = ((i + m : Nat) : Int) by omega, sl3D_run g o L c i (i + m) (by have := HM.out; omega) (by have := HM.out; omega) w', show i + m - i = m by omega]
      have w2 : IntKind.i64.wrap ((i : Int) + 2) = (i : Int) + 2 := by rw [IntKind.wrap_i64]; omega
      have l1 : (i : Int) < (L : Int) := by omega
      have HLL := Lib.hid hlt
      clear hR hkp hJs hmm hk hi hlt hm hLc hL
      gi_wp2
      gi_region
      all_goals (gi_wp2; refine HRR.out.mono ?_; rintro e W3 (⟨rfl, hJ3, hk3⟩ | ⟨rfl, hJx3⟩))
      all_goals first
        | (gi_wp2
           refine bodyPost_ret (results_none rfl _ _ _) rfl ?_
           exact ⟨⟨_, rfl⟩, .inr ⟨_, trivial, hJx3⟩⟩)
        | (have lb3 := (hk3.cell (b := Bn) (i := 0) (.inr rfl)).trans lb
           have HJ3 := Lib.hid hJ3
           have HK3 := Lib.hid (HKP.out.trans hk3)
           clear hJ3 hk3 ls lb s1 s3
           gi_wp2
           go_roundw
           case rel => exact ⟨k + 1, by have := HLT.out; have := HLL.out; omega, by rw [HLT.out.2]; rfl, by rw [← HK.out]; exact HJ3.out, HK3.out⟩
           case measure => have := HLL.out; simp [intOf]; omega)
    · have l1 : ¬ ((k * 2 : Nat) : Int) < (L : Int) := by omega
      have hkc : k = (L + 1) / 2 := by omega
      subst hkc
      gi_wp2
      go_end0
      exact ⟨⟨_, rfl⟩, .inl hJs⟩
set_option maxRecDepth 100000 in
theorem cstopsD (F : Fence) (n : Nat) (hF : F.fn 93) (hro : F.round = none) (hn : 1 ≤ n) (Bs Bn g o L c : Nat) (hL : 0 < L) (hLc : L ≤ c) (hm : L ≤ 1099511627776) (w : World) (hBs : Bs < w.heap.size) (hBn : Bn < w.heap.size)
    (hs : w.cell? ⟨Bs, 0, none⟩ = some (.slice (some ⟨g, o, none⟩) L c)) (hb : w.cell? ⟨Bn, 0, none⟩ = some (.int .i64 2)) :
    SeqStopsK F n Tryd.prog 93 #[.pointer (some ⟨Bs, 0, none⟩), .pointer (some ⟨Bn, 0, none⟩)] (fun k : Nat => #[chkD g o L k]) (KeepAt (fun b => b = Bs ∨ b = Bn)) (fun xs => xs = List.range ((L + 1) / 2)) (fun _ => True) L w := fun l J Jx W hW hJ _ hY h0 =>
  citerD_in F n hF hro hn l Bs Bn g o L c hL hLc hm J Jx hY W hJ ((hW.cell (p := ⟨Bs, 0, none⟩) hBs).trans hs) ((hW.cell (p := ⟨Bn, 0, none⟩) hBn).trans hb) h0
set_option maxRecDepth 100000 in
theorem cmakeD (A : Option Addr) (L c : Nat) (w : World) : Calls Tryd.prog 87 #[.slice A L c, .int .i64 2] w fun e w' => e = .returned (.func (.func 93) #[] #[.pointer (some ⟨w.heap.size, 0, none⟩), .pointer (some ⟨w.heap.size + 1, 0, none⟩)]) ∧ w' = (w.alloc (.cells #[.slice A L c] 27)).alloc (.cells #[.int .i64 2] 3) := by
  go_enter Tryd.func87, Tryd.ntmps87
  go_wp2
  go_ret
  exact ⟨rfl, rfl⟩
end Go.Proofs.YtlogceoeodjeoaaDoor
