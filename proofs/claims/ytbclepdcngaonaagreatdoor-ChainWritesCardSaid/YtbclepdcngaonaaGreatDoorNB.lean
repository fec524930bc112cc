/-
  Pairs, replies and states in memory: what is loaded, stored, compared; slices.Clone of each kind; state.copyReply, state.copyConfig.
  Slice literals of any kind; strings.HasPrefix; state.begun.
-/
import Derived.Test.YtbclepdcngaonaaGreatDoorNA
import Derived.Deep.RegionHeld3
namespace Go.Proofs.YtbclepdcngaonaaGreatDoor
open Go.RowKit

noncomputable def bsT (t : TypeId) (n : Nat) (parts : Array (Nat × Value)) : Sem Value := Instr.buildSlice t n parts
set_option maxRecDepth 100000 in
theorem bsT_def (t : TypeId) (n : Nat) (parts : Array (Nat × Value)) : Instr.buildSlice t n parts = bsT t n parts := rfl
set_option maxRecDepth 100000 in
theorem EK.build0 {α : Type} (K : EK α) (w : World) : (bsT K.sl 0 #[]).run Tryz.prog w = .ok (.slice (some ⟨w.heap.size, 0, none⟩) 0 0) (w.alloc (.cells #[] K.e)) := by
  obtain ⟨i0, hi0, hz0, hz1, hz2⟩ := info_parts K.info
  have hs := K.sz w
  unfold bsT Instr.buildSlice
  simp [Sem.run_bind, run_underlying K.und, hs, newRow, Instr.fill, Array.range_zero']
set_option maxRecDepth 100000 in
theorem EK.own0 {α : Type} (K : EK α) (w : World) {base : Nat} (hb : base ≤ w.heap.size) : K.Own (w.alloc (.cells #[] K.e)) base (.slice (some ⟨w.heap.size, 0, none⟩) 0 0) [] := K.own_lit w hb [] (by simp)

/-! ### Loads and stores, kept whole while a walk goes on -/
noncomputable def ldCf (v : Value) : Sem Value := Instr.loadAt 24 v
set_option maxRecDepth 100000 in
theorem ldCf_def (v : Value) : Instr.loadAt 24 v = ldCf v := rfl
noncomputable def stCf (p v : Value) : Sem Unit := Instr.storeAt 24 p v
set_option maxRecDepth 100000 in
theorem stCf_def (p v : Value) : Instr.storeAt 24 p v = stCf p v := rfl

set_option maxRecDepth 100000 in
theorem cf_size (ep : Int) (A : Option Addr) (n c : Nat) : (Tryz.prog.info? 24).map (·.size) = some (cfgV ep A n c : Array Value).size := by
  show _ = some 2
  kernel_rfl
set_option maxRecDepth 100000 in
theorem cf_list (ep : Int) (A : Option Addr) (n c : Nat) : (Tryz.prog.info? 24).map (·.size) = some (cfgV ep A n c : Array Value).toList.length := by
  show _ = some 2
  kernel_rfl
set_option maxRecDepth 100000 in
theorem cf_one (ep : Int) (A : Option Addr) (n c : Nat) : ∀ v ∈ (cfgV ep A n c : Array Value).toList, v.oneCell' = true := by
  intro v hv
  simp only [List.mem_cons, List.not_mem_nil, or_false] at hv
  rcases hv with rfl | rfl <;> rfl
set_option maxRecDepth 100000 in
theorem range_cf {w : World} {g o : Nat} {ep : Int} {A : Option Addr} {n c : Nat} (h : w.rangeAt g o (cfgV ep A n c : Array Value).toList) : (ldCf (.pointer (some ⟨g, o, none⟩))).run Tryz.prog w = .ok (.agg (cfgV ep A n c : Array Value)) w :=
  run_loadAt_mid (P := Tryz.prog) w g o 24 (cfgV ep A n c : Array Value).toList _ h Tryz.underlying24 rfl (cf_list ep A n c)
set_option maxRecDepth 100000 in
theorem Box.l_cf {w : World} {g : Nat} {t : TypeId} {ep : Int} {A : Option Addr} {n c : Nat} (h : Box w g t (cfgV ep A n c : Array Value)) : (ldCf (.pointer (some ⟨g, 0, none⟩))).run Tryz.prog w = .ok (.agg (cfgV ep A n c : Array Value)) w := range_cf (Box.range h)
set_option maxRecDepth 100000 in
theorem Box.s_cf {w : World} {g : Nat} {t : TypeId} {cs : Array Value} (h : Box w g t cs) (hs : cs.size = 2) (ep : Int) (A : Option Addr) (n c : Nat) :
    ∃ w', (stCf (.pointer (some ⟨g, 0, none⟩)) (.agg (cfgV ep A n c : Array Value))).run Tryz.prog w = .ok () w' ∧ Box w' g t (cfgV ep A n c : Array Value) ∧ w.grownBy w' (some g) := by
  refine ⟨w.setCells g 0 (cfgV ep A n c : Array Value).toList, ?_, h.cells_all (cfgV ep A n c : Array Value) (by rw [hs]; rfl), only_cells (g := g) _ 0 _⟩
  exact run_storeAt_mid (P := Tryz.prog) _ g 0 24 (cfgV ep A n c : Array Value) (fun j hj => by
    have hj4 : j < 2 := hj
    rw [h.cell, h.free, Array.getElem?_eq_getElem (by omega)]
    exact ⟨rfl, rfl⟩) (cf_size ep A n c) (by have := all_oneCell_toArray (cf_one ep A n c); simpa using this)
set_option maxRecDepth 100000 in
/-- A block is laid, and the value is stored there. -/
theorem laid_cf (w : World) (zs : Array Value) (hz : zs.size = 2) (ep : Int) (A : Option Addr) (n c : Nat) : ∃ w', (stCf (.pointer (some ⟨w.heap.size, 0, none⟩)) (.agg (cfgV ep A n c : Array Value))).run Tryz.prog (w.alloc (.cells zs 24)) = .ok () w' ∧ Box w' w.heap.size 24 (cfgV ep A n c : Array Value) ∧ Below w.heap.size w w' ∧ (w.alloc (.cells zs 24)).grownBy w' (some w.heap.size) := by
  obtain ⟨w', h1, h2, h3⟩ := (Box.made w 24 zs).s_cf hz ep A n c
  exact ⟨w', h1, h2, ((Below.refl _ _).alloc (Nat.le_refl _) _).trans (below_only h3 (Nat.le_refl _) (by simp)), h3⟩
attribute [local go_sem ↓] bsT_def apAll_def cpAll_def clAll_def ldCf_def stCf_def

/-! ### slices.Clone -/

set_option maxRecDepth 100000 in
theorem clone_m (xs : List MemX) (A : Option Addr) (c : Nat) (hn : xs.length ≤ 140737488351232) (hb : xs.length * MK.bys ≤ 140737488355328) (w : World) (hS : MK.See w w.heap.size A xs) :
    Calls Tryz.prog 30 #[.slice A xs.length c] w fun e w' => ∃ A' c', e = .returned (.slice A' xs.length c') ∧ MK.Own w' w.heap.size (.slice A' xs.length c') xs ∧ Below w.heap.size w w' := by
  cases A with
  | none =>
    have hxs : xs = [] := hS.nil
    subst hxs
    have hq : ∀ w, (binOp .eql 22 (.slice none 0 c) (.slice none 0 0)).run Tryz.prog w = .ok (.bool true) w := fun w => Lib.run_eql_slice_nil w _ 66 none 0 c 0 0 Tryz.underlying22
    go_enter Tryz.func30, Tryz.ntmps30
    go_wp2
    go_ret
    exact ⟨none, 0, rfl, EK.own_nil _ _ _, Below.refl _ _⟩
  | some ad =>
    obtain ⟨w1, hw1⟩ : ∃ w1, w1 = w.alloc (.cells #[] 66) := ⟨_, rfl⟩
    have hF1 : Below w.heap.size w w1 := by
      rw [hw1]
      exact (Below.refl _ _).alloc (Nat.le_refl _) _
    have hb0 : (bsT 22 0 #[]).run Tryz.prog w = .ok (.slice (some ⟨w.heap.size, 0, none⟩) 0 0) w1 := by
      rw [hw1]
      exact MK.build0 w
    have ho1 : MK.Own w1 w.heap.size (.slice (some ⟨w.heap.size, 0, none⟩) 0 0) [] := by
      rw [hw1]
      exact MK.own0 w (Nat.le_refl _)
    obtain ⟨v2, w2, hap0, ho2, hg2⟩ := MK.append ho1 (A := some ad) (m := xs.length) (c := c) (es := xs) rfl (EK.See.far hS hF1) (by simpa using hn) (by simpa using hb) hF1.size
    obtain ⟨A2, c2, rfl⟩ := ho2.slice
    have hap : (apAll #[22, 22] 22 #[.slice (some ⟨w.heap.size, 0, none⟩) 0 0, .slice (some ad) xs.length c]).run Tryz.prog w1 = .ok (.slice A2 xs.length c2) w2 := hap0
    have HO : Hid (MK.Own w2 w.heap.size (.slice A2 xs.length c2) xs) := Lib.hid ho2
    have HF : Hid (Below w.heap.size w w2) := Lib.hid (hF1.trans (below_own ho1 hg2 hF1.size))
    have hq : ∀ w, (binOp .eql 22 (.slice (some ad) xs.length c) (.slice none 0 0)).run Tryz.prog w = .ok (.bool false) w := fun w => Lib.run_eql_slice_nil w _ 66 (some ad) _ c 0 0 Tryz.underlying22
    clear hS hw1 hF1 ho1 ho2 hg2 hn hb hap0
    go_enter Tryz.func30, Tryz.ntmps30
    go_wp2
    go_ret
    exact ⟨A2, c2, rfl, HO.out, HF.out⟩

/-! ### state.copyReply, state.copyConfig -/
end Go.Proofs.YtbclepdcngaonaaGreatDoor

namespace Go.Proofs.YtbclepdcngaonaaGreatDoor
open Go.RowKit

/-! ### Slice literals -/
section
variable {α : Type} (K : EK α)
def partsV : Nat → List Value → List (Nat × Value)
  | _, [] => []
  | k, v :: r => (k, v) :: partsV (k + 1) r
def EK.zer (n : Nat) : List Value := (List.replicate n K.z.cells.toList).flatten
set_option maxRecDepth 100000 in
theorem EK.zer_succ (n : Nat) : K.zer (n + 1) = K.z.cells.toList ++ K.zer n := by unfold EK.zer; rw [List.replicate_succ, List.flatten_cons]
set_option maxRecDepth 100000 in
theorem EK.zer_len (n : Nat) : (K.zer n).length = n * K.k := by
  induction n with
  | zero => simp [EK.zer]
  | succ n ih => rw [K.zer_succ, List.length_append, ih, Array.length_toList, K.hzs, Nat.add_mul, Nat.one_mul, Nat.add_comm]
set_option maxRecDepth 100000 in
theorem EK.zer_at : ∀ (n j : Nat), j < n * K.k → (K.zer n)[j]? = K.z.cells[j % K.k]?
  | 0, j, h => by simp at h
  | n + 1, j, h => by
    rw [K.zer_succ]
    rcases Nat.lt_or_ge j K.k with hlt | hge
    · rw [List.getElem?_append_left (by rw [Array.length_toList, K.hzs]; exact hlt), Nat.mod_eq_of_lt hlt, Array.getElem?_toList]
    · rw [List.getElem?_append_right (by rw [Array.length_toList, K.hzs]; exact hge), Array.length_toList, K.hzs, EK.zer_at n (j - K.k) (by rw [Nat.add_mul] at h; omega), ← Nat.mod_eq_sub_mod hge]
set_option maxRecDepth 100000 in
theorem EK.zer_eq (n : Nat) : ((Array.range (n * K.k)).map fun x => K.z.cells[x % K.z.cells.size]!) = (K.zer n).toArray := by
  apply Array.ext_getElem?
  intro j
  have hk := K.hk
  rcases Nat.lt_or_ge j (n * K.k) with hj | hj
  · have hm : j % K.z.cells.size < K.z.cells.size := Nat.mod_lt _ (by rw [K.hzs]; exact hk)
    have e := K.zer_at n j hj
    have hr : (K.zer n).toArray[j]? = K.z.cells[j % K.k]? := by rw [List.getElem?_toArray, e]
    rw [hr, Array.getElem?_map, Array.getElem?_eq_getElem (by rw [Array.size_range]; exact hj), Option.map_some, Array.getElem_range]
    rw [getElem!_pos K.z.cells (j % K.z.cells.size) hm]
    have e2 : j % K.k = j % K.z.cells.size := by rw [K.hzs]
    rw [e2, Array.getElem?_eq_getElem hm]
  · rw [Array.getElem?_eq_none (by simpa using hj), Array.getElem?_eq_none (by rw [List.size_toArray, K.zer_len]; exact hj)]
set_option maxRecDepth 100000 in
theorem EK.fill : ∀ (r : List α) (vs : List Value) (k : Nat) (pre : List Value), pre.length = k * K.k → vs.map Value.cells = r.map (fun x => (K.enc x).toArray) →
    Instr.fill (fun i => some (i * K.k, K.k)) (pre ++ K.zer r.length).toArray (partsV k vs) = some (pre ++ K.flat r).toArray
  | [], vs, k, pre, _, h => by
    have : vs = [] := by simpa using h
    subst this
    rfl
  | x :: r, [], k, pre, _, h => by simp at h
  | x :: r, v :: vs, k, pre, hp, h => by
    simp only [List.map_cons, List.cons.injEq] at h
    rw [List.length_cons, K.zer_succ]
    unfold partsV
    rw [fill_step (off := k * K.k) (size := K.k) (vs := K.enc x) rfl hp (by rw [Array.length_toList, K.hzs]) h.1 (K.len x)]
    have e2 : pre ++ (K.enc x ++ K.zer r.length) = (pre ++ K.enc x) ++ K.zer r.length := by rw [List.append_assoc]
    rw [e2, EK.fill r vs (k + 1) (pre ++ K.enc x) (by rw [List.length_append, K.len, hp, Nat.add_mul, Nat.one_mul]) h.2, List.append_assoc]
    rfl
set_option maxRecDepth 100000 in
theorem EK.build (r : List α) (vs : List Value) (h0 : 0 < r.length) (h1 : r.length * K.k ≤ 16777216) (h : vs.map Value.cells = r.map (fun x => (K.enc x).toArray)) (w : World) :
    (bsT K.sl r.length (partsV 0 vs).toArray).run Tryz.prog w = .ok (.slice (some ⟨w.heap.size, 0, none⟩) r.length r.length) (w.alloc (.cells (K.flat r).toArray K.e)) := by
  obtain ⟨i0, hi0, hz0, hz1, hz2⟩ := info_parts K.info
  have hk := K.hk
  have hz := K.zer_eq r.length
  have hf := K.fill r vs 0 [] (by simp) h
  refine run_buildSlice (P := Tryz.prog) w K.sl K.e r.length _ _ i0 _ K.und hi0 hz0 (by rw [hz1]; omega) (by rw [hz1]; have := Nat.mul_pos h0 hk; omega) ?_
  rw [hz1]
  show Instr.fill _ ((Array.range (r.length * K.k)).map fun x => K.z.cells[x % K.z.cells.size]!) (partsV 0 vs).toArray.toList = _
  rw [hz, List.toList_toArray]
  exact hf
set_option maxRecDepth 100000 in
theorem EK.build1 (x : α) (v : Value) (h : v.cells = (K.enc x).toArray) (hk : K.k ≤ 1000) (w : World) :
    (bsT K.sl 1 #[(0, v)]).run Tryz.prog w = .ok (.slice (some ⟨w.heap.size, 0, none⟩) 1 1) (w.alloc (.cells (K.enc x).toArray K.e)) := by
  have := K.build [x] [v] (by simp) (by simp; omega) (by simp [h]) w
  rw [K.flat_one'] at this
  exact this
end

attribute [local go_sem ↓] bsT_def apAll_def

/-! ### strings.HasPrefix -/
/-! ### state.begun -/
end Go.Proofs.YtbclepdcngaonaaGreatDoor
