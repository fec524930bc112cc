/-
  cmp.Compare of texts and numbers; sort.Find by each closure; state.findPair, state.findReply.
  Pairs, replies and states in memory: what is loaded, stored, compared; slices.Clone of each kind; state.copyReply, state.copyConfig.
  Slice literals of any kind; strings.HasPrefix; state.begun.
-/
import Derived.Test.YtapdnoellleimaaDoorNA
import Derived.Deep.RegionHeld3
namespace Go.Proofs.YtapdnoellleimaaDoor
open Go.RowKit

def cmp3 {K : Type} (lt : K → K → Bool) (a b : K) : Int := if lt a b = true then -1 else if lt b a = true then 1 else 0
set_option maxRecDepth 100000 in
theorem cmp3_pos {K : Type} {lt : K → K → Bool} (o : Lt3 lt) (a b : K) : (0 < cmp3 lt a b) ↔ lt b a = true := by
  unfold cmp3
  split
  · rename_i h
    rw [o.asy h]
    simp
  · split <;> simp [*]
set_option maxRecDepth 100000 in
theorem cmp3_zero {K : Type} {lt : K → K → Bool} (o : Lt3 lt) (a b : K) : (cmp3 lt a b = 0) ↔ b = a := by
  unfold cmp3
  split
  · rename_i h
    exact ⟨fun h => by omega, fun e => absurd e (o.ne h).symm⟩
  · split
    · rename_i h
      exact ⟨fun h => by omega, fun e => absurd e (o.ne h)⟩
    · rename_i h1 h2
      refine ⟨fun _ => ?_, fun _ => rfl⟩
      rcases o.tot a b with h | h | h
      · exact absurd h h1
      · exact h.symm
      · exact absurd h h2

/-! ### The search, plain -/
def bsN (g : Nat → Bool) : Nat → Nat → Nat → Nat
  | 0, i, _ => i
  | n + 1, i, j => if i < j then (if g ((i + j) / 2) = true then bsN g n ((i + j) / 2 + 1) j else bsN g n i ((i + j) / 2)) else i
set_option maxRecDepth 100000 in
theorem bsN_end (g : Nat → Bool) (n i : Nat) : bsN g n i i = i := by
  cases n with
  | zero => rfl
  | succ n => unfold bsN; rw [if_neg (Nat.lt_irrefl _)]
set_option maxRecDepth 100000 in
theorem bsN_spec (g : Nat → Bool) (N : Nat) : ∀ (n i j : Nat), j - i ≤ n → i ≤ j → j ≤ N → (0 < i → g (i - 1) = true) → (j < N → g j = false) →
    bsN g n i j ≤ N ∧ (0 < bsN g n i j → g (bsN g n i j - 1) = true) ∧ (bsN g n i j < N → g (bsN g n i j) = false)
  | 0, i, j, h, hij, hj, hb, ha => by
    have e : i = j := by omega
    subst e
    exact ⟨hj, hb, ha⟩
  | n + 1, i, j, h, hij, hj, hb, ha => by
    unfold bsN
    split
    · rename_i hlt
      cases hg : g ((i + j) / 2) with
      | true =>
        rw [if_pos rfl]
        exact bsN_spec g N n _ _ (by omega) (by omega) hj (fun _ => by rw [Nat.add_sub_cancel]; exact hg) ha
      | false =>
        rw [if_neg (by simp)]
        exact bsN_spec g N n _ _ (by omega) (by omega) (by omega) hb (fun _ => hg)
    · have e : i = j := by omega
      subst e
      exact ⟨hj, hb, ha⟩
section
variable {α K : Type}
def goN (lt : K → K → Bool) (key : α → K) (l : List α) (k : K) (h : Nat) : Bool := match l[h]? with
  | some x => lt (key x) k
  | none => false
set_option maxRecDepth 100000 in
theorem goN_at {lt : K → K → Bool} {key : α → K} {l : List α} {k : K} {h : Nat} (hh : h < l.length) : goN lt key l k h = lt (key (l[h]'hh)) k := by
  unfold goN
  rw [List.getElem?_eq_getElem hh]
variable [DecidableEq K]
def findI (lt : K → K → Bool) (key : α → K) (l : List α) (k : K) : Nat := bsN (goN lt key l k) l.length 0 l.length
def findB (lt : K → K → Bool) (key : α → K) (l : List α) (k : K) : Bool := match l[findI lt key l k]? with
  | some x => decide (key x = k)
  | none => false
set_option maxRecDepth 100000 in
theorem find_fnd (lt : K → K → Bool) (key : α → K) (l : List α) (k : K) : Fnd lt key l k (findI lt key l k) (findB lt key l k) := by
  obtain ⟨h1, h2, h3⟩ := bsN_spec (goN lt key l k) l.length l.length 0 l.length (by omega) (Nat.zero_le _) (Nat.le_refl _) (fun h => absurd h (by omega)) (fun h => absurd h (by omega))
  refine ⟨h1, fun h => ?_, fun h => ?_, ?_⟩
  · rw [← goN_at (lt := lt)]
    exact h2 h
  · rw [← goN_at (lt := lt)]
    exact h3 h
  · unfold findB
    by_cases h : findI lt key l k < l.length
    · rw [List.getElem?_eq_getElem h]
      simp only [decide_eq_true_eq]
      exact ⟨fun e => ⟨h, e⟩, fun ⟨_, e⟩ => e⟩
    · rw [List.getElem?_eq_none (by omega)]
      exact ⟨fun e => (by cases e), fun ⟨h', _⟩ => absurd h' h⟩
end
abbrev pFindI (l : List PairX) (k : ByteArray) : Nat := findI sLt PairX.key l k
abbrev pFindB (l : List PairX) (k : ByteArray) : Bool := findB sLt PairX.key l k
abbrev rFindI (l : List RepM) (c : Int) : Nat := findI iLt (fun r : RepM => r.x.client) l c
abbrev rFindB (l : List RepM) (c : Int) : Bool := findB iLt (fun r : RepM => r.x.client) l c

/-! ### The closures -/
end Go.Proofs.YtapdnoellleimaaDoor

namespace Go.Proofs.YtapdnoellleimaaDoor
open Go.RowKit

noncomputable def bsT (t : TypeId) (n : Nat) (parts : Array (Nat × Value)) : Sem Value := Instr.buildSlice t n parts
set_option maxRecDepth 100000 in
theorem bsT_def (t : TypeId) (n : Nat) (parts : Array (Nat × Value)) : Instr.buildSlice t n parts = bsT t n parts := rfl
set_option maxRecDepth 100000 in
theorem EK.build0 {α : Type} (K : EK α) (w : World) : (bsT K.sl 0 #[]).run Tryd.prog w = .ok (.slice (some ⟨w.heap.size, 0, none⟩) 0 0) (w.alloc (.cells #[] K.e)) := by
  obtain ⟨i0, hi0, hz0, hz1, hz2⟩ := info_parts K.info
  have hs := K.sz w
  unfold bsT Instr.buildSlice
  simp [Sem.run_bind, run_underlying K.und, hs, newRow, Instr.fill, Array.range_zero']
set_option maxRecDepth 100000 in
theorem EK.own0 {α : Type} (K : EK α) (w : World) {base : Nat} (hb : base ≤ w.heap.size) : K.Own (w.alloc (.cells #[] K.e)) base (.slice (some ⟨w.heap.size, 0, none⟩) 0 0) [] := K.own_lit w hb [] (by simp)

/-! ### Loads and stores, kept whole while a walk goes on -/
set_option maxRecDepth 100000 in
theorem rp_one (c n k : Int) (A : Option Addr) (m z : Nat) : ∀ v ∈ (repv c n k A m z : Array Value).toList, v.oneCell' = true := by
  intro v hv
  simp only [List.mem_cons, List.not_mem_nil, or_false] at hv
  rcases hv with rfl | rfl | rfl | rfl <;> rfl
set_option maxRecDepth 100000 in
theorem st_one (pA : Option Addr) (pn pc : Nat) (rA : Option Addr) (rn rc : Nat) (ep : Int) (mA : Option Addr) (mn mc : Nat) : ∀ v ∈ (stV pA pn pc rA rn rc ep mA mn mc : Array Value).toList, v.oneCell' = true := by
  intro v hv
  simp only [List.mem_cons, List.not_mem_nil, or_false] at hv
  rcases hv with rfl | rfl | rfl | rfl <;> rfl
set_option maxRecDepth 100000 in
theorem cf_one (ep : Int) (A : Option Addr) (n c : Nat) : ∀ v ∈ (cfgV ep A n c : Array Value).toList, v.oneCell' = true := by
  intro v hv
  simp only [List.mem_cons, List.not_mem_nil, or_false] at hv
  rcases hv with rfl | rfl <;> rfl
set_option maxRecDepth 100000 in
theorem pr_one (ky vl : ByteArray) : ∀ v ∈ (#[.string ky, .string vl] : Array Value).toList, v.oneCell' = true := by
  intro v hv
  simp only [List.mem_cons, List.not_mem_nil, or_false] at hv
  rcases hv with rfl | rfl <;> rfl
attribute [local go_sem ↓] bsT_def apAll_def cpAll_def clAll_def

/-! ### slices.Clone -/

/-! ### state.copyReply, state.copyConfig -/
end Go.Proofs.YtapdnoellleimaaDoor

namespace Go.Proofs.YtapdnoellleimaaDoor
open Go.RowKit

/-! ### Slice literals -/
section
variable {α : Type} (K : EK α)
def partsV : Nat → List Value → List (Nat × Value)
  | _, [] => []
  | k, v :: r => (k, v) :: partsV (k + 1) r
def EK.zer (n : Nat) : List Value := (List.replicate n K.z.cells.toList).flatten
set_option maxRecDepth 100000 in
theorem EK.zer_succ (n : Nat) : K.zer (n + 1) = K.z.cells.toList ++ K.zer n := by unfold EK.zer; rw [List.replicate_succ, List.flatten_cons]
set_option maxRecDepth 100000 in
theorem EK.zer_len (n : Nat) : (K.zer n).length = n * K.k := by
  induction n with
  | zero => simp [EK.zer]
  | succ n ih => rw [K.zer_succ, List.length_append, ih, Array.length_toList, K.hzs, Nat.add_mul, Nat.one_mul, Nat.add_comm]
set_option maxRecDepth 100000 in
theorem EK.zer_at : ∀ (n j : Nat), j < n * K.k → (K.zer n)[j]? = K.z.cells[j % K.k]?
  | 0, j, h => by simp at h
  | n + 1, j, h => by
    rw [K.zer_succ]
    rcases Nat.lt_or_ge j K.k with hlt | hge
    · rw [List.getElem?_append_left (by rw [Array.length_toList, K.hzs]; exact hlt), Nat.mod_eq_of_lt hlt, Array.getElem?_toList]
    · rw [List.getElem?_append_right (by rw [Array.length_toList, K.hzs]; exact hge), Array.length_toList, K.hzs, EK.zer_at n (j - K.k) (by rw [Nat.add_mul] at h; omega), ← Nat.mod_eq_sub_mod hge]
set_option maxRecDepth 100000 in
theorem EK.zer_eq (n : Nat) : ((Array.range (n * K.k)).map fun x => K.z.cells[x % K.z.cells.size]!) = (K.zer n).toArray := by
  apply Array.ext_getElem?
  intro j
  have hk := K.hk
  rcases Nat.lt_or_ge j (n * K.k) with hj | hj
  · have hm : j % K.z.cells.size < K.z.cells.size := Nat.mod_lt _ (by rw [K.hzs]; exact hk)
    have e := K.zer_at n j hj
    have hr : (K.zer n).toArray[j]? = K.z.cells[j % K.k]? := by rw [List.getElem?_toArray, e]
    rw [hr, Array.getElem?_map, Array.getElem?_eq_getElem (by rw [Array.size_range]; exact hj), Option.map_some, Array.getElem_range]
    rw [getElem!_pos K.z.cells (j % K.z.cells.size) hm]
    have e2 : j % K.k = j % K.z.cells.size := by rw [K.hzs]
    rw [e2, Array.getElem?_eq_getElem hm]
  · rw [Array.getElem?_eq_none (by simpa using hj), Array.getElem?_eq_none (by rw [List.size_toArray, K.zer_len]; exact hj)]
set_option maxRecDepth 100000 in
theorem EK.fill : ∀ (r : List α) (vs : List Value) (k : Nat) (pre : List Value), pre.length = k * K.k → vs.map Value.cells = r.map (fun x => (K.enc x).toArray) →
    Instr.fill (fun i => some (i * K.k, K.k)) (pre ++ K.zer r.length).toArray (partsV k vs) = some (pre ++ K.flat r).toArray
  | [], vs, k, pre, _, h => by
    have : vs = [] := by simpa using h
    subst this
    rfl
  | x :: r, [], k, pre, _, h => by simp at h
  | x :: r, v :: vs, k, pre, hp, h => by
    simp only [List.map_cons, List.cons.injEq] at h
    rw [List.length_cons, K.zer_succ]
    unfold partsV
    rw [fill_step (off := k * K.k) (size := K.k) (vs := K.enc x) rfl hp (by rw [Array.length_toList, K.hzs]) h.1 (K.len x)]
    have e2 : pre ++ (K.enc x ++ K.zer r.length) = (pre ++ K.enc x) ++ K.zer r.length := by rw [List.append_assoc]
    rw [e2, EK.fill r vs (k + 1) (pre ++ K.enc x) (by rw [List.length_append, K.len, hp, Nat.add_mul, Nat.one_mul]) h.2, List.append_assoc]
    rfl
set_option maxRecDepth 100000 in
theorem EK.build (r : List α) (vs : List Value) (h0 : 0 < r.length) (h1 : r.length * K.k ≤ 16777216) (h : vs.map Value.cells = r.map (fun x => (K.enc x).toArray)) (w : World) :
    (bsT K.sl r.length (partsV 0 vs).toArray).run Tryd.prog w = .ok (.slice (some ⟨w.heap.size, 0, none⟩) r.length r.length) (w.alloc (.cells (K.flat r).toArray K.e)) := by
  obtain ⟨i0, hi0, hz0, hz1, hz2⟩ := info_parts K.info
  have hk := K.hk
  have hz := K.zer_eq r.length
  have hf := K.fill r vs 0 [] (by simp) h
  refine run_buildSlice (P := Tryd.prog) w K.sl K.e r.length _ _ i0 _ K.und hi0 hz0 (by rw [hz1]; omega) (by rw [hz1]; have := Nat.mul_pos h0 hk; omega) ?_
  rw [hz1]
  show Instr.fill _ ((Array.range (r.length * K.k)).map fun x => K.z.cells[x % K.z.cells.size]!) (partsV 0 vs).toArray.toList = _
  rw [hz, List.toList_toArray]
  exact hf
set_option maxRecDepth 100000 in
theorem EK.build1 (x : α) (v : Value) (h : v.cells = (K.enc x).toArray) (hk : K.k ≤ 1000) (w : World) :
    (bsT K.sl 1 #[(0, v)]).run Tryd.prog w = .ok (.slice (some ⟨w.heap.size, 0, none⟩) 1 1) (w.alloc (.cells (K.enc x).toArray K.e)) := by
  have := K.build [x] [v] (by simp) (by simp; omega) (by simp [h]) w
  rw [K.flat_one'] at this
  exact this
end

attribute [local go_sem ↓] bsT_def apAll_def

/-! ### strings.HasPrefix -/
/-! ### state.begun -/
set_option maxRecDepth 100000 in
theorem begun_snoc (p : ByteArray) (l : List PairX) (k : Nat) (h : k < l.length) : begunL p (l.take (k + 1)) = if beginsB p (l[k]'h).key = true then begunL p (l.take k) ++ [(l[k]'h).key] else begunL p (l.take k) := by
  unfold begunL
  rw [List.take_succ_eq_append_getElem h, List.filter_append, List.map_append]
  by_cases e : beginsB p (l[k]'h).key = true
  · rw [if_pos e]
    simp [e]
  · rw [if_neg e]
    simp [e]

end Go.Proofs.YtapdnoellleimaaDoor
