/-
  cmp.Compare of texts and numbers; sort.Find by each closure; state.findPair, state.findReply.
  Pairs, replies and states in memory: what is loaded, stored, compared; slices.Clone of each kind; state.copyReply, state.copyConfig.
  state.copyState.
-/
import Derived.Test.YtlogceoeodjeoaaDoorNA
import Derived.Deep.RegionHeld3
namespace Go.Proofs.YtlogceoeodjeoaaDoor
open Go.RowKit

def cmp3 {K : Type} (lt : K → K → Bool) (a b : K) : Int := if lt a b = true then -1 else if lt b a = true then 1 else 0
set_option maxRecDepth 100000 in
theorem cmp3_pos {K : Type} {lt : K → K → Bool} (o : Lt3 lt) (a b : K) : (0 < cmp3 lt a b) ↔ lt b a = true := by
  unfold cmp3
  split
  · rename_i h
    rw [o.asy h]
    simp
  · split <;> simp [*]
set_option maxRecDepth 100000 in
theorem cmp3_zero {K : Type} {lt : K → K → Bool} (o : Lt3 lt) (a b : K) : (cmp3 lt a b = 0) ↔ b = a := by
  unfold cmp3
  split
  · rename_i h
    exact ⟨fun h => by omega, fun e => absurd e (o.ne h).symm⟩
  · split
    · rename_i h
      exact ⟨fun h => by omega, fun e => absurd e (o.ne h)⟩
    · rename_i h1 h2
      refine ⟨fun _ => ?_, fun _ => rfl⟩
      rcases o.tot a b with h | h | h
      · exact absurd h h1
      · exact h.symm
      · exact absurd h h2

/-! ### The search, plain -/
def bsN (g : Nat → Bool) : Nat → Nat → Nat → Nat
  | 0, i, _ => i
  | n + 1, i, j => if i < j then (if g ((i + j) / 2) = true then bsN g n ((i + j) / 2 + 1) j else bsN g n i ((i + j) / 2)) else i
set_option maxRecDepth 100000 in
theorem bsN_end (g : Nat → Bool) (n i : Nat) : bsN g n i i = i := by
  cases n with
  | zero => rfl
  | succ n => unfold bsN; rw [if_neg (Nat.lt_irrefl _)]
set_option maxRecDepth 100000 in
theorem bsN_spec (g : Nat → Bool) (N : Nat) : ∀ (n i j : Nat), j - i ≤ n → i ≤ j → j ≤ N → (0 < i → g (i - 1) = true) → (j < N → g j = false) →
    bsN g n i j ≤ N ∧ (0 < bsN g n i j → g (bsN g n i j - 1) = true) ∧ (bsN g n i j < N → g (bsN g n i j) = false)
  | 0, i, j, h, hij, hj, hb, ha => by
    have e : i = j := by omega
    subst e
    exact ⟨hj, hb, ha⟩
  | n + 1, i, j, h, hij, hj, hb, ha => by
    unfold bsN
    split
    · rename_i hlt
      cases hg : g ((i + j) / 2) with
      | true =>
        rw [if_pos rfl]
        exact bsN_spec g N n _ _ (by omega) (by omega) hj (fun _ => by rw [Nat.add_sub_cancel]; exact hg) ha
      | false =>
        rw [if_neg (by simp)]
        exact bsN_spec g N n _ _ (by omega) (by omega) (by omega) hb (fun _ => hg)
    · have e : i = j := by omega
      subst e
      exact ⟨hj, hb, ha⟩
section
variable {α K : Type}
def goN (lt : K → K → Bool) (key : α → K) (l : List α) (k : K) (h : Nat) : Bool := match l[h]? with
  | some x => lt (key x) k
  | none => false
set_option maxRecDepth 100000 in
theorem goN_at {lt : K → K → Bool} {key : α → K} {l : List α} {k : K} {h : Nat} (hh : h < l.length) : goN lt key l k h = lt (key (l[h]'hh)) k := by
  unfold goN
  rw [List.getElem?_eq_getElem hh]
variable [DecidableEq K]
def findI (lt : K → K → Bool) (key : α → K) (l : List α) (k : K) : Nat := bsN (goN lt key l k) l.length 0 l.length
def findB (lt : K → K → Bool) (key : α → K) (l : List α) (k : K) : Bool := match l[findI lt key l k]? with
  | some x => decide (key x = k)
  | none => false
set_option maxRecDepth 100000 in
theorem find_fnd (lt : K → K → Bool) (key : α → K) (l : List α) (k : K) : Fnd lt key l k (findI lt key l k) (findB lt key l k) := by
  obtain ⟨h1, h2, h3⟩ := bsN_spec (goN lt key l k) l.length l.length 0 l.length (by omega) (Nat.zero_le _) (Nat.le_refl _) (fun h => absurd h (by omega)) (fun h => absurd h (by omega))
  refine ⟨h1, fun h => ?_, fun h => ?_, ?_⟩
  · rw [← goN_at (lt := lt)]
    exact h2 h
  · rw [← goN_at (lt := lt)]
    exact h3 h
  · unfold findB
    by_cases h : findI lt key l k < l.length
    · rw [List.getElem?_eq_getElem h]
      simp only [decide_eq_true_eq]
      exact ⟨fun e => ⟨h, e⟩, fun ⟨_, e⟩ => e⟩
    · rw [List.getElem?_eq_none (by omega)]
      exact ⟨fun e => (by cases e), fun ⟨h', _⟩ => absurd h' h⟩
end
abbrev pFindI (l : List PairX) (k : ByteArray) : Nat := findI sLt PairX.key l k
abbrev pFindB (l : List PairX) (k : ByteArray) : Bool := findB sLt PairX.key l k
abbrev rFindI (l : List RepM) (c : Int) : Nat := findI iLt (fun r : RepM => r.x.client) l c
abbrev rFindB (l : List RepM) (c : Int) : Bool := findB iLt (fun r : RepM => r.x.client) l c

/-! ### The closures -/
set_option maxRecDepth 100000 in
theorem PairX.range_key {w : World} {g o : Nat} {x : PairX} (h : w.rangeAt g o (PK.enc x)) : w.cell? ⟨g, o, none⟩ = some (.string x.key) := h 0 _ rfl
set_option maxRecDepth 100000 in
theorem PairX.range_val {w : World} {g o : Nat} {x : PairX} (h : w.rangeAt g o (PK.enc x)) : w.cell? ⟨g, o + 1, none⟩ = some (.string x.val) := h 1 _ rfl
set_option maxRecDepth 100000 in
theorem RepM.range_client {w : World} {g o : Nat} {x : RepM} (h : w.rangeAt g o (RK.enc x)) : w.cell? ⟨g, o, none⟩ = some (.int .i64 x.x.client) := h 0 _ rfl
set_option maxRecDepth 100000 in
theorem RepM.range_num {w : World} {g o : Nat} {x : RepM} (h : w.rangeAt g o (RK.enc x)) : w.cell? ⟨g, o + 1, none⟩ = some (.int .i64 x.x.num) := h 1 _ rfl
set_option maxRecDepth 100000 in
theorem RepM.range_vals {w : World} {g o : Nat} {x : RepM} (h : w.rangeAt g o (RK.enc x)) : w.cell? ⟨g, o + 3, none⟩ = some (.slice x.A x.x.vals.length x.z) := h 3 _ rfl

end Go.Proofs.YtlogceoeodjeoaaDoor

namespace Go.Proofs.YtlogceoeodjeoaaDoor
open Go.RowKit

noncomputable def bsT (t : TypeId) (n : Nat) (parts : Array (Nat × Value)) : Sem Value := Instr.buildSlice t n parts
set_option maxRecDepth 100000 in
theorem bsT_def (t : TypeId) (n : Nat) (parts : Array (Nat × Value)) : Instr.buildSlice t n parts = bsT t n parts := rfl
set_option maxRecDepth 100000 in
theorem EK.build0 {α : Type} (K : EK α) (w : World) : (bsT K.sl 0 #[]).run Tryd.prog w = .ok (.slice (some ⟨w.heap.size, 0, none⟩) 0 0) (w.alloc (.cells #[] K.e)) := by
  obtain ⟨i0, hi0, hz0, hz1, hz2⟩ := info_parts K.info
  have hs := K.sz w
  unfold bsT Instr.buildSlice
  simp [Sem.run_bind, run_underlying K.und, hs, newRow, Instr.fill, Array.range_zero']
set_option maxRecDepth 100000 in
theorem EK.own0 {α : Type} (K : EK α) (w : World) {base : Nat} (hb : base ≤ w.heap.size) : K.Own (w.alloc (.cells #[] K.e)) base (.slice (some ⟨w.heap.size, 0, none⟩) 0 0) [] := K.own_lit w hb [] (by simp)

/-! ### Loads and stores, kept whole while a walk goes on -/
noncomputable def ldRp (v : Value) : Sem Value := Instr.loadAt 67 v
set_option maxRecDepth 100000 in
theorem ldRp_def (v : Value) : Instr.loadAt 67 v = ldRp v := rfl
noncomputable def stRp (p v : Value) : Sem Unit := Instr.storeAt 67 p v
set_option maxRecDepth 100000 in
theorem stRp_def (p v : Value) : Instr.storeAt 67 p v = stRp p v := rfl
noncomputable def ldSt (v : Value) : Sem Value := Instr.loadAt 37 v
set_option maxRecDepth 100000 in
theorem ldSt_def (v : Value) : Instr.loadAt 37 v = ldSt v := rfl
noncomputable def stSt (p v : Value) : Sem Unit := Instr.storeAt 37 p v
set_option maxRecDepth 100000 in
theorem stSt_def (p v : Value) : Instr.storeAt 37 p v = stSt p v := rfl
noncomputable def ldPr (v : Value) : Sem Value := Instr.loadAt 63 v
set_option maxRecDepth 100000 in
theorem ldPr_def (v : Value) : Instr.loadAt 63 v = ldPr v := rfl
noncomputable def stPr (p v : Value) : Sem Unit := Instr.storeAt 63 p v
set_option maxRecDepth 100000 in
theorem stPr_def (p v : Value) : Instr.storeAt 63 p v = stPr p v := rfl
noncomputable def ldCf (v : Value) : Sem Value := Instr.loadAt 35 v
set_option maxRecDepth 100000 in
theorem ldCf_def (v : Value) : Instr.loadAt 35 v = ldCf v := rfl
noncomputable def stCf (p v : Value) : Sem Unit := Instr.storeAt 35 p v
set_option maxRecDepth 100000 in
theorem stCf_def (p v : Value) : Instr.storeAt 35 p v = stCf p v := rfl

set_option maxRecDepth 100000 in
theorem rp_size (c n k : Int) (A : Option Addr) (m z : Nat) : (Tryd.prog.info? 67).map (·.size) = some (repv c n k A m z : Array Value).size := by
  show _ = some 4
  kernel_rfl
set_option maxRecDepth 100000 in
theorem rp_list (c n k : Int) (A : Option Addr) (m z : Nat) : (Tryd.prog.info? 67).map (·.size) = some (repv c n k A m z : Array Value).toList.length := by
  show _ = some 4
  kernel_rfl
set_option maxRecDepth 100000 in
theorem rp_one (c n k : Int) (A : Option Addr) (m z : Nat) : ∀ v ∈ (repv c n k A m z : Array Value).toList, v.oneCell' = true := by
  intro v hv
  simp only [List.mem_cons, List.not_mem_nil, or_false] at hv
  rcases hv with rfl | rfl | rfl | rfl <;> rfl
set_option maxRecDepth 100000 in
theorem range_rp {w : World} {g o : Nat} {c n k : Int} {A : Option Addr} {m z : Nat} (h : w.rangeAt g o (repv c n k A m z : Array Value).toList) : (ldRp (.pointer (some ⟨g, o, none⟩))).run Tryd.prog w = .ok (.agg (repv c n k A m z : Array Value)) w :=
  run_loadAt_mid (P := Tryd.prog) w g o 67 (repv c n k A m z : Array Value).toList _ h Tryd.underlying67 rfl (rp_list c n k A m z)
set_option maxRecDepth 100000 in
theorem Box.l_rp {w : World} {g : Nat} {t : TypeId} {c n k : Int} {A : Option Addr} {m z : Nat} (h : Box w g t (repv c n k A m z : Array Value)) : (ldRp (.pointer (some ⟨g, 0, none⟩))).run Tryd.prog w = .ok (.agg (repv c n k A m z : Array Value)) w := range_rp (Box.range h)
set_option maxRecDepth 100000 in
theorem Box.s_rp {w : World} {g : Nat} {t : TypeId} {cs : Array Value} (h : Box w g t cs) (hs : cs.size = 4) (c n k : Int) (A : Option Addr) (m z : Nat) :
    ∃ w', (stRp (.pointer (some ⟨g, 0, none⟩)) (.agg (repv c n k A m z : Array Value))).run Tryd.prog w = .ok () w' ∧ Box w' g t (repv c n k A m z : Array Value) ∧ w.grownBy w' (some g) := by
  refine ⟨w.setCells g 0 (repv c n k A m z : Array Value).toList, ?_, h.cells_all (repv c n k A m z : Array Value) (by rw [hs]; rfl), only_cells (g := g) _ 0 _⟩
  exact run_storeAt_mid (P := Tryd.prog) _ g 0 67 (repv c n k A m z : Array Value) (fun j hj => by
    have hj4 : j < 4 := hj
    rw [h.cell, h.free, Array.getElem?_eq_getElem (by omega)]
    exact ⟨rfl, rfl⟩) (rp_size c n k A m z) (by have := all_oneCell_toArray (rp_one c n k A m z); simpa using this)
set_option maxRecDepth 100000 in
/-- A block is laid, and the value is stored there. -/
theorem laid_rp (w : World) (zs : Array Value) (hz : zs.size = 4) (c n k : Int) (A : Option Addr) (m z : Nat) : ∃ w', (stRp (.pointer (some ⟨w.heap.size, 0, none⟩)) (.agg (repv c n k A m z : Array Value))).run Tryd.prog (w.alloc (.cells zs 67)) = .ok () w' ∧ Box w' w.heap.size 67 (repv c n k A m z : Array Value) ∧ Below w.heap.size w w' ∧ (w.alloc (.cells zs 67)).grownBy w' (some w.heap.size) := by
  obtain ⟨w', h1, h2, h3⟩ := (Box.made w 67 zs).s_rp hz c n k A m z
  exact ⟨w', h1, h2, ((Below.refl _ _).alloc (Nat.le_refl _) _).trans (below_only h3 (Nat.le_refl _) (by simp)), h3⟩
set_option maxRecDepth 100000 in
theorem retn_rp {fn : Func} {p : Tmp} (hf : fn.results = #[.cell p 67]) {a : Act} {w : World} {g : Nat} (hp : a.tmps.getD p undef = .pointer (some ⟨g, 0, none⟩)) (hdf : a.defers = []) {t : TypeId} {c n k : Int} {A : Option Addr} {m z : Nat} (hb : Box w g t (repv c n k A m z : Array Value))
    {R : Ending → World → Prop} (hR : R (.returned (.agg (repv c n k A m z : Array Value))) w) : bodyPost Tryd.prog fn R .ret a w :=
  bodyPost_ret (results_cell_row hf _ w g t _ (0, 0) _ hp hb Tryd.underlying67 rfl (rp_size c n k A m z)) hdf hR

set_option maxRecDepth 100000 in
theorem st_size (pA : Option Addr) (pn pc : Nat) (rA : Option Addr) (rn rc : Nat) (ep : Int) (mA : Option Addr) (mn mc : Nat) : (Tryd.prog.info? 37).map (·.size) = some (stV pA pn pc rA rn rc ep mA mn mc : Array Value).size := by
  show _ = some 4
  kernel_rfl
set_option maxRecDepth 100000 in
theorem st_list (pA : Option Addr) (pn pc : Nat) (rA : Option Addr) (rn rc : Nat) (ep : Int) (mA : Option Addr) (mn mc : Nat) : (Tryd.prog.info? 37).map (·.size) = some (stV pA pn pc rA rn rc ep mA mn mc : Array Value).toList.length := by
  show _ = some 4
  kernel_rfl
set_option maxRecDepth 100000 in
theorem st_one (pA : Option Addr) (pn pc : Nat) (rA : Option Addr) (rn rc : Nat) (ep : Int) (mA : Option Addr) (mn mc : Nat) : ∀ v ∈ (stV pA pn pc rA rn rc ep mA mn mc : Array Value).toList, v.oneCell' = true := by
  intro v hv
  simp only [List.mem_cons, List.not_mem_nil, or_false] at hv
  rcases hv with rfl | rfl | rfl | rfl <;> rfl
set_option maxRecDepth 100000 in
theorem range_st {w : World} {g o : Nat} {pA : Option Addr} {pn pc : Nat} {rA : Option Addr} {rn rc : Nat} {ep : Int} {mA : Option Addr} {mn mc : Nat} (h : w.rangeAt g o (stV pA pn pc rA rn rc ep mA mn mc : Array Value).toList) : (ldSt (.pointer (some ⟨g, o, none⟩))).run Tryd.prog w = .ok (.agg (stV pA pn pc rA rn rc ep mA mn mc : Array Value)) w :=
  run_loadAt_mid (P := Tryd.prog) w g o 37 (stV pA pn pc rA rn rc ep mA mn mc : Array Value).toList _ h Tryd.underlying37 rfl (st_list pA pn pc rA rn rc ep mA mn mc)
set_option maxRecDepth 100000 in
theorem Box.l_st {w : World} {g : Nat} {t : TypeId} {pA : Option Addr} {pn pc : Nat} {rA : Option Addr} {rn rc : Nat} {ep : Int} {mA : Option Addr} {mn mc : Nat} (h : Box w g t (stV pA pn pc rA rn rc ep mA mn mc : Array Value)) : (ldSt (.pointer (some ⟨g, 0, none⟩))).run Tryd.prog w = .ok (.agg (stV pA pn pc rA rn rc ep mA mn mc : Array Value)) w := range_st (Box.range h)
set_option maxRecDepth 100000 in
theorem Box.s_st {w : World} {g : Nat} {t : TypeId} {cs : Array Value} (h : Box w g t cs) (hs : cs.size = 4) (pA : Option Addr) (pn pc : Nat) (rA : Option Addr) (rn rc : Nat) (ep : Int) (mA : Option Addr) (mn mc : Nat) :
    ∃ w', (stSt (.pointer (some ⟨g, 0, none⟩)) (.agg (stV pA pn pc rA rn rc ep mA mn mc : Array Value))).run Tryd.prog w = .ok () w' ∧ Box w' g t (stV pA pn pc rA rn rc ep mA mn mc : Array Value) ∧ w.grownBy w' (some g) := by
  refine ⟨w.setCells g 0 (stV pA pn pc rA rn rc ep mA mn mc : Array Value).toList, ?_, h.cells_all (stV pA pn pc rA rn rc ep mA mn mc : Array Value) (by rw [hs]; rfl), only_cells (g := g) _ 0 _⟩
  exact run_storeAt_mid (P := Tryd.prog) _ g 0 37 (stV pA pn pc rA rn rc ep mA mn mc : Array Value) (fun j hj => by
    have hj4 : j < 4 := hj
    rw [h.cell, h.free, Array.getElem?_eq_getElem (by omega)]
    exact ⟨rfl, rfl⟩) (st_size pA pn pc rA rn rc ep mA mn mc) (by have := all_oneCell_toArray (st_one pA pn pc rA rn rc ep mA mn mc); simpa using this)
set_option maxRecDepth 100000 in
/-- A block is laid, and the value is stored there. -/
theorem laid_st (w : World) (zs : Array Value) (hz : zs.size = 4) (pA : Option Addr) (pn pc : Nat) (rA : Option Addr) (rn rc : Nat) (ep : Int) (mA : Option Addr) (mn mc : Nat) : ∃ w', (stSt (.pointer (some ⟨w.heap.size, 0, none⟩)) (.agg (stV pA pn pc rA rn rc ep mA mn mc : Array Value))).run Tryd.prog (w.alloc (.cells zs 37)) = .ok () w' ∧ Box w' w.heap.size 37 (stV pA pn pc rA rn rc ep mA mn mc : Array Value) ∧ Below w.heap.size w w' ∧ (w.alloc (.cells zs 37)).grownBy w' (some w.heap.size) := by
  obtain ⟨w', h1, h2, h3⟩ := (Box.made w 37 zs).s_st hz pA pn pc rA rn rc ep mA mn mc
  exact ⟨w', h1, h2, ((Below.refl _ _).alloc (Nat.le_refl _) _).trans (below_only h3 (Nat.le_refl _) (by simp)), h3⟩
set_option maxRecDepth 100000 in
theorem retn_st {fn : Func} {p : Tmp} (hf : fn.results = #[.cell p 37]) {a : Act} {w : World} {g : Nat} (hp : a.tmps.getD p undef = .pointer (some ⟨g, 0, none⟩)) (hdf : a.defers = []) {t : TypeId} {pA : Option Addr} {pn pc : Nat} {rA : Option Addr} {rn rc : Nat} {ep : Int} {mA : Option Addr} {mn mc : Nat} (hb : Box w g t (stV pA pn pc rA rn rc ep mA mn mc : Array Value))
    {R : Ending → World → Prop} (hR : R (.returned (.agg (stV pA pn pc rA rn rc ep mA mn mc : Array Value))) w) : bodyPost Tryd.prog fn R .ret a w :=
  bodyPost_ret (results_cell_row hf _ w g t _ (0, 0) _ hp hb Tryd.underlying37 rfl (st_size pA pn pc rA rn rc ep mA mn mc)) hdf hR

set_option maxRecDepth 100000 in
theorem cf_size (ep : Int) (A : Option Addr) (n c : Nat) : (Tryd.prog.info? 35).map (·.size) = some (cfgV ep A n c : Array Value).size := by
  show _ = some 2
  kernel_rfl
set_option maxRecDepth 100000 in
theorem cf_list (ep : Int) (A : Option Addr) (n c : Nat) : (Tryd.prog.info? 35).map (·.size) = some (cfgV ep A n c : Array Value).toList.length := by
  show _ = some 2
  kernel_rfl
set_option maxRecDepth 100000 in
theorem cf_one (ep : Int) (A : Option Addr) (n c : Nat) : ∀ v ∈ (cfgV ep A n c : Array Value).toList, v.oneCell' = true := by
  intro v hv
  simp only [List.mem_cons, List.not_mem_nil, or_false] at hv
  rcases hv with rfl | rfl <;> rfl
set_option maxRecDepth 100000 in
theorem range_cf {w : World} {g o : Nat} {ep : Int} {A : Option Addr} {n c : Nat} (h : w.rangeAt g o (cfgV ep A n c : Array Value).toList) : (ldCf (.pointer (some ⟨g, o, none⟩))).run Tryd.prog w = .ok (.agg (cfgV ep A n c : Array Value)) w :=
  run_loadAt_mid (P := Tryd.prog) w g o 35 (cfgV ep A n c : Array Value).toList _ h Tryd.underlying35 rfl (cf_list ep A n c)
set_option maxRecDepth 100000 in
theorem Box.l_cf {w : World} {g : Nat} {t : TypeId} {ep : Int} {A : Option Addr} {n c : Nat} (h : Box w g t (cfgV ep A n c : Array Value)) : (ldCf (.pointer (some ⟨g, 0, none⟩))).run Tryd.prog w = .ok (.agg (cfgV ep A n c : Array Value)) w := range_cf (Box.range h)
set_option maxRecDepth 100000 in
theorem Box.s_cf {w : World} {g : Nat} {t : TypeId} {cs : Array Value} (h : Box w g t cs) (hs : cs.size = 2) (ep : Int) (A : Option Addr) (n c : Nat) :
    ∃ w', (stCf (.pointer (some ⟨g, 0, none⟩)) (.agg (cfgV ep A n c : Array Value))).run Tryd.prog w = .ok () w' ∧ Box w' g t (cfgV ep A n c : Array Value) ∧ w.grownBy w' (some g) := by
  refine ⟨w.setCells g 0 (cfgV ep A n c : Array Value).toList, ?_, h.cells_all (cfgV ep A n c : Array Value) (by rw [hs]; rfl), only_cells (g := g) _ 0 _⟩
  exact run_storeAt_mid (P := Tryd.prog) _ g 0 35 (cfgV ep A n c : Array Value) (fun j hj => by
    have hj4 : j < 2 := hj
    rw [h.cell, h.free, Array.getElem?_eq_getElem (by omega)]
    exact ⟨rfl, rfl⟩) (cf_size ep A n c) (by have := all_oneCell_toArray (cf_one ep A n c); simpa using this)
set_option maxRecDepth 100000 in
/-- A block is laid, and the value is stored there. -/
theorem laid_cf (w : World) (zs : Array Value) (hz : zs.size = 2) (ep : Int) (A : Option Addr) (n c : Nat) : ∃ w', (stCf (.pointer (some ⟨w.heap.size, 0, none⟩)) (.agg (cfgV ep A n c : Array Value))).run Tryd.prog (w.alloc (.cells zs 35)) = .ok () w' ∧ Box w' w.heap.size 35 (cfgV ep A n c : Array Value) ∧ Below w.heap.size w w' ∧ (w.alloc (.cells zs 35)).grownBy w' (some w.heap.size) := by
  obtain ⟨w', h1, h2, h3⟩ := (Box.made w 35 zs).s_cf hz ep A n c
  exact ⟨w', h1, h2, ((Below.refl _ _).alloc (Nat.le_refl _) _).trans (below_only h3 (Nat.le_refl _) (by simp)), h3⟩
set_option maxRecDepth 100000 in
theorem retn_cf {fn : Func} {p : Tmp} (hf : fn.results = #[.cell p 35]) {a : Act} {w : World} {g : Nat} (hp : a.tmps.getD p undef = .pointer (some ⟨g, 0, none⟩)) (hdf : a.defers = []) {t : TypeId} {ep : Int} {A : Option Addr} {n c : Nat} (hb : Box w g t (cfgV ep A n c : Array Value))
    {R : Ending → World → Prop} (hR : R (.returned (.agg (cfgV ep A n c : Array Value))) w) : bodyPost Tryd.prog fn R .ret a w :=
  bodyPost_ret (results_cell_row hf _ w g t _ (0, 0) _ hp hb Tryd.underlying35 rfl (cf_size ep A n c)) hdf hR

set_option maxRecDepth 100000 in
theorem pr_size (ky vl : ByteArray) : (Tryd.prog.info? 63).map (·.size) = some (#[.string ky, .string vl] : Array Value).size := by
  show _ = some 2
  kernel_rfl
set_option maxRecDepth 100000 in
theorem pr_list (ky vl : ByteArray) : (Tryd.prog.info? 63).map (·.size) = some (#[.string ky, .string vl] : Array Value).toList.length := by
  show _ = some 2
  kernel_rfl
set_option maxRecDepth 100000 in
theorem pr_one (ky vl : ByteArray) : ∀ v ∈ (#[.string ky, .string vl] : Array Value).toList, v.oneCell' = true := by
  intro v hv
  simp only [List.mem_cons, List.not_mem_nil, or_false] at hv
  rcases hv with rfl | rfl <;> rfl
set_option maxRecDepth 100000 in
theorem range_pr {w : World} {g o : Nat} {ky vl : ByteArray} (h : w.rangeAt g o (#[.string ky, .string vl] : Array Value).toList) : (ldPr (.pointer (some ⟨g, o, none⟩))).run Tryd.prog w = .ok (.agg (#[.string ky, .string vl] : Array Value)) w :=
  run_loadAt_mid (P := Tryd.prog) w g o 63 (#[.string ky, .string vl] : Array Value).toList _ h Tryd.underlying63 rfl (pr_list ky vl)
set_option maxRecDepth 100000 in
theorem Box.l_pr {w : World} {g : Nat} {t : TypeId} {ky vl : ByteArray} (h : Box w g t (#[.string ky, .string vl] : Array Value)) : (ldPr (.pointer (some ⟨g, 0, none⟩))).run Tryd.prog w = .ok (.agg (#[.string ky, .string vl] : Array Value)) w := range_pr (Box.range h)
set_option maxRecDepth 100000 in
theorem Box.s_pr {w : World} {g : Nat} {t : TypeId} {cs : Array Value} (h : Box w g t cs) (hs : cs.size = 2) (ky vl : ByteArray) :
    ∃ w', (stPr (.pointer (some ⟨g, 0, none⟩)) (.agg (#[.string ky, .string vl] : Array Value))).run Tryd.prog w = .ok () w' ∧ Box w' g t (#[.string ky, .string vl] : Array Value) ∧ w.grownBy w' (some g) := by
  refine ⟨w.setCells g 0 (#[.string ky, .string vl] : Array Value).toList, ?_, h.cells_all (#[.string ky, .string vl] : Array Value) (by rw [hs]; rfl), only_cells (g := g) _ 0 _⟩
  exact run_storeAt_mid (P := Tryd.prog) _ g 0 63 (#[.string ky, .string vl] : Array Value) (fun j hj => by
    have hj4 : j < 2 := hj
    rw [h.cell, h.free, Array.getElem?_eq_getElem (by omega)]
    exact ⟨rfl, rfl⟩) (pr_size ky vl) (by have := all_oneCell_toArray (pr_one ky vl); simpa using this)
set_option maxRecDepth 100000 in
/-- A block is laid, and the value is stored there. -/
theorem laid_pr (w : World) (zs : Array Value) (hz : zs.size = 2) (ky vl : ByteArray) : ∃ w', (stPr (.pointer (some ⟨w.heap.size, 0, none⟩)) (.agg (#[.string ky, .string vl] : Array Value))).run Tryd.prog (w.alloc (.cells zs 63)) = .ok () w' ∧ Box w' w.heap.size 63 (#[.string ky, .string vl] : Array Value) ∧ Below w.heap.size w w' ∧ (w.alloc (.cells zs 63)).grownBy w' (some w.heap.size) := by
  obtain ⟨w', h1, h2, h3⟩ := (Box.made w 63 zs).s_pr hz ky vl
  exact ⟨w', h1, h2, ((Below.refl _ _).alloc (Nat.le_refl _) _).trans (below_only h3 (Nat.le_refl _) (by simp)), h3⟩
set_option maxRecDepth 100000 in
theorem retn_pr {fn : Func} {p : Tmp} (hf : fn.results = #[.cell p 63]) {a : Act} {w : World} {g : Nat} (hp : a.tmps.getD p undef = .pointer (some ⟨g, 0, none⟩)) (hdf : a.defers = []) {t : TypeId} {ky vl : ByteArray} (hb : Box w g t (#[.string ky, .string vl] : Array Value))
    {R : Ending → World → Prop} (hR : R (.returned (.agg (#[.string ky, .string vl] : Array Value))) w) : bodyPost Tryd.prog fn R .ret a w :=
  bodyPost_ret (results_cell_row hf _ w g t _ (0, 0) _ hp hb Tryd.underlying63 rfl (pr_size ky vl)) hdf hR

set_option maxRecDepth 100000 in
theorem bd_st (w : World) (pA : Option Addr) (pn pc : Nat) (rA : Option Addr) (rn rc : Nat) (ep : Int) (mA : Option Addr) (mn mc : Nat) :
    (Instr.build 37 #[(0, .slice pA pn pc), (1, .slice rA rn rc), (2, .agg (cfgV ep mA mn mc))]).run Tryd.prog w = .ok (.agg (stV pA pn pc rA rn rc ep mA mn mc)) w :=
  run_build w _ _ _ (by kernel_rfl)
attribute [local go_sem ↓] bsT_def apAll_def cpAll_def clAll_def ldRp_def stRp_def ldSt_def stSt_def ldPr_def stPr_def ldCf_def stCf_def

/-! ### slices.Clone -/

/-! ### state.copyReply, state.copyConfig -/
end Go.Proofs.YtlogceoeodjeoaaDoor

namespace Go.Proofs.YtlogceoeodjeoaaDoor
open Go.RowKit

attribute [local go_sem ↓] ldRp_def stRp_def ldSt_def stSt_def ldCf_def stCf_def

/-- What the copy's loop carries. -/
structure CyW (s : StM) (w0 : World) (b r : Nat) (pA : Option Addr) (pc : Nat) (rA : Option Addr) (rc : Nat) (mA : Option Addr) (mc : Nat) (i : Nat) (L : List RepM) (w : World) : Prop where
  box : Box w b 37 (stV pA s.ps.length pc rA s.rs.length rc s.ep mA s.ms.length mc)
  out : Box w r 37 (stV none 0 0 none 0 0 0 none 0 0)
  ps : PK.Own w w0.heap.size (.slice pA s.ps.length pc) s.ps
  ms : MK.Own w w0.heap.size (.slice mA s.ms.length mc) s.ms
  rs : RK.Own w w0.heap.size (.slice rA s.rs.length rc) L
  len : L.length = s.rs.length
  same : L.map RepM.x = s.rs.map RepM.x
  done : ∀ j (hj : j < L.length), j < i → SK.Own w w0.heap.size (.slice (L[j]'hj).A (L[j]'hj).x.vals.length (L[j]'hj).z) (L[j]'hj).x.vals
  rest : L.drop i = s.rs.drop i
  far : Below w0.heap.size w0 w
  hb : w0.heap.size ≤ b
  hr : w0.heap.size ≤ r
  ne : b ≠ r
section
variable {s : StM} {w0 w w' : World} {b r : Nat} {pA : Option Addr} {pc : Nat} {rA : Option Addr} {rc : Nat} {mA : Option Addr} {mc i : Nat} {L : List RepM}
set_option maxRecDepth 100000 in
theorem CyW.call (h : CyW s w0 b r pA pc rA rc mA mc i L w) (hb : Below w.heap.size w w') : CyW s w0 b r pA pc rA rc mA mc i L w' :=
  ⟨h.box.below hb h.box.lt, h.out.below hb h.out.lt, EK.Own.keep h.ps hb, EK.Own.keep h.ms hb, EK.Own.keep h.rs hb, h.len, h.same, fun j hj hi => EK.Own.keep (h.done j hj hi) hb, h.rest, h.far.trans (hb.mono h.far.size), h.hb, h.hr, h.ne⟩
set_option maxRecDepth 100000 in
theorem CyW.at_ (h : CyW s w0 b r pA pc rA rc mA mc i L w) (hi : i < s.rs.length) : L[i]'(by rw [h.len]; exact hi) = s.rs[i]'hi := by
  have h1 := congrArg (fun l : List RepM => l[0]?) h.rest
  simp only [List.getElem?_drop, Nat.add_zero] at h1
  rw [List.getElem?_eq_getElem (by rw [h.len]; exact hi), List.getElem?_eq_getElem hi] at h1
  injection h1
set_option maxRecDepth 100000 in
theorem CyW.ptr (h : CyW s w0 b r pA pc rA rc mA mc i L w) (hi : i < s.rs.length) : ∃ g, rA = some ⟨g, 0, none⟩ ∧ w0.heap.size ≤ g ∧ w.rangeAt g (i * 4) (RepM.cells (s.rs[i]'hi)) := by
  obtain ⟨_, _, _, h4⟩ := EK.Own.bounds h.rs
  obtain ⟨g, e, hg, _⟩ := h4 (by rw [h.len]; omega)
  obtain ⟨g2, o2, e2, _, hr⟩ := EK.See.range (EK.Own.see h.rs) (i := i) (by rw [h.len]; exact hi)
  rw [e] at e2
  injection e2 with e2
  injection e2 with e2 e3
  subst e2
  subst e3
  have h5 := hr i (by rw [h.len]; exact hi)
  rw [h.at_ hi] at h5
  rw [Nat.zero_add] at h5
  exact ⟨g, e, hg, h5⟩
set_option maxRecDepth 100000 in
/-- A reply's copy is stored. -/
theorem CyW.put {g m : Nat} {cs : Array Value} (h : CyW s w0 b r pA pc (some ⟨g, 0, none⟩) rc mA mc i L w) (hi : i < s.rs.length) {A : Option Addr} {z : Nat} (ho : SK.Own w w0.heap.size (.slice A (s.rs[i]'hi).x.vals.length z) (s.rs[i]'hi).x.vals) (hbx : Box w m 67 cs) (hm : m ≠ g) :
    ∃ w' L', (stRp (.pointer (some ⟨g, i * 4, none⟩)) (.agg (repv (s.rs[i]'hi).x.client (s.rs[i]'hi).x.num (s.rs[i]'hi).x.code A (s.rs[i]'hi).x.vals.length z))).run Tryd.prog w = .ok () w' ∧ CyW s w0 b r pA pc (some ⟨g, 0, none⟩) rc mA mc (i + 1) L' w' ∧ Box w' m 67 cs := by
  have hil : i < L.length := by rw [h.len]; exact hi
  obtain ⟨h1, h2, h3⟩ := EK.Own.put (K := RK) h.rs hil (⟨(s.rs[i]'hi).x, A, z⟩ : RepM)
  refine ⟨w.setCells g (i * RK.k) (RK.enc ⟨(s.rs[i]'hi).x, A, z⟩), L.set i ⟨(s.rs[i]'hi).x, A, z⟩, h1, ?_, hbx.grown h3 (fun e => hm (by injection e))⟩
  generalize w.setCells g (i * RK.k) (RK.enc ⟨(s.rs[i]'hi).x, A, z⟩) = w' at *
  have hs : ∀ {vs : List ByteArray} {v : Value}, SK.Own w w0.heap.size v vs → SK.Own w' w0.heap.size v vs := fun hv => own_apart hv h.rs (by decide) h3
  refine ⟨box_own h.box h.rs (by decide) h3, box_own h.out h.rs (by decide) h3, own_apart h.ps h.rs (by decide) h3, own_apart h.ms h.rs (by decide) h3, h2, by rw [List.length_set]; exact h.len, ?_, fun j hj hji => ?_, ?_, h.far.trans (below_own h.rs h3 h.far.size), h.hb, h.hr, h.ne⟩
  · rw [List.map_set, ← h.at_ hi]
    show (L.map RepM.x).set i (L[i]'hil).x = _
    rw [← List.map_set, List.set_getElem_self, h.same]
  · by_cases e : j = i
    · subst e
      simp only [List.getElem_set_self]
      exact hs ho
    · have hj2 : j < L.length := by rw [List.length_set] at hj; exact hj
      rw [List.getElem_set_ne (fun e2 => e e2.symm)]
      exact hs (h.done j hj2 (by omega))
  · rw [List.drop_set_of_lt (by omega)]
    have := congrArg (List.drop 1) h.rest
    rwa [List.drop_drop, List.drop_drop] at this
end

/-- What the region of a reply's copy reads. -/
structure CyS (w0 : World) (b m : Nat) (v : Value) (cs : Array Value) (w : World) : Prop where
  far : Below w0.heap.size w0 w
  c1 : w.cell? ⟨b, 1, none⟩ = some v
  bx : Box w m 67 cs
set_option maxRecDepth 100000 in
theorem CyS.call {w0 w w' : World} {b m : Nat} {v : Value} {cs : Array Value} (h : CyS w0 b m v cs w) (hb : Below w.heap.size w w') : CyS w0 b m v cs w' :=
  ⟨h.far.trans (hb.mono h.far.size), (hb.cell (p := ⟨b, 1, none⟩) (block_lt_of_cell h.c1)).trans h.c1, h.bx.below hb h.bx.lt⟩

end Go.Proofs.YtlogceoeodjeoaaDoor
