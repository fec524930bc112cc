/-
  Rows of members that are owned: literals, appends, stores, cuts, clear.
-/
import Derived.Test.YtloaidahlagmiaaCfSort
import Derived.Great.BuildSlice
import Derived.Lib.SliceRun
namespace Go.Proofs.Ytloaidahlagmiaa
open Go.RowKit

noncomputable def bsMem (n : Nat) (parts : Array (Nat × Value)) : Sem Value := Instr.buildSlice 22 n parts
set_option maxRecDepth 100000 in
theorem bsMem_def (n : Nat) (parts : Array (Nat × Value)) : Instr.buildSlice 22 n parts = bsMem n parts := rfl
noncomputable def clMem (ts : Array TypeId) (ty : TypeId) (vs : Array Value) : Sem Value := Builtin.clear_ ts ty vs
set_option maxRecDepth 100000 in
theorem clMem_def (ts : Array TypeId) (ty : TypeId) (vs : Array Value) : Builtin.clear_ ts ty vs = clMem ts ty vs := rfl
set_option maxRecDepth 100000 in
theorem mem_info3 : (Try.prog.info? 31).map (fun i => (i.zero, i.size, i.bytes)) = some (some (.agg zmemV), 34, 48) := by kernel_rfl

def partsM : Nat → List MemX → List (Nat × Value)
  | _, [] => []
  | k, x :: r => (k, x.enc) :: partsM (k + 1) r
set_option maxRecDepth 100000 in
theorem fill_mems : ∀ (r : List MemX) (k : Nat) (pre : List Value), pre.length = k * 34 →
    Instr.fill (fun i => some (i * 34, 34)) (pre ++ flatM (List.replicate r.length zmem)).toArray (partsM k r) = some (pre ++ flatM r).toArray
  | [], k, pre, _ => rfl
  | x :: r, k, pre, hp => by
    have e : flatM (List.replicate (x :: r).length zmem) = zmem.cells ++ flatM (List.replicate r.length zmem) := by
      rw [List.length_cons, List.replicate_succ]
      rfl
    rw [e]
    unfold partsM
    rw [fill_step (off := k * 34) (size := 34) (vs := x.cells) rfl hp zmem.cells_len rfl x.cells_len]
    have e2 : pre ++ (x.cells ++ flatM (List.replicate r.length zmem)) = (pre ++ x.cells) ++ flatM (List.replicate r.length zmem) := by rw [List.append_assoc]
    rw [e2, fill_mems r (k + 1) (pre ++ x.cells) (by rw [List.length_append, x.cells_len, hp]; omega), List.append_assoc]
    rfl
set_option maxRecDepth 100000 in
theorem zero_mems (n : Nat) : ((Array.range (n * 34)).map fun x => zmemV[x % zmemV.size]!) = (flatM (List.replicate n zmem)).toArray := by
  apply Array.ext_getElem?
  intro j
  rcases Nat.lt_or_ge j (n * 34) with hj | hj
  · obtain ⟨y, h1, h2⟩ := cf_get MemX.cells 34 MemX.cells_len (List.replicate n zmem) j (by rw [List.length_replicate]; exact hj)
    have hy : y = zmem := by
      have := List.mem_of_getElem? h1
      exact List.eq_of_mem_replicate this
    subst hy
    have hm : j % 34 < zmem.cells.length := by rw [zmem.cells_len]; omega
    have hm2 : j % 34 < zmemV.size := by rw [zmem_size]; omega
    have hr : (flatM (List.replicate n zmem)).toArray[j]? = zmem.cells[j % 34]? := by
      rw [List.getElem?_toArray]
      exact h2
    rw [hr, List.getElem?_eq_getElem hm, Array.getElem?_map, Array.getElem?_eq_getElem (by rw [Array.size_range]; exact hj), Option.map_some, Array.getElem_range]
    show some (zmemV[j % 34]!) = _
    rw [getElem!_pos zmemV (j % 34) hm2]
    rfl
  · rw [Array.getElem?_eq_none (by simpa using hj), Array.getElem?_eq_none (by rw [List.size_toArray, flatM_len, List.length_replicate]; exact hj)]
set_option maxRecDepth 100000 in
/-- A slice literal of members. -/
theorem build_mems (r : List MemX) (h0 : 0 < r.length) (h1 : r.length ≤ 1000) (w : World) :
    (bsMem r.length (partsM 0 r).toArray).run Try.prog w = .ok (.slice (some ⟨w.heap.size, 0, none⟩) r.length r.length) (w.alloc (.cells (flatM r).toArray 31)) := by
  obtain ⟨i0, hi0, hz0, hz1, hz2⟩ := info_parts mem_info3
  have hz := zero_mems r.length
  have hf := fill_mems r 0 [] rfl
  refine run_buildSlice (P := Try.prog) w 22 31 r.length _ _ i0 _ Try.underlying22 hi0 hz0 (by rw [hz1]; omega) (by rw [hz1]; omega) ?_
  rw [hz1]
  show Instr.fill _ ((Array.range (r.length * 34)).map fun x => zmemV[x % zmemV.size]!) (partsM 0 r).toArray.toList = _
  rw [hz, List.toList_toArray]
  exact hf
set_option maxRecDepth 100000 in
theorem build_mem1 (x : MemX) (w : World) : (bsMem 1 #[(0, .agg x.cells.toArray)]).run Try.prog w = .ok (.slice (some ⟨w.heap.size, 0, none⟩) 1 1) (w.alloc (.cells x.cells.toArray 31)) := by
  have h := build_mems [x] (by simp) (by simp) w
  have e : flatM [x] = x.cells := by simp
  rw [e] at h
  exact h
set_option maxRecDepth 100000 in
theorem build_mem0 (w : World) : (bsMem 0 #[]).run Try.prog w = .ok (.slice (some ⟨w.heap.size, 0, none⟩) 0 0) (w.alloc (.cells #[] 31)) := by
  obtain ⟨i0, hi0, hz0, hz1, hz2⟩ := info_parts mem_info3
  have hu : Try.prog.underlying 22 = some (.slice 31) := Try.underlying22
  have hs : (sizeOf 31).run Try.prog w = .ok 34 w := by kernel_rfl
  unfold bsMem Instr.buildSlice
  simp [Sem.run_bind, run_underlying hu, hs, newRow, Instr.fill, Array.range_zero']
set_option maxRecDepth 100000 in
theorem own_mem0 (w : World) {base : Nat} (hb : base ≤ w.heap.size) : OwnM (w.alloc (.cells #[] 31)) base (.slice (some ⟨w.heap.size, 0, none⟩) 0 0) [] :=
  World.ownsRow_lit (base := base) (size := 34) w (e := 31) #[] 0 hb (by simp [maxLen]) (by simp)
set_option maxRecDepth 100000 in
theorem own_mems (w : World) {base : Nat} (hb : base ≤ w.heap.size) (r : List MemX) (h : r.length ≤ maxLen) : OwnM (w.alloc (.cells (flatM r).toArray 31)) base (.slice (some ⟨w.heap.size, 0, none⟩) r.length r.length) r := by
  have := World.ownsRow_lit (base := base) (size := 34) w (e := 31) (flatM r).toArray r.length hb h (by rw [List.size_toArray, flatM_len])
  rw [List.toList_toArray] at this
  exact this
set_option maxRecDepth 100000 in
theorem mems_one (w : World) (x : MemX) : Mems (w.alloc (.cells x.cells.toArray 31)) (w.alloc (.cells x.cells.toArray 31)).heap.size (some ⟨w.heap.size, 0, none⟩) [x] := by
  have hX : Box (w.alloc (.cells x.cells.toArray 31)) w.heap.size 31 x.cells.toArray := Box.made _ _ _
  have e : flatM [x] = x.cells := by simp
  show Sees _ _ _ (flatM [x])
  rw [e]
  simpa using Sees.of_box hX hX.lt
set_option maxRecDepth 100000 in
theorem own_nil (w : World) (base : Nat) : OwnM w base (.slice none 0 0) [] := ⟨rfl, .inl ⟨rfl, rfl⟩⟩

set_option maxRecDepth 100000 in
theorem Mems.add {w : World} {B : Nat} {ad : Addr} {ms : List MemX} (h : Mems w B (some ad) ms) : ∀ j u, (flatM ms)[j]? = some u → w.cell? (ad.add j) = some u := by
  intro j u hu
  rcases h with hn | ⟨g, o, e, _, hc⟩
  · rw [hn] at hu
    cases hu
  · injection e with e
    subst e
    rw [plain_add]
    exact hc j u hu
set_option maxRecDepth 100000 in
theorem OwnM.slice {w : World} {base : Nat} {v : Value} {ms : List MemX} (h : OwnM w base v ms) : ∃ A c, v = .slice A ms.length c := own_slice_s h
set_option maxRecDepth 100000 in
theorem OwnM.mems {w : World} {base c n : Nat} {A : Option Addr} {ms : List MemX} (h : OwnM w base (.slice A n c) ms) : Mems w w.heap.size A ms := by
  obtain ⟨A', c', e⟩ := h.slice
  injection e with e1 e2 e3
  subst e2
  exact sees_own h

set_option maxRecDepth 100000 in
/-- append of what is seen onto an owned row (nil or not), as the frozen call's run. -/
theorem append_mems {w : World} {base n : Nat} {v : Value} {ms : List MemX} (hn : n = ms.length) (hown : w.ownsRow base 31 34 v n (flatM ms)) {A : Option Addr} {m c : Nat} {es : List MemX} (hm : m = es.length) (he : Mems w w.heap.size A es)
    (hb : n + m ≤ 1099511627776) (hbase : base ≤ w.heap.size) :
    ∃ v' w', (apAll #[22, 22] 22 #[v, .slice A m c]).run Try.prog w = .ok v' w' ∧ OwnM w' base v' (ms ++ es) ∧ w.grownBy w' v.ownBlock := by
  obtain ⟨i0, hi0, hz0, hz1, hz2⟩ := info_parts mem_info3
  have hfl := flatM_len es
  have hap : ∀ (w' : World) (v' : Value), w'.ownsRow base 31 34 v' (n + m) (flatM ms ++ flatM es) → OwnM w' base v' (ms ++ es) := fun w' v' h => by
    have e : flatM (ms ++ es) = flatM ms ++ flatM es := List.flatMap_append
    show w'.ownsRow base 31 34 v' (ms ++ es).length (flatM (ms ++ es))
    rw [e, List.length_append, ← hn, ← hm]
    exact h
  cases A with
  | some ad =>
    obtain ⟨v', w', hr, ho, hg, _⟩ := run_append_own (P := Try.prog) w base 22 22 31 i0 _ 34 48 Try.underlying22 hi0 hz0 hz1 hz2 rfl (by omega) v n _ hown ad m c (flatM es) (by rw [hfl, hm]) he.add (flatM_one es) (by unfold maxLen; omega) (by omega) hbase
    exact ⟨v', w', hr, hap w' v' ho, hg⟩
  | none =>
    have hnil : flatM es = [] := by
      rcases he with h | ⟨g, o, h, _⟩
      · exact h
      · cases h
    have hm0 : m = 0 := by
      rw [hnil, List.length_nil] at hfl
      omega
    subst hm0
    refine ⟨v, w, ?_, hap w v (by rw [hnil]; simpa using hown), only_refl _ _⟩
    have hu : Try.prog.underlying 22 = some (.slice 31) := Try.underlying22
    show (Builtin.append_ _ _ _).run _ _ = _
    rcases hown.2 with ⟨rfl, rfl⟩ | ⟨g, cap, cur, rfl, _, _, hnc, _⟩
    · simp [Builtin.append_, run_underlying hu, sizeOf, typeInfo, hi0, Builtin.lenOf, Builtin.firstCells]
    · simp [Builtin.append_, run_underlying hu, sizeOf, typeInfo, hi0, Builtin.lenOf, Builtin.firstCells, hnc, storeCells]

set_option maxRecDepth 100000 in
theorem flat_set {L : List MemX} {i : Nat} (h : i < L.length) (x : MemX) : flatM (L.set i x) = flatM (L.take i) ++ (x.cells ++ flatM (L.drop (i + 1))) := by
  rw [List.set_eq_take_append_cons_drop, if_pos h]
  show (L.take i ++ x :: L.drop (i + 1)).flatMap _ = _
  rw [List.flatMap_append, List.flatMap_cons]
set_option maxRecDepth 100000 in
theorem flat_split {L : List MemX} {i : Nat} (h : i < L.length) : flatM L = flatM (L.take i) ++ ((L[i]'h).cells ++ flatM (L.drop (i + 1))) := by
  have := flat_set h (L[i]'h)
  rwa [List.set_getElem_self] at this
set_option maxRecDepth 100000 in
/-- A member is stored into an owned row. -/
theorem OwnM.put {w : World} {base g n c : Nat} {L : List MemX} (h : OwnM w base (.slice (some ⟨g, 0, none⟩) n c) L) {i : Nat} (hi : i < L.length) (x : MemX) :
    ∃ w', (stMem (.pointer (some ⟨g, i * 34, none⟩)) x.enc).run Try.prog w = .ok () w' ∧ OwnM w' base (.slice (some ⟨g, 0, none⟩) n c) (L.set i x) ∧ w.grownBy w' (some g) := by
  rcases h.2 with ⟨h1, _⟩ | ⟨g', cap, cur, h1, hbase, hb, hcap, hmax, hsz, htk⟩
  · cases h1
  · injection h1 with e1 e2 e3
    injection e1 with e1
    injection e1 with e1
    subst e1
    subst e3
    have hbx : Box w g 31 cur := hb
    have hcl : cur.toList = flatM (L.take i) ++ ((L[i]'hi).cells ++ (flatM (L.drop (i + 1)) ++ cur.toList.drop (L.length * 34))) := by
      have := List.take_append_drop (L.length * 34) cur.toList
      rw [htk, flat_split hi] at this
      simp only [List.append_assoc] at this ⊢
      exact this.symm
    have hpl : (flatM (L.take i)).length = i * 34 := by rw [flatM_len, List.length_take]; congr 1; omega
    have hbx2 : Box w g 31 (flatM (L.take i) ++ ((L[i]'hi).cells ++ (flatM (L.drop (i + 1)) ++ cur.toList.drop (L.length * 34)))).toArray := by
      rw [← hcl]
      simpa using hbx
    have hi34 : i * 34 + 34 ≤ cur.size := by
      have := Nat.mul_le_mul_right 34 hcap
      omega
    refine ⟨w.setCells g (i * 34) x.cells, ?_, ⟨?_, .inr ⟨g, c, _, by rw [e2, List.length_set], hbase, hbx2.put_mid hpl (by rw [x.cells_len, MemX.cells_len]), ?_, hmax, ?_, ?_⟩⟩, only_cells (g := g) x.cells _ _⟩
    · exact run_storeAt_mid (P := Try.prog) _ g (i * 34) 31 x.cells.toArray (fun j hj => by
        rw [List.size_toArray, x.cells_len] at hj
        rw [hbx.cell, hbx.free, Array.getElem?_eq_getElem (by omega)]
        exact ⟨rfl, rfl⟩) (by rw [List.size_toArray]; exact x.size) (by have := all_oneCell_toArray x.cells_one; simpa using this)
    · rw [flatM_len]
    · rw [List.length_set]
      exact hcap
    · rw [← hsz]
      have := congrArg List.length hcl
      simp only [List.length_append, MemX.cells_len, Array.length_toList] at this
      simp only [List.size_toArray, List.length_append, x.cells_len]
      omega
    · rw [List.toList_toArray, flat_set hi, ← List.append_assoc x.cells, ← List.append_assoc, List.take_append_of_le_length (by
        rw [List.length_append, List.length_append, hpl, x.cells_len, flatM_len, List.length_drop, List.length_set]
        omega), List.take_of_length_le (by
        rw [List.length_append, List.length_append, hpl, x.cells_len, flatM_len, List.length_drop, List.length_set]
        omega)]
set_option maxRecDepth 100000 in
theorem OwnM.cut {w w' : World} {base g n c : Nat} {L : List MemX} (h : OwnM w base (.slice (some ⟨g, 0, none⟩) n c) L) {i : Nat} (hi : i ≤ L.length) {vs : List Value} (hvs : i * 34 + vs.length ≤ c * 34) (hw : w' = w.setCells g (i * 34) vs) :
    OwnM w' base (.slice (some ⟨g, 0, none⟩) i c) (L.take i) ∧ w.grownBy w' (some g) := by
  subst hw
  rcases h.2 with ⟨h1, _⟩ | ⟨g', cap, cur, h1, hbase, hb, hcap, hmax, hsz, htk⟩
  · cases h1
  · injection h1 with e1 e2 e3
    injection e1 with e1
    injection e1 with e1
    subst e1
    subst e3
    have hbx : Box w g 31 cur := hb
    obtain ⟨cs', hb', hs', h1, _, _⟩ := Box.cells_at vs (i * 34) w cur hbx (by omega)
    have hlt : (L.take i).length = i := by rw [List.length_take]; omega
    refine ⟨⟨flatM_len _, .inr ⟨g, c, cs', by rw [hlt], hbase, hb', by omega, hmax, by omega, ?_⟩⟩, only_cells _ _ _⟩
    apply List.ext_getElem?
    intro j
    rw [hlt]
    rcases Nat.lt_or_ge j (i * 34) with hj | hj
    · rw [List.getElem?_take, if_pos hj, Array.getElem?_toList, h1 j hj, ← Array.getElem?_toList]
      have hle : i * 34 ≤ L.length * 34 := Nat.mul_le_mul_right 34 hi
      have e : (flatM (L.take i))[j]? = (flatM L)[j]? := by
        have hsp : flatM L = flatM (L.take i) ++ flatM (L.drop i) := by
          show _ = (L.take i).flatMap _ ++ (L.drop i).flatMap _
          rw [← List.flatMap_append, List.take_append_drop]
        rw [hsp, List.getElem?_append_left (by rw [flatM_len, hlt]; exact hj)]
      rw [e, ← htk, List.getElem?_take, if_pos (by omega)]
    · rw [List.getElem?_eq_none (by rw [List.length_take]; omega), List.getElem?_eq_none (by rw [flatM_len, hlt]; exact hj)]
set_option maxRecDepth 100000 in
theorem OwnM.bounds {w : World} {base n c : Nat} {A : Option Addr} {L : List MemX} (h : OwnM w base (.slice A n c) L) : n = L.length ∧ L.length ≤ c ∧ c ≤ maxLen ∧ (0 < L.length → ∃ g, A = some ⟨g, 0, none⟩ ∧ base ≤ g ∧ g < w.heap.size) := by
  rcases h.2 with ⟨h1, h2⟩ | ⟨g, cap, cur, h1, hbase, hb, hcap, hmax, hsz, htk⟩
  · injection h1 with e1 e2 e3
    exact ⟨by omega, by omega, by rw [e3]; simp [maxLen], fun hp => by omega⟩
  · injection h1 with e1 e2 e3
    subst e3
    exact ⟨e2, hcap, hmax, fun _ => ⟨g, e1, hbase, (Array.getElem?_eq_some_iff.1 hb).1⟩⟩

set_option maxRecDepth 100000 in
theorem mem_from {g n c m : Nat} (hm : m < c) (hn : m ≤ n) (w : World) :
    (Instr.slice 22 (.slice (some ⟨g, 0, none⟩) n c) (some (.int .i64 (m : Int))) none none).run Try.prog w = .ok (.slice (some ⟨g, m * 34, none⟩) (n - m) (c - m)) w := by
  have hu : Try.prog.underlying 22 = some (.slice (Try.prog.elem 22)) := by kernel_rfl
  have hs : (sizeOf (Try.prog.elem 22)).run Try.prog w = .ok 34 w := by kernel_rfl
  rw [run_slice_l w 22 _ n c hu .i64 (m : Int) (by omega) (by omega), hs]
  have e : (⟨g, 0, none⟩ : Addr).add (m * 34) = ⟨g, m * 34, none⟩ := by rw [plain_add, Nat.zero_add]
  simp [sliced, e]
  omega
set_option maxRecDepth 100000 in
theorem mem_upto {g n c i : Nat} (hi : i ≤ c) (w : World) :
    (Instr.slice 22 (.slice (some ⟨g, 0, none⟩) n c) none (some (.int .i64 (i : Int))) none).run Try.prog w = .ok (.slice (some ⟨g, 0, none⟩) i c) w := by
  have hu : Try.prog.underlying 22 = some (.slice (Try.prog.elem 22)) := by kernel_rfl
  have hs : (sizeOf (Try.prog.elem 22)).run Try.prog w = .ok 34 w := by kernel_rfl
  rw [run_slice_h w 22 _ n c hu .i64 (i : Int) (by omega) (by omega), hs]
  simp [sliced, Addr.add_zero']
set_option maxRecDepth 100000 in
/-- clear of members. -/
theorem clear_mems (w : World) (ty : TypeId) (g o n c : Nat) (hn : 0 < n) {t : TypeId} {cs : Array Value} (hb : Box w g t cs) (hs : o + n * 34 ≤ cs.size) :
    ∃ vs : List Value, vs.length = n * 34 ∧ (clMem #[22] ty #[.slice (some ⟨g, o, none⟩) n c]).run Try.prog w = .ok (.tuple #[]) (w.setCells g o vs) := by
  have hv : ∀ w, (zeroValue 31).run Try.prog w = .ok (.agg zmemV) w := fun w => by kernel_rfl
  have hu : Try.prog.underlying 22 = some (.slice 31) := Try.underlying22
  refine ⟨(Builtin.zeroCells zmemV n).toList, by simp [Builtin.zeroCells, zmem_size], ?_⟩
  have hl : (Builtin.zeroCells zmemV n).toList.length = n * 34 := by simp [Builtin.zeroCells, zmem_size]
  have hst := run_storeCells_cells (P := Try.prog) g o (Builtin.zeroCells zmemV n).toList 0 w (by
      intro j hj
      rw [hl] at hj
      rw [hb.cell, Array.getElem?_eq_getElem (by omega)]
      rfl) (by
      intro j hj
      exact hb.free _) (by
      intro v hv
      rw [Array.mem_toList_iff] at hv
      simp only [Builtin.zeroCells, Array.mem_map, Array.mem_range] at hv
      obtain ⟨j, _, rfl⟩ := hv
      have hm2 : j % zmemV.size < zmemV.size := Nat.mod_lt _ (by rw [zmem_size]; decide)
      rw [getElem!_pos zmemV _ hm2]
      have hone : ∀ v ∈ zmemV.toList, v.oneCell' = true := zmem.cells_one
      exact hone _ (Array.mem_toList_iff.2 (Array.getElem_mem hm2)))
  simp only [Nat.add_zero] at hst
  obtain ⟨m, rfl⟩ : ∃ m, n = m + 1 := ⟨n - 1, by omega⟩
  show (Builtin.clear_ _ _ _).run _ _ = _
  simp [Builtin.clear_, run_underlying hu, hv, hst, Value.cells]
end Go.Proofs.Ytloaidahlagmiaa
