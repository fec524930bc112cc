/-
  A slice of members is sorted by Ids: slices.SortFunc by config.behind's closure.
  Rows of members that are owned: literals, appends, stores, cuts, clear.
  slices.Clone and slices.DeleteFunc of members.
-/
import Derived.Test.YtbgbidgggjkmmaaGreatDoorCfLay
import Derived.Shelf.SlSortCmp.NoneTotal
import Derived.Lib.Small
import Derived.Sort.Grow
import Derived.Test.YtbgbidgggjkmmaaGreatDoorCA
import Derived.Great.BuildSlice
import Derived.Lib.SliceRun
namespace Go.Proofs.YtbgbidgggjkmmaaGreatDoor
open Go.RowKit Go.Shelf

set_option maxRecDepth 100000 in
theorem cmpi_any (x y : Int) (w : World) : Calls Tryz.prog 32 #[.int .i64 x, .int .i64 y] w fun e w' => e = .returned (.int .i64 (Lib.compareInt x y)) ∧ w' = w := by
  go_enter Tryz.func32, Tryz.ntmps32
  go_wp2
  all_goals (go_ret; refine ⟨?_, rfl⟩; unfold Lib.compareInt; (repeat' split) <;> first | rfl | (exfalso; omega))

def MemX.cmp (x y : MemX) : Int := Lib.compareInt x.id y.id
set_option maxRecDepth 100000 in
theorem MemX.cmp_neg (x y : MemX) : x.cmp y < 0 ↔ x.id < y.id := by
  unfold MemX.cmp Lib.compareInt
  (repeat' split) <;> omega
set_option maxRecDepth 100000 in
theorem mem_swo : Go.Sort.SWO (ltOf MemX.cmp) where
  irrefl x := by
    unfold ltOf
    rw [decide_eq_false_iff_not, MemX.cmp_neg]
    omega
  trans x y z h1 h2 := by
    unfold ltOf at *
    rw [decide_eq_true_iff, MemX.cmp_neg] at *
    omega
  ntrans x y z h1 h2 := by
    unfold ltOf at *
    rw [decide_eq_false_iff_not, MemX.cmp_neg] at *
    omega

set_option maxRecDepth 100000 in
theorem behind2_any (x y : MemX) (w : World) :
    Calls Tryz.prog 76 #[x.enc, y.enc] w fun e w' => e = .returned (.int .i64 (x.cmp y)) ∧ ∃ q os, w' = Go.Sort.grow (w.drewN q) os := by
  obtain ⟨w1, hw1⟩ : ∃ w1, w1 = (w.alloc (.cells x.cells.toArray 74)).alloc (.cells y.cells.toArray 74) := ⟨_, rfl⟩
  have HX : Hid (Box w1 w.heap.size 74 x.cells.toArray) := by
    rw [hw1]
    exact (Box.made w _ _).alloc _
  have HY : Hid (Box w1 (w.heap.size + 1) 74 y.cells.toArray) := by
    rw [hw1]
    exact Box.made_at (by simp) _ _
  have HG : Hid (∃ q os, w1 = Go.Sort.grow (w.drewN q) os) := by
    refine ⟨0, #[.cells x.cells.toArray 74, .cells y.cells.toArray 74], ?_⟩
    rw [hw1, Go.Sort.alloc_eq_grow, Go.Sort.alloc_eq_grow, Go.Sort.grow_grow]
    rfl
  have c0 : w1.cell? ⟨w.heap.size, 0, none⟩ = some (.int .i64 x.id) := HX.out.cell 0
  have d0 : w1.cell? ⟨w.heap.size + 1, 0, none⟩ = some (.int .i64 y.id) := HY.out.cell 0
  have HC := Lib.hid (cmpi_any x.id y.id w1)
  unfold MemX.cmp MemX.enc
  generalize x.id = i at *
  generalize y.id = j at *
  generalize x.cells.toArray = cs at *
  generalize y.cells.toArray = ds at *
  clear HX HY
  go_enter Tryz.func76, Tryz.ntmps76
  go_upto_region 1 with fail
  change Code.wp _ _ _ _ ((w.alloc (.cells cs 74)).alloc (.cells ds 74))
  rw [← hw1]
  clear hw1
  go_wp2_with (go_at_call 32; (with_reducible refine (HC.out).mono ?_); rintro e w2 ⟨rfl, rfl⟩)
  go_ret
  exact ⟨rfl, HG.out⟩

set_option maxRecDepth 100000 in
theorem flatM_list (xs : List MemX) : (Go.Sort.flatK MemX.cells 34 xs.toArray).toList = flatM xs := by
  apply List.ext_getElem?
  intro j
  rcases Nat.lt_or_ge j (xs.length * 34) with hj | hj
  · obtain ⟨x, h1, h2⟩ := cf_get MemX.cells 34 MemX.cells_len xs j hj
    rw [h2]
    have hs : j < (Go.Sort.flatK MemX.cells 34 xs.toArray).size := by rw [Go.Sort.size_flatK]; simpa using hj
    rw [Array.getElem?_toList, Array.getElem?_eq_getElem hs]
    have h3 := Go.Sort.get_flatK MemX.cells 34 xs.toArray j (by simpa using hj)
    rw [getElem!_pos _ j hs] at h3
    rw [h3]
    have hx : xs.toArray[j / 34]! = x := by
      have hlt := (List.getElem?_eq_some_iff.1 h1).1
      rw [getElem!_pos _ _ (by simpa using hlt)]
      simpa using (List.getElem?_eq_some_iff.1 h1).2
    rw [hx]
    have hm : j % 34 < x.cells.length := by rw [x.cells_len]; omega
    rw [getElem!_pos x.cells (j % 34) hm, List.getElem?_eq_getElem hm]
  · rw [List.getElem?_eq_none (by rw [Array.length_toList, Go.Sort.size_flatK]; simpa using hj), List.getElem?_eq_none (by rw [flatM_len]; exact hj)]

set_option maxRecDepth 100000 in
theorem cf_sorted_block {α : Type} [Inhabited α] (enc : α → List Value) (k n g off : Nat) (d : Array α) (os : Array Obj) {w : World} {cur : Array Value} {t : TypeId} {fr : Nat × Nat} (hb : w.heap[g]? = some (.cells cur t fr)) :
    (sortWorldK enc k w g off n d os).heap[g]? = some (.cells (Go.Sort.putCells id off (Go.Sort.flatK enc k d) cur) t fr) := by
  have hlt := (Array.getElem?_eq_some_iff.1 hb).1
  show ((w.heap.modify g (Go.Sort.onCells (Go.Sort.putCells id off (Go.Sort.flatK enc k d)))) ++ os)[g]? = _
  rw [Array.getElem?_append_left (by rw [Array.size_modify]; exact hlt), Array.getElem?_modify, if_pos rfl, hb]
  rfl
set_option maxRecDepth 100000 in
theorem cf_sorted_grown {α : Type} [Inhabited α] (enc : α → List Value) (k n g off : Nat) (d : Array α) (os : Array Obj) (w : World) : w.grownBy (sortWorldK enc k w g off n d os) (some g) := by
  refine ⟨rfl, rfl, rfl, ?_, fun i hi hne => ?_⟩
  · show w.heap.size ≤ ((w.heap.modify g (Go.Sort.onCells (Go.Sort.putCells id off (Go.Sort.flatK enc k d)))) ++ os).size
    rw [Array.size_append, Array.size_modify]
    omega
  · show ((w.heap.modify g (Go.Sort.onCells (Go.Sort.putCells id off (Go.Sort.flatK enc k d)))) ++ os)[i]? = _
    rw [Array.getElem?_append_left (by rw [Array.size_modify]; exact hi), Array.getElem?_modify, if_neg (fun e => hne (by rw [e]))]

/-- A row of members that is owned. -/
abbrev OwnM (w : World) (base : Nat) (v : Value) (ms : List MemX) : Prop := w.ownsRow base 74 34 v ms.length (flatM ms)

def SortedM (ys : List MemX) : Prop := ys.Pairwise (fun a b => ¬ b.id < a.id)
set_option maxRecDepth 100000 in
/-- A slice of members is sorted. -/
theorem sort_mems (xs : List MemX) (base : Nat) (v : Value) (w : World) (hown : OwnM w base v xs) (hlen : xs.length < 1099511627776) :
    Calls Tryz.prog 75 #[v, .func (.func 76) #[] #[]] w fun e w' => e = .returned (.tuple #[]) ∧ ∃ ys : List MemX, ys.Perm xs ∧ SortedM ys ∧ OwnM w' base v ys ∧ w.grownBy w' v.ownBlock := by
  rcases hown.2 with ⟨rfl, h0⟩ | ⟨g, cap, cur, rfl, hbase, hb, hcap, hmax, hsz, htk⟩
  · have hx : xs = [] := List.eq_nil_of_length_eq_zero h0
    subst hx
    have hc := AnyF.slices_SortFunc_none sortMem none 0 (.func (.func 76) #[] #[]) w
    refine hc.mono ?_
    rintro e w' ⟨rfl, rfl⟩
    exact ⟨rfl, [], List.Perm.refl _, List.Pairwise.nil, hown, only_refl _ _⟩
  · have hlt := (Array.getElem?_eq_some_iff.1 hb).1
    have eg : ∀ args w, (callFunc 76 args).run Tryz.prog w = .ok (.enter 76 args) w := enters_of Tryz.func76 (by kernel_rfl) rfl
    have hcell : ∀ j, w.cell? ⟨g, j, none⟩ = cur[j]? := fun j => cell_of_row w g j cur 74 (0, 0) hb
    have hfree : ∀ j, w.frozen? ⟨g, j, none⟩ = false := fun j => frozen_of_row w g j cur 74 hb
    have hlf := flatM_len xs
    have hH : Go.Sort.HoldsK MemX.cells 34 w g 0 xs.toArray := fun j hj => by
      rw [Nat.zero_add]
      refine ⟨?_, hfree j⟩
      have hj' : j < xs.length * 34 := by rw [Go.Sort.size_flatK] at hj; simpa using hj
      rw [hcell, getElem!_pos (Go.Sort.flatK MemX.cells 34 xs.toArray) j hj]
      have h1 : (flatM xs)[j]? = cur[j]? := by
        rw [← htk, List.getElem?_take, if_pos hj', Array.getElem?_toList]
      rw [← h1, ← flatM_list xs, Array.getElem?_toList, Array.getElem?_eq_getElem hj]
      rfl
    have hcmp : CmpLays Tryz.prog 76 #[] MemX.cells 34 MemX.cmp g 0 xs.toArray.size w := fun m os dk hs x y => behind2_any x y _
    have hc := AnyQ.slices_SortFunc sortMem 34 (fun w => by kernel_rfl) (fun w => by kernel_rfl) MemX.cells MemX.cells_len (fun x => MemX.cells_one x) MemX.cmp mem_swo 76 #[] g 0 cap xs.toArray w eg hcmp hH hlt (by simp; omega)
    refine hc.mono ?_
    rintro e w' ⟨rfl, d', n, os, hperm, hsort, rfl⟩
    obtain ⟨hs, _, hp⟩ := hperm
    have hsz' : d'.size = xs.length := by simpa using hs
    have hl : d'.toList.length = xs.length := by simpa using hsz'
    refine ⟨rfl, d'.toList, ?_, ?_, ⟨?_, ?_⟩, cf_sorted_grown _ _ _ _ _ _ _ _⟩
    · have e1 : d'.extract 0 xs.toArray.size = d' := by
        rw [← hs]
        simp
      have e2 : xs.toArray.extract 0 xs.toArray.size = xs.toArray := by simp
      rw [e1, e2] at hp
      exact hp
    · unfold SortedM
      rw [List.pairwise_iff_getElem]
      intro i j hi hj hij
      have h1 := hsort i j (Nat.zero_le _) hij (by simp; omega)
      unfold ltOf at h1
      rw [decide_eq_false_iff_not, getElem!_pos d' j (by simpa using hj), getElem!_pos d' i (by simpa using hi), MemX.cmp_neg] at h1
      simpa using h1
    · exact flatM_len _
    · refine .inr ⟨g, cap, _, by rw [hl], hbase, cf_sorted_block MemX.cells 34 n g 0 d' os hb, by omega, hmax, by simp [Go.Sort.putCells, hsz], ?_⟩
      have hf := flatM_list d'.toList
      rw [Array.toArray_toList] at hf
      apply List.ext_getElem?
      intro j
      rcases Nat.lt_or_ge j (d'.toList.length * 34) with hj | hj
      · rw [List.getElem?_take, if_pos hj, Array.getElem?_toList, ← hf, Array.getElem?_toList]
        have hjf : j < (Go.Sort.flatK MemX.cells 34 d').size := by rw [Go.Sort.size_flatK]; simpa using hj
        have hjc : j < cur.size := by
          rw [hsz]
          rw [hl] at hj
          have := Nat.mul_le_mul_right 34 hcap
          omega
        rw [Array.getElem?_eq_getElem hjf]
        unfold Go.Sort.putCells
        rw [Array.getElem?_mapIdx, Array.getElem?_eq_getElem hjc]
        simp only [Option.map_some]
        rw [if_pos ⟨Nat.zero_le _, by omega⟩, Nat.sub_zero, getElem!_pos (Go.Sort.flatK MemX.cells 34 d') j hjf]
        rfl
      · rw [List.getElem?_eq_none (by rw [List.length_take]; omega), List.getElem?_eq_none (by rw [flatM_len]; exact hj)]
end Go.Proofs.YtbgbidgggjkmmaaGreatDoor

namespace Go.Proofs.YtbgbidgggjkmmaaGreatDoor
open Go.RowKit

noncomputable def bsMem (n : Nat) (parts : Array (Nat × Value)) : Sem Value := Instr.buildSlice 24 n parts
set_option maxRecDepth 100000 in
theorem bsMem_def (n : Nat) (parts : Array (Nat × Value)) : Instr.buildSlice 24 n parts = bsMem n parts := rfl
noncomputable def clMem (ts : Array TypeId) (ty : TypeId) (vs : Array Value) : Sem Value := Builtin.clear_ ts ty vs
set_option maxRecDepth 100000 in
theorem clMem_def (ts : Array TypeId) (ty : TypeId) (vs : Array Value) : Builtin.clear_ ts ty vs = clMem ts ty vs := rfl
set_option maxRecDepth 100000 in
theorem mem_info3 : (Tryz.prog.info? 74).map (fun i => (i.zero, i.size, i.bytes)) = some (some (.agg zmemV), 34, 48) := by kernel_rfl

def partsM : Nat → List MemX → List (Nat × Value)
  | _, [] => []
  | k, x :: r => (k, x.enc) :: partsM (k + 1) r
set_option maxRecDepth 100000 in
theorem fill_mems : ∀ (r : List MemX) (k : Nat) (pre : List Value), pre.length = k * 34 →
    Instr.fill (fun i => some (i * 34, 34)) (pre ++ flatM (List.replicate r.length zmem)).toArray (partsM k r) = some (pre ++ flatM r).toArray
  | [], k, pre, _ => rfl
  | x :: r, k, pre, hp => by
    have e : flatM (List.replicate (x :: r).length zmem) = zmem.cells ++ flatM (List.replicate r.length zmem) := by
      rw [List.length_cons, List.replicate_succ]
      rfl
    rw [e]
    unfold partsM
    rw [fill_step (off := k * 34) (size := 34) (vs := x.cells) rfl hp zmem.cells_len rfl x.cells_len]
    have e2 : pre ++ (x.cells ++ flatM (List.replicate r.length zmem)) = (pre ++ x.cells) ++ flatM (List.replicate r.length zmem) := by rw [List.append_assoc]
    rw [e2, fill_mems r (k + 1) (pre ++ x.cells) (by rw [List.length_append, x.cells_len, hp]; omega), List.append_assoc]
    rfl
set_option maxRecDepth 100000 in
theorem zero_mems (n : Nat) : ((Array.range (n * 34)).map fun x => zmemV[x % zmemV.size]!) = (flatM (List.replicate n zmem)).toArray := by
  apply Array.ext_getElem?
  intro j
  rcases Nat.lt_or_ge j (n * 34) with hj | hj
  · obtain ⟨y, h1, h2⟩ := cf_get MemX.cells 34 MemX.cells_len (List.replicate n zmem) j (by rw [List.length_replicate]; exact hj)
    have hy : y = zmem := by
      have := List.mem_of_getElem? h1
      exact List.eq_of_mem_replicate this
    subst hy
    have hm : j % 34 < zmem.cells.length := by rw [zmem.cells_len]; omega
    have hm2 : j % 34 < zmemV.size := by rw [zmem_size]; omega
    have hr : (flatM (List.replicate n zmem)).toArray[j]? = zmem.cells[j % 34]? := by
      rw [List.getElem?_toArray]
      exact h2
    rw [hr, List.getElem?_eq_getElem hm, Array.getElem?_map, Array.getElem?_eq_getElem (by rw [Array.size_range]; exact hj), Option.map_some, Array.getElem_range]
    show some (zmemV[j % 34]!) = _
    rw [getElem!_pos zmemV (j % 34) hm2]
    rfl
  · rw [Array.getElem?_eq_none (by simpa using hj), Array.getElem?_eq_none (by rw [List.size_toArray, flatM_len, List.length_replicate]; exact hj)]
set_option maxRecDepth 100000 in
/-- A slice literal of members. -/
theorem build_mems (r : List MemX) (h0 : 0 < r.length) (h1 : r.length ≤ 1000) (w : World) :
    (bsMem r.length (partsM 0 r).toArray).run Tryz.prog w = .ok (.slice (some ⟨w.heap.size, 0, none⟩) r.length r.length) (w.alloc (.cells (flatM r).toArray 74)) := by
  obtain ⟨i0, hi0, hz0, hz1, hz2⟩ := info_parts mem_info3
  have hz := zero_mems r.length
  have hf := fill_mems r 0 [] rfl
  refine run_buildSlice (P := Tryz.prog) w 24 74 r.length _ _ i0 _ Tryz.underlying24 hi0 hz0 (by rw [hz1]; omega) (by rw [hz1]; omega) ?_
  rw [hz1]
  show Instr.fill _ ((Array.range (r.length * 34)).map fun x => zmemV[x % zmemV.size]!) (partsM 0 r).toArray.toList = _
  rw [hz, List.toList_toArray]
  exact hf
set_option maxRecDepth 100000 in
theorem build_mem1 (x : MemX) (w : World) : (bsMem 1 #[(0, .agg x.cells.toArray)]).run Tryz.prog w = .ok (.slice (some ⟨w.heap.size, 0, none⟩) 1 1) (w.alloc (.cells x.cells.toArray 74)) := by
  have h := build_mems [x] (by simp) (by simp) w
  have e : flatM [x] = x.cells := by simp
  rw [e] at h
  exact h
set_option maxRecDepth 100000 in
theorem build_mem0 (w : World) : (bsMem 0 #[]).run Tryz.prog w = .ok (.slice (some ⟨w.heap.size, 0, none⟩) 0 0) (w.alloc (.cells #[] 74)) := by
  obtain ⟨i0, hi0, hz0, hz1, hz2⟩ := info_parts mem_info3
  have hu : Tryz.prog.underlying 24 = some (.slice 74) := Tryz.underlying24
  have hs : (sizeOf 74).run Tryz.prog w = .ok 34 w := by kernel_rfl
  unfold bsMem Instr.buildSlice
  simp [Sem.run_bind, run_underlying hu, hs, newRow, Instr.fill, Array.range_zero']
set_option maxRecDepth 100000 in
theorem own_mem0 (w : World) {base : Nat} (hb : base ≤ w.heap.size) : OwnM (w.alloc (.cells #[] 74)) base (.slice (some ⟨w.heap.size, 0, none⟩) 0 0) [] :=
  World.ownsRow_lit (base := base) (size := 34) w (e := 74) #[] 0 hb (by simp [maxLen]) (by simp)
set_option maxRecDepth 100000 in
theorem own_mems (w : World) {base : Nat} (hb : base ≤ w.heap.size) (r : List MemX) (h : r.length ≤ maxLen) : OwnM (w.alloc (.cells (flatM r).toArray 74)) base (.slice (some ⟨w.heap.size, 0, none⟩) r.length r.length) r := by
  have := World.ownsRow_lit (base := base) (size := 34) w (e := 74) (flatM r).toArray r.length hb h (by rw [List.size_toArray, flatM_len])
  rw [List.toList_toArray] at this
  exact this
set_option maxRecDepth 100000 in
theorem mems_one (w : World) (x : MemX) : Mems (w.alloc (.cells x.cells.toArray 74)) (w.alloc (.cells x.cells.toArray 74)).heap.size (some ⟨w.heap.size, 0, none⟩) [x] := by
  have hX : Box (w.alloc (.cells x.cells.toArray 74)) w.heap.size 74 x.cells.toArray := Box.made _ _ _
  have e : flatM [x] = x.cells := by simp
  show Sees _ _ _ (flatM [x])
  rw [e]
  simpa using Sees.of_box hX hX.lt
set_option maxRecDepth 100000 in
theorem own_nil (w : World) (base : Nat) : OwnM w base (.slice none 0 0) [] := ⟨rfl, .inl ⟨rfl, rfl⟩⟩

set_option maxRecDepth 100000 in
theorem Mems.add {w : World} {B : Nat} {ad : Addr} {ms : List MemX} (h : Mems w B (some ad) ms) : ∀ j u, (flatM ms)[j]? = some u → w.cell? (ad.add j) = some u := by
  intro j u hu
  rcases h with hn | ⟨g, o, e, _, hc⟩
  · rw [hn] at hu
    cases hu
  · injection e with e
    subst e
    rw [plain_add]
    exact hc j u hu
set_option maxRecDepth 100000 in
theorem OwnM.slice {w : World} {base : Nat} {v : Value} {ms : List MemX} (h : OwnM w base v ms) : ∃ A c, v = .slice A ms.length c := own_slice_s h
set_option maxRecDepth 100000 in
theorem OwnM.mems {w : World} {base c n : Nat} {A : Option Addr} {ms : List MemX} (h : OwnM w base (.slice A n c) ms) : Mems w w.heap.size A ms := by
  obtain ⟨A', c', e⟩ := h.slice
  injection e with e1 e2 e3
  subst e2
  exact sees_own h

set_option maxRecDepth 100000 in
/-- append of what is seen onto an owned row (nil or not), as the frozen call's run. -/
theorem append_mems {w : World} {base n : Nat} {v : Value} {ms : List MemX} (hn : n = ms.length) (hown : w.ownsRow base 74 34 v n (flatM ms)) {A : Option Addr} {m c : Nat} {es : List MemX} (hm : m = es.length) (he : Mems w w.heap.size A es)
    (hb : n + m ≤ 1099511627776) (hbase : base ≤ w.heap.size) :
    ∃ v' w', (apAll #[24, 24] 24 #[v, .slice A m c]).run Tryz.prog w = .ok v' w' ∧ OwnM w' base v' (ms ++ es) ∧ w.grownBy w' v.ownBlock := by
  obtain ⟨i0, hi0, hz0, hz1, hz2⟩ := info_parts mem_info3
  have hfl := flatM_len es
  have hap : ∀ (w' : World) (v' : Value), w'.ownsRow base 74 34 v' (n + m) (flatM ms ++ flatM es) → OwnM w' base v' (ms ++ es) := fun w' v' h => by
    have e : flatM (ms ++ es) = flatM ms ++ flatM es := List.flatMap_append
    show w'.ownsRow base 74 34 v' (ms ++ es).length (flatM (ms ++ es))
    rw [e, List.length_append, ← hn, ← hm]
    exact h
  cases A with
  | some ad =>
    obtain ⟨v', w', hr, ho, hg, _⟩ := run_append_own (P := Tryz.prog) w base 24 24 74 i0 _ 34 48 Tryz.underlying24 hi0 hz0 hz1 hz2 rfl (by omega) v n _ hown ad m c (flatM es) (by rw [hfl, hm]) he.add (flatM_one es) (by unfold maxLen; omega) (by omega) hbase
    exact ⟨v', w', hr, hap w' v' ho, hg⟩
  | none =>
    have hnil : flatM es = [] := by
      rcases he with h | ⟨g, o, h, _⟩
      · exact h
      · cases h
    have hm0 : m = 0 := by
      rw [hnil, List.length_nil] at hfl
      omega
    subst hm0
    refine ⟨v, w, ?_, hap w v (by rw [hnil]; simpa using hown), only_refl _ _⟩
    have hu : Tryz.prog.underlying 24 = some (.slice 74) := Tryz.underlying24
    show (Builtin.append_ _ _ _).run _ _ = _
    rcases hown.2 with ⟨rfl, rfl⟩ | ⟨g, cap, cur, rfl, _, _, hnc, _⟩
    · simp [Builtin.append_, run_underlying hu, sizeOf, typeInfo, hi0, Builtin.lenOf, Builtin.firstCells]
    · simp [Builtin.append_, run_underlying hu, sizeOf, typeInfo, hi0, Builtin.lenOf, Builtin.firstCells, hnc, storeCells]

set_option maxRecDepth 100000 in
theorem flat_set {L : List MemX} {i : Nat} (h : i < L.length) (x : MemX) : flatM (L.set i x) = flatM (L.take i) ++ (x.cells ++ flatM (L.drop (i + 1))) := by
  rw [List.set_eq_take_append_cons_drop, if_pos h]
  show (L.take i ++ x :: L.drop (i + 1)).flatMap _ = _
  rw [List.flatMap_append, List.flatMap_cons]
set_option maxRecDepth 100000 in
theorem flat_split {L : List MemX} {i : Nat} (h : i < L.length) : flatM L = flatM (L.take i) ++ ((L[i]'h).cells ++ flatM (L.drop (i + 1))) := by
  have := flat_set h (L[i]'h)
  rwa [List.set_getElem_self] at this
set_option maxRecDepth 100000 in
/-- A member is stored into an owned row. -/
theorem OwnM.put {w : World} {base g n c : Nat} {L : List MemX} (h : OwnM w base (.slice (some ⟨g, 0, none⟩) n c) L) {i : Nat} (hi : i < L.length) (x : MemX) :
    ∃ w', (stMem (.pointer (some ⟨g, i * 34, none⟩)) x.enc).run Tryz.prog w = .ok () w' ∧ OwnM w' base (.slice (some ⟨g, 0, none⟩) n c) (L.set i x) ∧ w.grownBy w' (some g) := by
  rcases h.2 with ⟨h1, _⟩ | ⟨g', cap, cur, h1, hbase, hb, hcap, hmax, hsz, htk⟩
  · cases h1
  · injection h1 with e1 e2 e3
    injection e1 with e1
    injection e1 with e1
    subst e1
    subst e3
    have hbx : Box w g 74 cur := hb
    have hcl : cur.toList = flatM (L.take i) ++ ((L[i]'hi).cells ++ (flatM (L.drop (i + 1)) ++ cur.toList.drop (L.length * 34))) := by
      have := List.take_append_drop (L.length * 34) cur.toList
      rw [htk, flat_split hi] at this
      simp only [List.append_assoc] at this ⊢
      exact this.symm
    have hpl : (flatM (L.take i)).length = i * 34 := by rw [flatM_len, List.length_take]; congr 1; omega
    have hbx2 : Box w g 74 (flatM (L.take i) ++ ((L[i]'hi).cells ++ (flatM (L.drop (i + 1)) ++ cur.toList.drop (L.length * 34)))).toArray := by
      rw [← hcl]
      simpa using hbx
    have hi34 : i * 34 + 34 ≤ cur.size := by
      have := Nat.mul_le_mul_right 34 hcap
      omega
    refine ⟨w.setCells g (i * 34) x.cells, ?_, ⟨?_, .inr ⟨g, c, _, by rw [e2, List.length_set], hbase, hbx2.put_mid hpl (by rw [x.cells_len, MemX.cells_len]), ?_, hmax, ?_, ?_⟩⟩, only_cells (g := g) x.cells _ _⟩
    · exact run_storeAt_mid (P := Tryz.prog) _ g (i * 34) 74 x.cells.toArray (fun j hj => by
        rw [List.size_toArray, x.cells_len] at hj
        rw [hbx.cell, hbx.free, Array.getElem?_eq_getElem (by omega)]
        exact ⟨rfl, rfl⟩) (by rw [List.size_toArray]; exact x.size) (by have := all_oneCell_toArray x.cells_one; simpa using this)
    · rw [flatM_len]
    · rw [List.length_set]
      exact hcap
    · rw [← hsz]
      have := congrArg List.length hcl
      simp only [List.length_append, MemX.cells_len, Array.length_toList] at this
      simp only [List.size_toArray, List.length_append, x.cells_len]
      omega
    · rw [List.toList_toArray, flat_set hi, ← List.append_assoc x.cells, ← List.append_assoc, List.take_append_of_le_length (by
        rw [List.length_append, List.length_append, hpl, x.cells_len, flatM_len, List.length_drop, List.length_set]
        omega), List.take_of_length_le (by
        rw [List.length_append, List.length_append, hpl, x.cells_len, flatM_len, List.length_drop, List.length_set]
        omega)]
set_option maxRecDepth 100000 in
theorem OwnM.cut {w w' : World} {base g n c : Nat} {L : List MemX} (h : OwnM w base (.slice (some ⟨g, 0, none⟩) n c) L) {i : Nat} (hi : i ≤ L.length) {vs : List Value} (hvs : i * 34 + vs.length ≤ c * 34) (hw : w' = w.setCells g (i * 34) vs) :
    OwnM w' base (.slice (some ⟨g, 0, none⟩) i c) (L.take i) ∧ w.grownBy w' (some g) := by
  subst hw
  rcases h.2 with ⟨h1, _⟩ | ⟨g', cap, cur, h1, hbase, hb, hcap, hmax, hsz, htk⟩
  · cases h1
  · injection h1 with e1 e2 e3
    injection e1 with e1
    injection e1 with e1
    subst e1
    subst e3
    have hbx : Box w g 74 cur := hb
    obtain ⟨cs', hb', hs', h1, _, _⟩ := Box.cells_at vs (i * 34) w cur hbx (by omega)
    have hlt : (L.take i).length = i := by rw [List.length_take]; omega
    refine ⟨⟨flatM_len _, .inr ⟨g, c, cs', by rw [hlt], hbase, hb', by omega, hmax, by omega, ?_⟩⟩, only_cells _ _ _⟩
    apply List.ext_getElem?
    intro j
    rw [hlt]
    rcases Nat.lt_or_ge j (i * 34) with hj | hj
    · rw [List.getElem?_take, if_pos hj, Array.getElem?_toList, h1 j hj, ← Array.getElem?_toList]
      have hle : i * 34 ≤ L.length * 34 := Nat.mul_le_mul_right 34 hi
      have e : (flatM (L.take i))[j]? = (flatM L)[j]? := by
        have hsp : flatM L = flatM (L.take i) ++ flatM (L.drop i) := by
          show _ = (L.take i).flatMap _ ++ (L.drop i).flatMap _
          rw [← List.flatMap_append, List.take_append_drop]
        rw [hsp, List.getElem?_append_left (by rw [flatM_len, hlt]; exact hj)]
      rw [e, ← htk, List.getElem?_take, if_pos (by omega)]
    · rw [List.getElem?_eq_none (by rw [List.length_take]; omega), List.getElem?_eq_none (by rw [flatM_len, hlt]; exact hj)]
set_option maxRecDepth 100000 in
theorem OwnM.bounds {w : World} {base n c : Nat} {A : Option Addr} {L : List MemX} (h : OwnM w base (.slice A n c) L) : n = L.length ∧ L.length ≤ c ∧ c ≤ maxLen ∧ (0 < L.length → ∃ g, A = some ⟨g, 0, none⟩ ∧ base ≤ g ∧ g < w.heap.size) := by
  rcases h.2 with ⟨h1, h2⟩ | ⟨g, cap, cur, h1, hbase, hb, hcap, hmax, hsz, htk⟩
  · injection h1 with e1 e2 e3
    exact ⟨by omega, by omega, by rw [e3]; simp [maxLen], fun hp => by omega⟩
  · injection h1 with e1 e2 e3
    subst e3
    exact ⟨e2, hcap, hmax, fun _ => ⟨g, e1, hbase, (Array.getElem?_eq_some_iff.1 hb).1⟩⟩

set_option maxRecDepth 100000 in
theorem mem_from {g n c m : Nat} (hm : m < c) (hn : m ≤ n) (w : World) :
    (Instr.slice 24 (.slice (some ⟨g, 0, none⟩) n c) (some (.int .i64 (m : Int))) none none).run Tryz.prog w = .ok (.slice (some ⟨g, m * 34, none⟩) (n - m) (c - m)) w := by
  have hu : Tryz.prog.underlying 24 = some (.slice (Tryz.prog.elem 24)) := by kernel_rfl
  have hs : (sizeOf (Tryz.prog.elem 24)).run Tryz.prog w = .ok 34 w := by kernel_rfl
  rw [run_slice_l w 24 _ n c hu .i64 (m : Int) (by omega) (by omega), hs]
  have e : (⟨g, 0, none⟩ : Addr).add (m * 34) = ⟨g, m * 34, none⟩ := by rw [plain_add, Nat.zero_add]
  simp [sliced, e]
  omega
set_option maxRecDepth 100000 in
theorem mem_upto {g n c i : Nat} (hi : i ≤ c) (w : World) :
    (Instr.slice 24 (.slice (some ⟨g, 0, none⟩) n c) none (some (.int .i64 (i : Int))) none).run Tryz.prog w = .ok (.slice (some ⟨g, 0, none⟩) i c) w := by
  have hu : Tryz.prog.underlying 24 = some (.slice (Tryz.prog.elem 24)) := by kernel_rfl
  have hs : (sizeOf (Tryz.prog.elem 24)).run Tryz.prog w = .ok 34 w := by kernel_rfl
  rw [run_slice_h w 24 _ n c hu .i64 (i : Int) (by omega) (by omega), hs]
  simp [sliced, Addr.add_zero']
set_option maxRecDepth 100000 in
/-- clear of members. -/
theorem clear_mems (w : World) (ty : TypeId) (g o n c : Nat) (hn : 0 < n) {t : TypeId} {cs : Array Value} (hb : Box w g t cs) (hs : o + n * 34 ≤ cs.size) :
    ∃ vs : List Value, vs.length = n * 34 ∧ (clMem #[24] ty #[.slice (some ⟨g, o, none⟩) n c]).run Tryz.prog w = .ok (.tuple #[]) (w.setCells g o vs) := by
  have hv : ∀ w, (zeroValue 74).run Tryz.prog w = .ok (.agg zmemV) w := fun w => by kernel_rfl
  have hu : Tryz.prog.underlying 24 = some (.slice 74) := Tryz.underlying24
  refine ⟨(Builtin.zeroCells zmemV n).toList, by simp [Builtin.zeroCells, zmem_size], ?_⟩
  have hl : (Builtin.zeroCells zmemV n).toList.length = n * 34 := by simp [Builtin.zeroCells, zmem_size]
  have hst := run_storeCells_cells (P := Tryz.prog) g o (Builtin.zeroCells zmemV n).toList 0 w (by
      intro j hj
      rw [hl] at hj
      rw [hb.cell, Array.getElem?_eq_getElem (by omega)]
      rfl) (by
      intro j hj
      exact hb.free _) (by
      intro v hv
      rw [Array.mem_toList_iff] at hv
      simp only [Builtin.zeroCells, Array.mem_map, Array.mem_range] at hv
      obtain ⟨j, _, rfl⟩ := hv
      have hm2 : j % zmemV.size < zmemV.size := Nat.mod_lt _ (by rw [zmem_size]; decide)
      rw [getElem!_pos zmemV _ hm2]
      have hone : ∀ v ∈ zmemV.toList, v.oneCell' = true := zmem.cells_one
      exact hone _ (Array.mem_toList_iff.2 (Array.getElem_mem hm2)))
  simp only [Nat.add_zero] at hst
  obtain ⟨m, rfl⟩ : ∃ m, n = m + 1 := ⟨n - 1, by omega⟩
  show (Builtin.clear_ _ _ _).run _ _ = _
  simp [Builtin.clear_, run_underlying hu, hv, hst, Value.cells]
end Go.Proofs.YtbgbidgggjkmmaaGreatDoor

namespace Go.Proofs.YtbgbidgggjkmmaaGreatDoor
open Go.RowKit Go.Sort

attribute [local go_sem ↓] ldMem_def stMem_def eqMem_def bdMem_def bsMem_def clMem_def apAll_def

set_option maxRecDepth 100000 in
theorem clone_any (ms : List MemX) (A : Option Addr) (c : Nat) (hn : ms.length ≤ 1000) (w : World) (hS : Mems w w.heap.size A ms) :
    Calls Tryz.prog 34 #[.slice A ms.length c] w fun e w' => ∃ A' c', e = .returned (.slice A' ms.length c') ∧ OwnM w' w.heap.size (.slice A' ms.length c') ms ∧ Below w.heap.size w w' := by
  cases A with
  | none =>
    have hms : ms = [] := by
      rcases hS with h | ⟨g, o, h, _⟩
      · have hl := flatM_len ms
        rw [h, List.length_nil] at hl
        exact List.eq_nil_of_length_eq_zero (by omega)
      · cases h
    subst hms
    have hq : ∀ w, (binOp .eql 24 (.slice none 0 c) (.slice none 0 0)).run Tryz.prog w = .ok (.bool true) w := fun w => Lib.run_eql_slice_nil w _ 74 none 0 c 0 0 Tryz.underlying24
    go_enter Tryz.func34, Tryz.ntmps34
    go_wp2
    go_ret
    exact ⟨none, 0, rfl, own_nil _ _, Below.refl _ _⟩
  | some ad =>
    obtain ⟨w1, hw1⟩ : ∃ w1, w1 = w.alloc (.cells #[] 74) := ⟨_, rfl⟩
    have hF1 : Below w.heap.size w w1 := by
      rw [hw1]
      exact (Below.refl _ _).alloc (Nat.le_refl _) _
    have hb0 := build_mem0 w
    rw [← hw1] at hb0
    have ho1 : OwnM w1 w.heap.size (.slice (some ⟨w.heap.size, 0, none⟩) 0 0) [] := by
      rw [hw1]
      exact own_mem0 w (Nat.le_refl _)
    obtain ⟨v2, w2, hap, ho2, hg2⟩ := append_mems (n := 0) (ms := []) rfl ho1 (A := some ad) (m := ms.length) (c := c) (es := ms) rfl (hS.far hF1) (by omega) hF1.size
    obtain ⟨A2, c2, rfl⟩ := ho2.slice
    have HO : Hid (OwnM w2 w.heap.size (.slice A2 ms.length c2) ms) := Lib.hid ho2
    have HF : Hid (Below w.heap.size w w2) := Lib.hid (hF1.trans (below_own ho1 hg2 hF1.size))
    simp only [List.nil_append] at hap
    have hq : ∀ w, (binOp .eql 24 (.slice (some ad) ms.length c) (.slice none 0 0)).run Tryz.prog w = .ok (.bool false) w := fun w => Lib.run_eql_slice_nil w _ 74 (some ad) _ c 0 0 Tryz.underlying24
    clear hS hw1 hF1 ho1 ho2 hg2 hn
    go_enter Tryz.func34, Tryz.ntmps34
    go_wp2
    go_ret
    exact ⟨A2, c2, rfl, HO.out, HF.out⟩

/-- All but those of a number. -/
def dropId (i : Int) (ms : List MemX) : List MemX := ms.filter (fun m => !(m.id == i))
set_option maxRecDepth 100000 in
theorem dropId_take_all {ms : List MemX} {i : Int} {k : Nat} (h : ∀ j (hj : j < ms.length), j < k → (ms[j]'hj).id ≠ i) : dropId i (ms.take k) = ms.take k := by
  unfold dropId
  rw [List.filter_eq_self]
  intro m hm
  obtain ⟨j, hj, rfl⟩ := List.mem_iff_getElem.1 hm
  rw [List.getElem_take]
  rw [List.length_take] at hj
  have := h j (by omega) (by omega)
  simpa using this
set_option maxRecDepth 100000 in
theorem dropId_succ {ms : List MemX} {i : Int} {k : Nat} (hk : k < ms.length) : dropId i (ms.take (k + 1)) = if (ms[k]'hk).id = i then dropId i (ms.take k) else dropId i (ms.take k) ++ [ms[k]'hk] := by
  unfold dropId
  rw [List.take_succ_eq_append_getElem hk, List.filter_append]
  by_cases h : (ms[k]'hk).id = i
  · rw [if_pos h]
    simp [h]
  · rw [if_neg h]
    simp [h]
set_option maxRecDepth 100000 in
theorem dropId_le (i : Int) (ms : List MemX) : (dropId i ms).length ≤ ms.length := List.length_filter_le _ _

/-- What the loop of DeleteFunc carries: the row's members, those that stay ahead. -/
structure DelL (i : Int) (ms : List MemX) (q j : Nat) (L : List MemX) : Prop where
  len : L.length = ms.length
  qj : q < j
  jn : j ≤ ms.length
  keep : L.take q = dropId i (ms.take j)
  rest : L.drop j = ms.drop j
set_option maxRecDepth 100000 in
theorem DelL.start {i : Int} {ms : List MemX} (h : posN ms i < ms.length) : DelL i ms (posN ms i) (posN ms i + 1) ms := by
  refine ⟨rfl, by omega, by omega, ?_, rfl⟩
  rw [dropId_succ h, if_pos (posN_eq h)]
  exact (dropId_take_all (fun j hj hk => posN_ne hk hj)).symm
set_option maxRecDepth 100000 in
theorem DelL.at_ {i : Int} {ms L : List MemX} {q j : Nat} (h : DelL i ms q j L) (hj : j < ms.length) : L[j]'(by rw [h.len]; exact hj) = ms[j]'hj := by
  have h1 := congrArg (fun l : List MemX => l[0]?) h.rest
  simp only [List.getElem?_drop, Nat.add_zero] at h1
  rw [List.getElem?_eq_getElem (by rw [h.len]; exact hj), List.getElem?_eq_getElem hj] at h1
  injection h1
set_option maxRecDepth 100000 in
theorem DelL.gone {i : Int} {ms L : List MemX} {q j : Nat} (h : DelL i ms q j L) (hj : j < ms.length) (hx : (ms[j]'hj).id = i) : DelL i ms q (j + 1) L := by
  refine ⟨h.len, by have := h.qj; omega, by omega, ?_, ?_⟩
  · rw [dropId_succ hj, if_pos hx]
    exact h.keep
  · rw [← List.drop_drop, h.rest, List.drop_drop]
set_option maxRecDepth 100000 in
theorem DelL.stay {i : Int} {ms L : List MemX} {q j : Nat} (h : DelL i ms q j L) (hj : j < ms.length) (hx : (ms[j]'hj).id ≠ i) : DelL i ms (q + 1) (j + 1) (L.set q (ms[j]'hj)) := by
  have hq := h.qj
  have hl := h.len
  refine ⟨by rw [List.length_set, hl], by omega, by omega, ?_, ?_⟩
  · rw [dropId_succ hj, if_neg hx, ← h.keep, List.take_succ_eq_append_getElem (by rw [List.length_set]; omega), List.getElem_set_self, List.take_set_of_le (Nat.le_refl q)]
  · rw [List.drop_set_of_lt (by omega), ← List.drop_drop, h.rest, List.drop_drop]

set_option maxRecDepth 100000 in
set_option maxHeartbeats 4000000 in
theorem delete_any (ms : List MemX) (A : Option Addr) (c : Nat) (hn : ms.length ≤ 1000) (i : Int) (b base : Nat) (w : World) (hO : OwnM w base (.slice A ms.length c) ms) (hbs : base ≤ w.heap.size) (hbb : b < base) (hc : w.cell? ⟨b, 1, none⟩ = some (.int .i64 i)) :
    Calls Tryz.prog 73 #[.slice A ms.length c, .func (.func 74) #[] #[.pointer (some ⟨b, 0, none⟩)]] w fun e w' => ∃ A' c', e = .returned (.slice A' (dropId i ms).length c') ∧ OwnM w' base (.slice A' (dropId i ms).length c') (dropId i ms) ∧ Below base w w' := by
  have HX := Lib.hid (index_gone ms A c (Nat.le_trans hn (by simp [maxLen])) i b w hO.mems hc)
  have HN := Lib.hid hn
  by_cases h : posN ms i < ms.length
  case neg =>
    have HE : Hid (posI ms i = -1) := Lib.hid (by unfold posI; rw [if_neg h])
    have HD : Hid (dropId i ms = ms) := Lib.hid (by
      have := dropId_take_all (ms := ms) (i := i) (k := ms.length) (fun j hj hk => posN_ne (by have := posN_le ms i; omega) hj)
      rwa [List.take_length] at this)
    rw [HE.out] at HX
    have HO := Lib.hid hO
    have HBS := Lib.hid hbs
    clear hO hbs h hn hc hbb HE
    go_enter Tryz.func73, Tryz.ntmps73
    go_wp2_with (go_at_call 83; (with_reducible refine (HX.out).mono ?_); rintro e w2 ⟨rfl, hb2⟩; have HB2 := Lib.hid hb2; clear hb2)
    go_ret
    refine ⟨A, c, by rw [HD.out]; rfl, ?_, HB2.out.mono HBS.out⟩
    rw [HD.out]
    exact World.ownsRow.kept HO.out (only_below HB2.out none) (by cases (Value.slice A ms.length c).ownBlock <;> simp)
  have HE : Hid (posI ms i = ((posN ms i : Nat) : Int)) := Lib.hid (by unfold posI; rw [if_pos h])
  have HD0 := Lib.hid (DelL.start h)
  have HLT := Lib.hid h
  rw [HE.out] at HX
  obtain ⟨_, hcap, hmax, hsome⟩ := hO.bounds
  obtain ⟨g, rfl, hbg, hgw⟩ := hsome (by omega)
  have HCAP := Lib.hid hcap
  have HMAX : Hid (c ≤ 9223372036854775807) := Lib.hid (Nat.le_trans hmax (by simp [maxLen]))
  have HBG := Lib.hid hbg
  have HO := Lib.hid hO
  have HBS := Lib.hid hbs
  have HBB := Lib.hid hbb
  have HC := Lib.hid hc
  generalize posN ms i = k0 at *
  have hk0 : (0 : Int) ≤ (k0 : Int) := by omega
  have hk1 : (k0 : Int) ≤ 1000 := by omega
  have hneq : ((k0 : Int) == -1) = false := by rw [beq_eq_false_iff_ne]; omega
  clear hO hbs hbb h hn hc hcap hmax hsome hbg hgw HE
  go_enter Tryz.func73, Tryz.ntmps73
  go_wp2_with (go_at_call 83; (with_reducible refine (HX.out).mono ?_); rintro e w2 ⟨rfl, hb2⟩; have HB2 := Lib.hid hb2; clear hb2)
  clear HX hneq hk0 hk1
  go_loopw [5, 6] (fun iq ij wr => ∃ (q j : Nat) (L : List MemX), iq = .int .i64 (q : Int) ∧ ij = .int .i64 (j : Int) ∧ Hid (DelL i ms q j L) ∧ Hid (OwnM wr base (.slice (some ⟨g, 0, none⟩) ms.length c) L) ∧ Hid (Below base w wr)) (fun _ ij _ => ms.length - (intOf ij).toNat)
  case atStart => exact ⟨k0, k0 + 1, ms, rfl, by go_num, HD0, Lib.hid (World.ownsRow.kept HO.out (only_below HB2.out none) (by cases (Value.slice (some ⟨g, 0, none⟩) ms.length c).ownBlock <;> simp)), Lib.hid (HB2.out.mono HBS.out)⟩
  case round =>
    obtain ⟨q, j, L, rfl, rfl, HD, HW, HF⟩ := hrel
    have HN' := Lib.hid HN.out
    by_cases hlt : j < ms.length
    · have hLj : j < L.length := by rw [HD.out.len]; exact hlt
      obtain ⟨g', oo, eg, _, hr⟩ := HW.out.mems.range hLj
      injection eg with eg
      injection eg with e1 e2
      subst e1
      subst e2
      have lk := range_mem (hr j hLj)
      rw [HD.out.at_ hlt, Nat.zero_add] at lk
      obtain ⟨w3, hst0, hb3, hg3⟩ := laid_mem wr (ms[j]'hlt)
      have hst := hst0
      unfold zmemV at hst
      have l3 := hb3.ld_mem
      have HF3 : Hid (Below base w w3) := Lib.hid (HF.out.trans (hg3.mono (Nat.le_trans HBS.out HF.out.size)))
      have HW3 : Hid (OwnM w3 base (.slice (some ⟨g, 0, none⟩) ms.length c) L) := Lib.hid (World.ownsRow.kept HW.out (only_below hg3 none) (by cases (Value.slice (some ⟨g, 0, none⟩) ms.length c).ownBlock <;> simp))
      have HB3 := Lib.hid hb3
      have HK := Lib.hid (behind1_any (ms[j]'hlt) i b w3 ((HF3.out.cell (p := ⟨b, 1, none⟩) HBB.out).trans HC.out))
      have HLE := Lib.hid hlt
      have wk : IntKind.i64.wrap ((j : Int) + 1) = ((j + 1 : Nat) : Int) := by
        rw [IntKind.wrap_i64]
        have := HN.out
        omega
      have wq : IntKind.i64.wrap ((q : Int) + 1) = ((q + 1 : Nat) : Int) := by
        rw [IntKind.wrap_i64]
        have := HN.out
        have := HD.out.qj
        omega
      have i1 : (j : Int) < (ms.length : Int) := by omega
      have HQL : Hid (q < ms.length) := Lib.hid (by have := HD.out.qj; omega)
      have i2 : (q : Int) < (ms.length : Int) := by have := HQL.out; omega
      clear hr hst0 hb3 hg3
      by_cases hx : (ms[j]'hlt).id = i
      · have HD2 := Lib.hid (HD.out.gone hlt hx)
        have e1 : ((ms[j]'hlt).id == i) = true := by simpa using hx
        rw [e1] at HK
        generalize ms[j]'hlt = x at *
        clear hx e1 HD
        go_wp2_with ((with_reducible refine (HK.out).mono ?_); rintro e w4 ⟨rfl, hb4⟩; have HB4 := Lib.hid hb4; clear hb4)
        go_roundw
        case rel => exact ⟨q, j + 1, L, rfl, by go_num, HD2, Lib.hid (World.ownsRow.kept HW3.out (only_below HB4.out none) (by cases (Value.slice (some ⟨g, 0, none⟩) ms.length c).ownBlock <;> simp)), Lib.hid (HF3.out.trans (HB4.out.mono (Nat.le_trans HBS.out HF3.out.size)))⟩
        case measure => have := HLE.out; simp [intOf]; omega
      · have HD2 := Lib.hid (HD.out.stay hlt hx)
        have e1 : ((ms[j]'hlt).id == i) = false := by simpa using hx
        rw [e1] at HK
        have HQ3 : Hid (q < L.length) := Lib.hid (by have := HQL.out; rw [HD.out.len]; exact this)
        generalize ms[j]'hlt = x at *
        clear hx e1 HD
        go_upto_region 9 with ((with_reducible refine (HK.out).mono ?_); rintro e w4 ⟨rfl, hb4⟩; have HB4 := Lib.hid hb4; clear hb4)
        have l4 := (HB3.out.below HB4.out HB3.out.lt).ld_mem
        have hW4 : OwnM w4 base (.slice (some ⟨g, 0, none⟩) ms.length c) L := World.ownsRow.kept HW3.out (only_below HB4.out none) (by cases (Value.slice (some ⟨g, 0, none⟩) ms.length c).ownBlock <;> simp)
        obtain ⟨w5, hst5, hW5, hg5⟩ := hW4.put HQ3.out x
        have HW5 := Lib.hid hW5
        have HF4 := HF3.out.trans (HB4.out.mono (Nat.le_trans HBS.out HF3.out.size))
        have HF5 : Hid (Below base w w5) := Lib.hid (HF4.trans (below_only hg5 HBG.out (Nat.le_trans HBS.out HF4.size)))
        clear lk l3 hst hW4 hW5 hg5 HF4
        go_wp2
        go_roundw
        case rel => exact ⟨q + 1, j + 1, L.set q x, by go_num, by go_num, HD2, HW5, HF5⟩
        case measure => have := HLE.out; simp [intOf]; omega
    · have hj : j = ms.length := by have := HD.out.jn; omega
      have HKP : Hid (L.take q = dropId i ms) := Lib.hid (by
        have := HD.out.keep
        rw [hj, List.take_length] at this
        exact this)
      have hq : q < ms.length := by have := HD.out.qj; omega
      have hlen := HD.out.len
      have hqc : q < c := by have := HCAP.out; omega
      have hfr := mem_from (g := g) (n := ms.length) hqc (Nat.le_of_lt hq)
      have hup := mem_upto (g := g) (n := ms.length) (Nat.le_of_lt hqc)
      have HQL := Lib.hid hq
      obtain ⟨hbx, hcs⟩ : (∃ cur, Box wr g 74 cur ∧ cur.size = c * 34) ∧ True := by
        refine ⟨?_, trivial⟩
        rcases HW.out.2 with ⟨h1, _⟩ | ⟨g', cap, cur, h1, _, hb, _, _, hsz, _⟩
        · cases h1
        · injection h1 with e1 e2 e3
          injection e1 with e1
          injection e1 with e1
          subst e1
          subst e3
          exact ⟨cur, hb, hsz⟩
      obtain ⟨cur, hbx, hcs⟩ := hbx
      obtain ⟨vs, hvl, hcl⟩ := clear_mems wr 0 g (q * 34) (ms.length - q) (c - q) (by omega) hbx (by have := HCAP.out; omega)
      have hcut := HW.out.cut (i := q) (by omega) (vs := vs) (by have := HCAP.out; omega) rfl
      have HW5 := Lib.hid hcut.1
      have HF5 : Hid (Below base w (wr.setCells g (q * 34) vs)) := Lib.hid (HF.out.trans (below_only hcut.2 HBG.out (Nat.le_trans HBS.out HF.out.size)))
      have HLL : Hid ((dropId i ms).length = q) := Lib.hid (by rw [← HKP.out, List.length_take]; omega)
      generalize wr.setCells g (q * 34) vs = w6 at *
      have i1 : ¬ (j : Int) < (ms.length : Int) := by omega
      have i2 : (q : Int) ≤ (ms.length : Int) := by omega
      clear hbx hcs hvl hcut hj hq hlen hqc HD HW HF
      go_wp2
      go_ret
      refine ⟨some ⟨g, 0, none⟩, c, by rw [HLL.out]; rfl, ?_, HF5.out⟩
      rw [← HKP.out]
      have e : (L.take q).length = q := by rw [HKP.out, HLL.out]
      rw [e]
      exact HW5.out
end Go.Proofs.YtbgbidgggjkmmaaGreatDoor
