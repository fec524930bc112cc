/-
  A slice of members is sorted by Ids: slices.SortFunc by config.behind's closure.
-/
import Derived.Test.YtloaidahlagmiaaCfLay
import Derived.Shelf.SlSortCmp.NoneTotal
import Derived.Lib.Small
import Derived.Sort.Grow
import Derived.Test.YtloaidahlagmiaaCfSame
namespace Go.Proofs.Ytloaidahlagmiaa
open Go.RowKit Go.Shelf

set_option maxRecDepth 100000 in
theorem cmpi_any (x y : Int) (w : World) : Calls Try.prog 36 #[.int .i64 x, .int .i64 y] w fun e w' => e = .returned (.int .i64 (Lib.compareInt x y)) ∧ w' = w := by
  go_enter Try.func36, Try.ntmps36
  go_wp2
  all_goals (go_ret; refine ⟨?_, rfl⟩; unfold Lib.compareInt; (repeat' split) <;> first | rfl | (exfalso; omega))

def MemX.cmp (x y : MemX) : Int := Lib.compareInt x.id y.id
set_option maxRecDepth 100000 in
theorem MemX.cmp_neg (x y : MemX) : x.cmp y < 0 ↔ x.id < y.id := by
  unfold MemX.cmp Lib.compareInt
  (repeat' split) <;> omega
set_option maxRecDepth 100000 in
theorem mem_swo : Go.Sort.SWO (ltOf MemX.cmp) where
  irrefl x := by
    unfold ltOf
    rw [decide_eq_false_iff_not, MemX.cmp_neg]
    omega
  trans x y z h1 h2 := by
    unfold ltOf at *
    rw [decide_eq_true_iff, MemX.cmp_neg] at *
    omega
  ntrans x y z h1 h2 := by
    unfold ltOf at *
    rw [decide_eq_false_iff_not, MemX.cmp_neg] at *
    omega

set_option maxRecDepth 100000 in
theorem behind2_any (x y : MemX) (w : World) :
    Calls Try.prog 35 #[x.enc, y.enc] w fun e w' => e = .returned (.int .i64 (x.cmp y)) ∧ ∃ q os, w' = Go.Sort.grow (w.drewN q) os := by
  obtain ⟨w1, hw1⟩ : ∃ w1, w1 = (w.alloc (.cells x.cells.toArray 31)).alloc (.cells y.cells.toArray 31) := ⟨_, rfl⟩
  have HX : Hid (Box w1 w.heap.size 31 x.cells.toArray) := by
    rw [hw1]
    exact (Box.made w _ _).alloc _
  have HY : Hid (Box w1 (w.heap.size + 1) 31 y.cells.toArray) := by
    rw [hw1]
    exact Box.made_at (by simp) _ _
  have HG : Hid (∃ q os, w1 = Go.Sort.grow (w.drewN q) os) := by
    refine ⟨0, #[.cells x.cells.toArray 31, .cells y.cells.toArray 31], ?_⟩
    rw [hw1, Go.Sort.alloc_eq_grow, Go.Sort.alloc_eq_grow, Go.Sort.grow_grow]
    rfl
  have c0 : w1.cell? ⟨w.heap.size, 0, none⟩ = some (.int .i64 x.id) := HX.out.cell 0
  have d0 : w1.cell? ⟨w.heap.size + 1, 0, none⟩ = some (.int .i64 y.id) := HY.out.cell 0
  have HC := Lib.hid (cmpi_any x.id y.id w1)
  unfold MemX.cmp MemX.enc
  generalize x.id = i at *
  generalize y.id = j at *
  generalize x.cells.toArray = cs at *
  generalize y.cells.toArray = ds at *
  clear HX HY
  go_enter Try.func35, Try.ntmps35
  go_upto_region 1 with fail
  change Code.wp _ _ _ _ ((w.alloc (.cells cs 31)).alloc (.cells ds 31))
  rw [← hw1]
  clear hw1
  go_wp2_with (go_at_call 36; (with_reducible refine (HC.out).mono ?_); rintro e w2 ⟨rfl, rfl⟩)
  go_ret
  exact ⟨rfl, HG.out⟩

set_option maxRecDepth 100000 in
theorem flatM_list (xs : List MemX) : (Go.Sort.flatK MemX.cells 34 xs.toArray).toList = flatM xs := by
  apply List.ext_getElem?
  intro j
  rcases Nat.lt_or_ge j (xs.length * 34) with hj | hj
  · obtain ⟨x, h1, h2⟩ := cf_get MemX.cells 34 MemX.cells_len xs j hj
    rw [h2]
    have hs : j < (Go.Sort.flatK MemX.cells 34 xs.toArray).size := by rw [Go.Sort.size_flatK]; simpa using hj
    rw [Array.getElem?_toList, Array.getElem?_eq_getElem hs]
    have h3 := Go.Sort.get_flatK MemX.cells 34 xs.toArray j (by simpa using hj)
    rw [getElem!_pos _ j hs] at h3
    rw [h3]
    have hx : xs.toArray[j / 34]! = x := by
      have hlt := (List.getElem?_eq_some_iff.1 h1).1
      rw [getElem!_pos _ _ (by simpa using hlt)]
      simpa using (List.getElem?_eq_some_iff.1 h1).2
    rw [hx]
    have hm : j % 34 < x.cells.length := by rw [x.cells_len]; omega
    rw [getElem!_pos x.cells (j % 34) hm, List.getElem?_eq_getElem hm]
  · rw [List.getElem?_eq_none (by rw [Array.length_toList, Go.Sort.size_flatK]; simpa using hj), List.getElem?_eq_none (by rw [flatM_len]; exact hj)]

set_option maxRecDepth 100000 in
theorem cf_sorted_block {α : Type} [Inhabited α] (enc : α → List Value) (k n g off : Nat) (d : Array α) (os : Array Obj) {w : World} {cur : Array Value} {t : TypeId} {fr : Nat × Nat} (hb : w.heap[g]? = some (.cells cur t fr)) :
    (sortWorldK enc k w g off n d os).heap[g]? = some (.cells (Go.Sort.putCells id off (Go.Sort.flatK enc k d) cur) t fr) := by
  have hlt := (Array.getElem?_eq_some_iff.1 hb).1
  show ((w.heap.modify g (Go.Sort.onCells (Go.Sort.putCells id off (Go.Sort.flatK enc k d)))) ++ os)[g]? = _
  rw [Array.getElem?_append_left (by rw [Array.size_modify]; exact hlt), Array.getElem?_modify, if_pos rfl, hb]
  rfl
set_option maxRecDepth 100000 in
theorem cf_sorted_grown {α : Type} [Inhabited α] (enc : α → List Value) (k n g off : Nat) (d : Array α) (os : Array Obj) (w : World) : w.grownBy (sortWorldK enc k w g off n d os) (some g) := by
  refine ⟨rfl, rfl, rfl, ?_, fun i hi hne => ?_⟩
  · show w.heap.size ≤ ((w.heap.modify g (Go.Sort.onCells (Go.Sort.putCells id off (Go.Sort.flatK enc k d)))) ++ os).size
    rw [Array.size_append, Array.size_modify]
    omega
  · show ((w.heap.modify g (Go.Sort.onCells (Go.Sort.putCells id off (Go.Sort.flatK enc k d)))) ++ os)[i]? = _
    rw [Array.getElem?_append_left (by rw [Array.size_modify]; exact hi), Array.getElem?_modify, if_neg (fun e => hne (by rw [e]))]

/-- A row of members that is owned. -/
abbrev OwnM (w : World) (base : Nat) (v : Value) (ms : List MemX) : Prop := w.ownsRow base 31 34 v ms.length (flatM ms)

def SortedM (ys : List MemX) : Prop := ys.Pairwise (fun a b => ¬ b.id < a.id)
set_option maxRecDepth 100000 in
/-- A slice of members is sorted. -/
theorem sort_mems (xs : List MemX) (base : Nat) (v : Value) (w : World) (hown : OwnM w base v xs) (hlen : xs.length < 1099511627776) :
    Calls Try.prog 34 #[v, .func (.func 35) #[] #[]] w fun e w' => e = .returned (.tuple #[]) ∧ ∃ ys : List MemX, ys.Perm xs ∧ SortedM ys ∧ OwnM w' base v ys ∧ w.grownBy w' v.ownBlock := by
  rcases hown.2 with ⟨rfl, h0⟩ | ⟨g, cap, cur, rfl, hbase, hb, hcap, hmax, hsz, htk⟩
  · have hx : xs = [] := List.eq_nil_of_length_eq_zero h0
    subst hx
    have hc := AnyF.slices_SortFunc_none sortMem none 0 (.func (.func 35) #[] #[]) w
    refine hc.mono ?_
    rintro e w' ⟨rfl, rfl⟩
    exact ⟨rfl, [], List.Perm.refl _, List.Pairwise.nil, hown, only_refl _ _⟩
  · have hlt := (Array.getElem?_eq_some_iff.1 hb).1
    have eg : ∀ args w, (callFunc 35 args).run Try.prog w = .ok (.enter 35 args) w := enters_of Try.func35 (by kernel_rfl) rfl
    have hcell : ∀ j, w.cell? ⟨g, j, none⟩ = cur[j]? := fun j => cell_of_row w g j cur 31 (0, 0) hb
    have hfree : ∀ j, w.frozen? ⟨g, j, none⟩ = false := fun j => frozen_of_row w g j cur 31 hb
    have hlf := flatM_len xs
    have hH : Go.Sort.HoldsK MemX.cells 34 w g 0 xs.toArray := fun j hj => by
      rw [Nat.zero_add]
      refine ⟨?_, hfree j⟩
      have hj' : j < xs.length * 34 := by rw [Go.Sort.size_flatK] at hj; simpa using hj
      rw [hcell, getElem!_pos (Go.Sort.flatK MemX.cells 34 xs.toArray) j hj]
      have h1 : (flatM xs)[j]? = cur[j]? := by
        rw [← htk, List.getElem?_take, if_pos hj', Array.getElem?_toList]
      rw [← h1, ← flatM_list xs, Array.getElem?_toList, Array.getElem?_eq_getElem hj]
      rfl
    have hcmp : CmpLays Try.prog 35 #[] MemX.cells 34 MemX.cmp g 0 xs.toArray.size w := fun m os dk hs x y => behind2_any x y _
    have hc := AnyQ.slices_SortFunc sortMem 34 (fun w => by kernel_rfl) (fun w => by kernel_rfl) MemX.cells MemX.cells_len (fun x => MemX.cells_one x) MemX.cmp mem_swo 35 #[] g 0 cap xs.toArray w eg hcmp hH hlt (by simp; omega)
    refine hc.mono ?_
    rintro e w' ⟨rfl, d', n, os, hperm, hsort, rfl⟩
    obtain ⟨hs, _, hp⟩ := hperm
    have hsz' : d'.size = xs.length := by simpa using hs
    have hl : d'.toList.length = xs.length := by simpa using hsz'
    refine ⟨rfl, d'.toList, ?_, ?_, ⟨?_, ?_⟩, cf_sorted_grown _ _ _ _ _ _ _ _⟩
    · have e1 : d'.extract 0 xs.toArray.size = d' := by
        rw [← hs]
        simp
      have e2 : xs.toArray.extract 0 xs.toArray.size = xs.toArray := by simp
      rw [e1, e2] at hp
      exact hp
    · unfold SortedM
      rw [List.pairwise_iff_getElem]
      intro i j hi hj hij
      have h1 := hsort i j (Nat.zero_le _) hij (by simp; omega)
      unfold ltOf at h1
      rw [decide_eq_false_iff_not, getElem!_pos d' j (by simpa using hj), getElem!_pos d' i (by simpa using hi), MemX.cmp_neg] at h1
      simpa using h1
    · exact flatM_len _
    · refine .inr ⟨g, cap, _, by rw [hl], hbase, cf_sorted_block MemX.cells 34 n g 0 d' os hb, by omega, hmax, by simp [Go.Sort.putCells, hsz], ?_⟩
      have hf := flatM_list d'.toList
      rw [Array.toArray_toList] at hf
      apply List.ext_getElem?
      intro j
      rcases Nat.lt_or_ge j (d'.toList.length * 34) with hj | hj
      · rw [List.getElem?_take, if_pos hj, Array.getElem?_toList, ← hf, Array.getElem?_toList]
        have hjf : j < (Go.Sort.flatK MemX.cells 34 d').size := by rw [Go.Sort.size_flatK]; simpa using hj
        have hjc : j < cur.size := by
          rw [hsz]
          rw [hl] at hj
          have := Nat.mul_le_mul_right 34 hcap
          omega
        rw [Array.getElem?_eq_getElem hjf]
        unfold Go.Sort.putCells
        rw [Array.getElem?_mapIdx, Array.getElem?_eq_getElem hjc]
        simp only [Option.map_some]
        rw [if_pos ⟨Nat.zero_le _, by omega⟩, Nat.sub_zero, getElem!_pos (Go.Sort.flatK MemX.cells 34 d') j hjf]
        rfl
      · rw [List.getElem?_eq_none (by rw [List.length_take]; omega), List.getElem?_eq_none (by rw [flatM_len]; exact hj)]
end Go.Proofs.Ytloaidahlagmiaa
