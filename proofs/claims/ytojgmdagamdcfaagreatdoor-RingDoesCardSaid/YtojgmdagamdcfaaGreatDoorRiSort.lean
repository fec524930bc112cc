/-
  A slice of keys is sorted: slices.SortFunc by ring.order.
-/
import Derived.Test.YtojgmdagamdcfaaGreatDoorRiLay
import Derived.Shelf.SlSortCmp.NoneTotal
import Derived.Test.YtojgmdagamdcfaaGreatDoorRiIter
import Derived.Test.YtojgmdagamdcfaaGreatDoorRiOrder
namespace Go.Proofs.YtojgmdagamdcfaaGreatDoor
open Go.RowKit Go.Maps

instance : Inhabited KeyX := ⟨⟨List.replicate 32 0, 0, rfl, rfl⟩⟩
set_option maxRecDepth 100000 in
theorem KeyX.cells_len (x : KeyX) : x.cells.length = 33 := keyL_len x.len x.high
def KeyX.cmp (x y : KeyX) : Int := cmpKey x.root x.high y.root y.high
set_option maxRecDepth 100000 in
theorem KeyX.cmp_neg (x y : KeyX) : x.cmp y < 0 ↔ Lib.compareBytes x.root y.root < 0 ∨ (x.root = y.root ∧ x.high < y.high) := cmpKey_neg _ _ _ _
set_option maxRecDepth 100000 in
theorem KeyX.cmp_not {x y : KeyX} (h : ¬ x.cmp y < 0) : y.cmp x < 0 ∨ x = y := by
  rw [KeyX.cmp_neg] at h
  rw [KeyX.cmp_neg]
  have h1 : ¬ Lib.compareBytes x.root y.root < 0 := fun e => h (.inl e)
  have hs := compareBytes_swap x.root y.root
  by_cases h0 : Lib.compareBytes x.root y.root = 0
  · have hr := compareBytes_eq h0
    have h2 : ¬ x.high < y.high := fun e => h (.inr ⟨hr, e⟩)
    by_cases hh : x.high = y.high
    · exact .inr (KeyX.same hr hh)
    · exact .inl (.inr ⟨hr.symm, by omega⟩)
  · exact .inl (.inl (by omega))
set_option maxRecDepth 100000 in
theorem KeyX.cmp_trans {x y z : KeyX} (h : x.cmp y < 0) (k : y.cmp z < 0) : x.cmp z < 0 := by
  rw [KeyX.cmp_neg] at *
  rcases h with h | ⟨h, h'⟩ <;> rcases k with k | ⟨k, k'⟩
  · exact .inl (compareBytes_trans h k)
  · exact .inl (by rw [← k]; exact h)
  · exact .inl (by rw [h]; exact k)
  · exact .inr ⟨h.trans k, by omega⟩
set_option maxRecDepth 100000 in
theorem KeyX.cmp_irrefl (x : KeyX) : ¬ x.cmp x < 0 := by
  rw [KeyX.cmp_neg, compareBytes_self]
  omega
set_option maxRecDepth 100000 in
theorem key_swo : Go.Sort.SWO (ltOf KeyX.cmp) where
  irrefl x := by
    unfold ltOf
    rw [decide_eq_false_iff_not]
    exact x.cmp_irrefl
  trans x y z h1 h2 := by
    unfold ltOf at *
    rw [decide_eq_true_iff] at *
    exact KeyX.cmp_trans h1 h2
  ntrans x y z h1 h2 := by
    unfold ltOf at *
    rw [decide_eq_false_iff_not] at *
    intro h3
    rcases KeyX.cmp_not h1 with h1 | rfl
    · exact h2 (KeyX.cmp_trans h1 h3)
    · exact h2 h3

set_option maxRecDepth 100000 in
theorem flat_get {α : Type} (f : α → List Value) (k : Nat) (hf : ∀ x, (f x).length = k) : ∀ (xs : List α) (j : Nat), j < xs.length * k → ∃ x, xs[j / k]? = some x ∧ (xs.flatMap f)[j]? = (f x)[j % k]?
  | [], j, hj => by simp at hj
  | x :: r, j, hj => by
    have hk : 0 < k := by
      rcases Nat.eq_zero_or_pos k with rfl | h
      · simp at hj
      · exact h
    rw [List.flatMap_cons]
    rcases Nat.lt_or_ge j k with hlt | hge
    · refine ⟨x, by rw [Nat.div_eq_of_lt hlt]; rfl, ?_⟩
      rw [List.getElem?_append_left (by rw [hf]; exact hlt), Nat.mod_eq_of_lt hlt]
    · obtain ⟨y, h1, h2⟩ := flat_get f k hf r (j - k) (by
        rw [List.length_cons, Nat.add_mul, Nat.one_mul] at hj
        omega)
      refine ⟨y, ?_, ?_⟩
      · have e : j / k = (j - k) / k + 1 := by
          rw [Nat.div_eq_sub_div hk hge]
        rw [e]
        simpa using h1
      · rw [List.getElem?_append_right (by rw [hf]; exact hge), hf, h2]
        have e : j % k = (j - k) % k := Nat.mod_eq_sub_mod hge
        rw [e]
set_option maxRecDepth 100000 in
theorem flat_len {α : Type} (f : α → List Value) (k : Nat) (hf : ∀ x, (f x).length = k) : ∀ xs : List α, (xs.flatMap f).length = xs.length * k
  | [] => by simp
  | x :: r => by
    rw [List.flatMap_cons, List.length_append, hf, flat_len f k hf r, List.length_cons, Nat.add_mul, Nat.one_mul, Nat.add_comm]
set_option maxRecDepth 100000 in
theorem flatK_list (xs : List KeyX) : (Go.Sort.flatK KeyX.cells 33 xs.toArray).toList = xs.flatMap KeyX.cells := by
  apply List.ext_getElem?
  intro j
  rcases Nat.lt_or_ge j (xs.length * 33) with hj | hj
  · obtain ⟨x, h1, h2⟩ := flat_get KeyX.cells 33 KeyX.cells_len xs j hj
    rw [h2]
    have hs : j < (Go.Sort.flatK KeyX.cells 33 xs.toArray).size := by rw [Go.Sort.size_flatK]; simpa using hj
    rw [Array.getElem?_toList, Array.getElem?_eq_getElem hs]
    have h3 := Go.Sort.get_flatK KeyX.cells 33 xs.toArray j (by simpa using hj)
    rw [getElem!_pos _ j hs] at h3
    rw [h3]
    have hx : xs.toArray[j / 33]! = x := by
      have hlt := (List.getElem?_eq_some_iff.1 h1).1
      rw [getElem!_pos _ _ (by simpa using hlt)]
      simpa using (List.getElem?_eq_some_iff.1 h1).2
    rw [hx]
    have hm : j % 33 < x.cells.length := by rw [x.cells_len]; omega
    rw [getElem!_pos x.cells (j % 33) hm, List.getElem?_eq_getElem hm]
  · rw [List.getElem?_eq_none (by rw [Array.length_toList, Go.Sort.size_flatK]; simpa using hj), List.getElem?_eq_none (by rw [flat_len _ 33 KeyX.cells_len]; exact hj)]

set_option maxRecDepth 100000 in
theorem sorted_block {α : Type} [Inhabited α] (enc : α → List Value) (k n g off : Nat) (d : Array α) (os : Array Obj) {w : World} {cur : Array Value} {t : TypeId} {fr : Nat × Nat} (hb : w.heap[g]? = some (.cells cur t fr)) :
    (sortWorldK enc k w g off n d os).heap[g]? = some (.cells (Go.Sort.putCells id off (Go.Sort.flatK enc k d) cur) t fr) := by
  have hlt := (Array.getElem?_eq_some_iff.1 hb).1
  show ((w.heap.modify g (Go.Sort.onCells (Go.Sort.putCells id off (Go.Sort.flatK enc k d)))) ++ os)[g]? = _
  rw [Array.getElem?_append_left (by rw [Array.size_modify]; exact hlt), Array.getElem?_modify, if_pos rfl, hb]
  rfl
set_option maxRecDepth 100000 in
theorem sorted_grown {α : Type} [Inhabited α] (enc : α → List Value) (k n g off : Nat) (d : Array α) (os : Array Obj) (w : World) : w.grownBy (sortWorldK enc k w g off n d os) (some g) := by
  refine ⟨rfl, rfl, rfl, ?_, fun i hi hne => ?_⟩
  · show w.heap.size ≤ ((w.heap.modify g (Go.Sort.onCells (Go.Sort.putCells id off (Go.Sort.flatK enc k d)))) ++ os).size
    rw [Array.size_append, Array.size_modify]
    omega
  · show ((w.heap.modify g (Go.Sort.onCells (Go.Sort.putCells id off (Go.Sort.flatK enc k d)))) ++ os)[i]? = _
    rw [Array.getElem?_append_left (by rw [Array.size_modify]; exact hi), Array.getElem?_modify, if_neg (fun e => hne (by rw [e]))]

set_option maxRecDepth 100000 in
/-- A slice of keys is sorted. -/
theorem sort_keys (xs : List KeyX) (base : Nat) (v : Value) (w : World) (hown : w.ownsRow base 37 33 v xs.length (xs.flatMap KeyX.cells)) (hlen : xs.length < 1099511627776) :
    Calls Tryz.prog 36 #[v, .func (.func 37) #[] #[]] w fun e w' => e = .returned (.tuple #[]) ∧ ∃ ys : List KeyX, ys.Perm xs ∧ ys.Pairwise (fun a b => ¬ b.cmp a < 0) ∧ w'.ownsRow base 37 33 v ys.length (ys.flatMap KeyX.cells) ∧ w.grownBy w' v.ownBlock := by
  rcases hown.2 with ⟨rfl, h0⟩ | ⟨g, cap, cur, rfl, hbase, hb, hcap, hmax, hsz, htk⟩
  · have hx : xs = [] := List.eq_nil_of_length_eq_zero h0
    subst hx
    have hc := AnyF.slices_SortFunc_none sortKey none 0 (.func (.func 37) #[] #[]) w
    refine hc.mono ?_
    rintro e w' ⟨rfl, rfl⟩
    exact ⟨rfl, [], List.Perm.refl _, List.Pairwise.nil, hown, only_refl _ _⟩
  · have hlt := (Array.getElem?_eq_some_iff.1 hb).1
    have eg : ∀ args w, (callFunc 37 args).run Tryz.prog w = .ok (.enter 37 args) w := enters_of Tryz.func37 (by kernel_rfl) rfl
    have hcell : ∀ j, w.cell? ⟨g, j, none⟩ = cur[j]? := fun j => cell_of_row w g j cur 37 (0, 0) hb
    have hfree : ∀ j, w.frozen? ⟨g, j, none⟩ = false := fun j => frozen_of_row w g j cur 37 hb
    have hlf := flat_len KeyX.cells 33 KeyX.cells_len xs
    have hH : Go.Sort.HoldsK KeyX.cells 33 w g 0 xs.toArray := fun j hj => by
      rw [Nat.zero_add]
      refine ⟨?_, hfree j⟩
      have hj' : j < xs.length * 33 := by rw [Go.Sort.size_flatK] at hj; simpa using hj
      rw [hcell, getElem!_pos (Go.Sort.flatK KeyX.cells 33 xs.toArray) j hj]
      have h1 : (xs.flatMap KeyX.cells)[j]? = cur[j]? := by
        rw [← htk, List.getElem?_take, if_pos hj', Array.getElem?_toList]
      rw [← h1, ← flatK_list xs, Array.getElem?_toList, Array.getElem?_eq_getElem hj]
      rfl
    have hcmp : CmpLays Tryz.prog 37 #[] KeyX.cells 33 KeyX.cmp g 0 xs.toArray.size w := fun m os dk hs x y => order_any x.root y.root x.high y.high x.len y.len _
    have hc := AnyQ.slices_SortFunc sortKey 33 (fun w => by kernel_rfl) (fun w => by kernel_rfl) KeyX.cells KeyX.cells_len (fun x => keyL_one x.root x.high) KeyX.cmp key_swo 37 #[] g 0 cap xs.toArray w eg hcmp hH hlt (by simp; omega)
    refine hc.mono ?_
    rintro e w' ⟨rfl, d', n, os, hperm, hsort, rfl⟩
    obtain ⟨hs, _, hp⟩ := hperm
    have hsz' : d'.size = xs.length := by simpa using hs
    have hl : d'.toList.length = xs.length := by simpa using hsz'
    refine ⟨rfl, d'.toList, ?_, ?_, ⟨?_, ?_⟩, sorted_grown _ _ _ _ _ _ _ _⟩
    · have e1 : d'.extract 0 xs.toArray.size = d' := by
        rw [← hs]
        simp
      have e2 : xs.toArray.extract 0 xs.toArray.size = xs.toArray := by simp
      rw [e1, e2] at hp
      exact hp
    · rw [List.pairwise_iff_getElem]
      intro i j hi hj hij
      have h1 := hsort i j (Nat.zero_le _) hij (by simp; omega)
      unfold ltOf at h1
      rw [decide_eq_false_iff_not, getElem!_pos d' j (by simpa using hj), getElem!_pos d' i (by simpa using hi)] at h1
      simpa using h1
    · exact flat_len KeyX.cells 33 KeyX.cells_len _
    · refine .inr ⟨g, cap, _, by rw [hl], hbase, sorted_block KeyX.cells 33 n g 0 d' os hb, by omega, hmax, by simp [Go.Sort.putCells, hsz], ?_⟩
      have hH' := Go.Sort.holdsK_putRowK KeyX.cells 33 w g 0 xs.toArray d' hH hs
      have hf := flatK_list d'.toList
      rw [Array.toArray_toList] at hf
      apply List.ext_getElem?
      intro j
      rcases Nat.lt_or_ge j (d'.toList.length * 33) with hj | hj
      · rw [List.getElem?_take, if_pos hj, Array.getElem?_toList, ← hf, Array.getElem?_toList]
        have hjf : j < (Go.Sort.flatK KeyX.cells 33 d').size := by rw [Go.Sort.size_flatK]; simpa using hj
        have hjc : j < cur.size := by
          rw [hsz]
          rw [hl] at hj
          have := Nat.mul_le_mul_right 33 hcap
          omega
        rw [Array.getElem?_eq_getElem hjf]
        unfold Go.Sort.putCells
        rw [Array.getElem?_mapIdx, Array.getElem?_eq_getElem hjc]
        simp only [Option.map_some]
        rw [if_pos ⟨Nat.zero_le _, by omega⟩, Nat.sub_zero, getElem!_pos (Go.Sort.flatK KeyX.cells 33 d') j hjf]
        rfl
      · rw [List.getElem?_eq_none (by rw [List.length_take]; omega), List.getElem?_eq_none (by rw [flat_len KeyX.cells 33 KeyX.cells_len]; exact hj)]
end Go.Proofs.YtojgmdagamdcfaaGreatDoor
