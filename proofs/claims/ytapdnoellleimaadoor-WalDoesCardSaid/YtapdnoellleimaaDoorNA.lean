/-
  The registry on plain lists: lists that stand by rising keys, what is looked up, put and taken out; what a request makes of a state.
  Rows of elements of any kind: a kind's facts, rows that are owned: literals, appends, stores, cuts, copies.
-/
import Derived.Test.YtapdnoellleimaaDoorRA
import Derived.Test.YtapdnoellleimaaDoorCA
import Derived.Great.BuildSlice
import Derived.Lib.SliceRun
import Derived.Lib.AppendZerosOnto
import Derived.Lib.Overlaps
import Derived.Deep.Onto
namespace Go.Proofs.YtapdnoellleimaaDoor
open Go.RowKit

/-! ### Lists that stand by rising keys -/
structure Lt3 {K : Type} (lt : K → K → Bool) : Prop where
  irr : ∀ a, lt a a = false
  tr : ∀ {a b c}, lt a b = true → lt b c = true → lt a c = true
  tot : ∀ a b, lt a b = true ∨ a = b ∨ lt b a = true
section
variable {α K : Type} {lt : K → K → Bool} {key : α → K}
def SortedK (lt : K → K → Bool) (key : α → K) (l : List α) : Prop := l.Pairwise (fun x y => lt (key x) (key y) = true)
set_option maxRecDepth 100000 in
theorem SortedK.tail {x : α} {l : List α} (h : SortedK lt key (x :: l)) : SortedK lt key l := (List.pairwise_cons.1 h).2
set_option maxRecDepth 100000 in
theorem SortedK.head {x : α} {l : List α} (h : SortedK lt key (x :: l)) : ∀ y ∈ l, lt (key x) (key y) = true := (List.pairwise_cons.1 h).1
set_option maxRecDepth 100000 in
theorem Lt3.ne (o : Lt3 lt) {a b : K} (h : lt a b = true) : a ≠ b := by
  rintro rfl
  rw [o.irr] at h
  cases h
set_option maxRecDepth 100000 in
theorem Lt3.asy (o : Lt3 lt) {a b : K} (h : lt a b = true) : lt b a = false := by
  rw [← Bool.not_eq_true]
  intro h2
  have := o.tr h h2
  rw [o.irr] at this
  cases this
/-! ### A place that a search tells -/
structure Fnd (lt : K → K → Bool) (key : α → K) (l : List α) (k : K) (i : Nat) (b : Bool) : Prop where
  le : i ≤ l.length
  before : ∀ (h : 0 < i), lt (key (l[i - 1]'(by omega))) k = true
  after : ∀ (h : i < l.length), lt (key (l[i]'h)) k = false
  hit : b = true ↔ ∃ h : i < l.length, key (l[i]'h) = k
set_option maxRecDepth 100000 in
theorem Fnd.at_ {l : List α} {k : K} {i : Nat} (h : Fnd lt key l k i true) : ∃ hi : i < l.length, key (l[i]'hi) = k := h.hit.1 rfl
set_option maxRecDepth 100000 in
theorem sorted_at {l : List α} (hs : SortedK lt key l) {i j : Nat} (hj : j < l.length) (hij : i < j) : lt (key (l[i]'(by omega))) (key (l[j]'hj)) = true := List.pairwise_iff_getElem.1 hs i j (by omega) hj hij
set_option maxRecDepth 100000 in
theorem Fnd.low {l : List α} {k : K} {i : Nat} {b : Bool} (o : Lt3 lt) (hs : SortedK lt key l) (h : Fnd lt key l k i b) : ∀ x ∈ l.take i, lt (key x) k = true := by
  intro x hx
  obtain ⟨j, hj, rfl⟩ := List.mem_iff_getElem.1 hx
  rw [List.length_take] at hj
  rw [List.getElem_take]
  have hle := h.le
  have hb := h.before (by omega)
  by_cases e : j = i - 1
  · subst e
    exact hb
  · exact o.tr (sorted_at hs (by omega) (by omega)) hb
set_option maxRecDepth 100000 in
theorem Fnd.high {l : List α} {k : K} {i : Nat} {b : Bool} (o : Lt3 lt) (hs : SortedK lt key l) (h : Fnd lt key l k i b) : ∀ x ∈ l.drop i, lt (key x) k = false := by
  intro x hx
  obtain ⟨j, hj, rfl⟩ := List.mem_iff_getElem.1 hx
  rw [List.length_drop] at hj
  rw [List.getElem_drop]
  have ha := h.after (by omega)
  rcases Nat.eq_zero_or_pos j with rfl | hp
  · exact ha
  · rw [← Bool.not_eq_true]
    intro h2
    have h3 := o.tr (sorted_at hs (i := i) (j := i + j) (by omega) (by omega)) h2
    rw [ha] at h3
    cases h3
variable [DecidableEq K]
def lookK (key : α → K) (k : K) (l : List α) : Option α := l.find? (fun x => decide (key x = k))
def putK (lt : K → K → Bool) (key : α → K) (x : α) : List α → List α
  | [] => [x]
  | y :: r => if lt (key y) (key x) = true then y :: putK lt key x r else if key y = key x then x :: r else x :: y :: r
def delK (key : α → K) (k : K) (l : List α) : List α := l.filter (fun x => decide (key x ≠ k))

set_option maxRecDepth 100000 in
theorem look_cons (k : K) (x : α) (l : List α) : lookK key k (x :: l) = if key x = k then some x else lookK key k l := by
  unfold lookK
  rw [List.find?_cons]
  by_cases h : key x = k <;> simp [h]
set_option maxRecDepth 100000 in
theorem look_nil (k : K) : lookK key k ([] : List α) = none := rfl
set_option maxRecDepth 100000 in
theorem look_none {k : K} {l : List α} (h : ∀ x ∈ l, key x ≠ k) : lookK key k l = none := by
  unfold lookK
  rw [List.find?_eq_none]
  intro x hx
  simpa using h x hx
set_option maxRecDepth 100000 in
theorem look_key {k : K} {l : List α} {x : α} (h : lookK key k l = some x) : key x = k := by
  have := List.find?_some h
  simpa using this
set_option maxRecDepth 100000 in
theorem look_mem {k : K} {l : List α} {x : α} (h : lookK key k l = some x) : x ∈ l := List.mem_of_find?_eq_some h
set_option maxRecDepth 100000 in
theorem look_absent {k : K} {l : List α} (h : lookK key k l = none) : ∀ x ∈ l, key x ≠ k := by
  intro x hx
  have := List.find?_eq_none.1 h x hx
  simpa using this
set_option maxRecDepth 100000 in
theorem look_some_of {k : K} {l : List α} {x : α} (o : Lt3 lt) (hs : SortedK lt key l) (hx : x ∈ l) (hk : key x = k) : lookK key k l = some x := by
  induction l with
  | nil => cases hx
  | cons y r ih =>
    rw [look_cons]
    rcases List.mem_cons.1 hx with rfl | hx
    · rw [if_pos hk]
    · rw [if_neg (by rw [← hk]; exact o.ne (hs.head x hx))]
      exact ih hs.tail hx
set_option maxRecDepth 100000 in
theorem put_mem {x y : α} {l : List α} (h : y ∈ putK lt key x l) : y = x ∨ y ∈ l := by
  induction l with
  | nil => exact .inl (by simpa [putK] using h)
  | cons z r ih =>
    unfold putK at h
    split at h
    · rcases List.mem_cons.1 h with rfl | h
      · exact .inr (by simp)
      · exact (ih h).imp id (fun h => List.mem_cons_of_mem _ h)
    · split at h
      · rcases List.mem_cons.1 h with rfl | h
        · exact .inl rfl
        · exact .inr (List.mem_cons_of_mem _ h)
      · rcases List.mem_cons.1 h with rfl | h
        · exact .inl rfl
        · exact .inr h
set_option maxRecDepth 100000 in
theorem put_sorted (o : Lt3 lt) (x : α) {l : List α} (hs : SortedK lt key l) : SortedK lt key (putK lt key x l) := by
  induction l with
  | nil => exact List.pairwise_singleton _ _
  | cons z r ih =>
    unfold putK
    split
    · rename_i h
      refine List.pairwise_cons.2 ⟨fun y hy => ?_, ih hs.tail⟩
      rcases put_mem hy with rfl | hy
      · exact h
      · exact hs.head y hy
    · rename_i h
      split
      · rename_i e
        refine List.pairwise_cons.2 ⟨fun y hy => ?_, hs.tail⟩
        rw [← e]
        exact hs.head y hy
      · rename_i e
        have hlt : lt (key x) (key z) = true := by
          rcases o.tot (key x) (key z) with h1 | h1 | h1
          · exact h1
          · exact absurd h1.symm e
          · exact absurd h1 h
        refine List.pairwise_cons.2 ⟨fun y hy => ?_, hs⟩
        rcases List.mem_cons.1 hy with rfl | hy
        · exact hlt
        · exact o.tr hlt (hs.head y hy)
set_option maxRecDepth 100000 in
theorem del_sorted (k : K) {l : List α} (hs : SortedK lt key l) : SortedK lt key (delK key k l) := List.Pairwise.sublist List.filter_sublist hs
set_option maxRecDepth 100000 in
theorem look_put (o : Lt3 lt) (x : α) {l : List α} (hs : SortedK lt key l) (k : K) : lookK key k (putK lt key x l) = if key x = k then some x else lookK key k l := by
  induction l with
  | nil => rw [putK, look_cons]
  | cons z r ih =>
    unfold putK
    split
    · rename_i h
      rw [look_cons, ih hs.tail, look_cons]
      by_cases e : key z = k
      · rw [if_pos e, if_pos e, if_neg (by rw [← e]; exact (o.ne h).symm)]
      · rw [if_neg e, if_neg e]
    · rename_i h
      split
      · rename_i e
        rw [look_cons, look_cons, e]
        by_cases e2 : key x = k
        · rw [if_pos e2, if_pos e2]
        · rw [if_neg e2, if_neg e2, if_neg e2]
      · rw [look_cons]
set_option maxRecDepth 100000 in
theorem look_del (k k' : K) (l : List α) : lookK key k' (delK key k l) = if k' = k then none else lookK key k' l := by
  induction l with
  | nil => unfold delK; split <;> rfl
  | cons z r ih =>
    unfold delK at *
    rw [List.filter_cons, look_cons]
    by_cases e : key z = k
    · rw [if_neg (by simp [e]), ih]
      by_cases e2 : k' = k
      · rw [if_pos e2, if_pos e2]
      · rw [if_neg e2, if_neg e2, if_neg (by rw [e]; exact fun h => e2 h.symm)]
    · rw [if_pos (by simp [e]), look_cons, ih]
      by_cases e2 : key z = k'
      · rw [if_pos e2, if_pos e2, if_neg (by rw [← e2]; exact e)]
      · rw [if_neg e2, if_neg e2]
set_option maxRecDepth 100000 in
theorem sorted_ext (o : Lt3 lt) : ∀ {l l' : List α}, SortedK lt key l → SortedK lt key l' → (∀ k, lookK key k l = lookK key k l') → l = l'
  | [], [], _, _, _ => rfl
  | [], y :: r, _, _, h => by
    have := h (key y)
    rw [look_cons, if_pos rfl, look_nil] at this
    cases this
  | x :: r, [], _, _, h => by
    have := h (key x)
    rw [look_cons, if_pos rfl, look_nil] at this
    cases this
  | x :: r, y :: r', hs, hs', h => by
    have hxy : x = y := by
      have h1 := h (key x)
      have h2 := h (key y)
      rw [look_cons, if_pos rfl, look_cons] at h1
      rw [look_cons, look_cons, if_pos rfl] at h2
      by_cases e : key y = key x
      · rw [if_pos e] at h1
        injection h1
      · rw [if_neg e] at h1
        rw [if_neg (fun e2 => e e2.symm)] at h2
        have m1 := hs'.head x (look_mem h1.symm)
        have m2 := hs.head y (look_mem h2)
        have := o.tr m1 m2
        rw [o.irr] at this
        cases this
    subst hxy
    congr 1
    refine sorted_ext o hs.tail hs'.tail (fun k => ?_)
    have h1 := h k
    rw [look_cons, look_cons] at h1
    by_cases e : key x = k
    · rw [look_none (fun y hy => by rw [← e]; exact (o.ne (hs.head y hy)).symm), look_none (fun y hy => by rw [← e]; exact (o.ne (hs'.head y hy)).symm)]
    · rwa [if_neg e, if_neg e] at h1

set_option maxRecDepth 100000 in
theorem put_low {x : α} : ∀ {A : List α} (B : List α), (∀ y ∈ A, lt (key y) (key x) = true) → putK lt key x (A ++ B) = A ++ putK lt key x B
  | [], _, _ => rfl
  | a :: r, B, h => by
    rw [List.cons_append, putK, if_pos (h a (by simp)), put_low B (fun y hy => h y (List.mem_cons_of_mem _ hy))]
    rfl
set_option maxRecDepth 100000 in
theorem Fnd.look_yes {l : List α} {k : K} {i : Nat} (o : Lt3 lt) (hs : SortedK lt key l) (h : Fnd lt key l k i true) : ∃ hi : i < l.length, lookK key k l = some (l[i]'hi) := by
  obtain ⟨hi, hk⟩ := h.at_
  exact ⟨hi, look_some_of o hs (List.getElem_mem hi) hk⟩
set_option maxRecDepth 100000 in
theorem Fnd.look_no {l : List α} {k : K} {i : Nat} (o : Lt3 lt) (hs : SortedK lt key l) (h : Fnd lt key l k i false) : lookK key k l = none := by
  refine look_none (fun x hx => ?_)
  rw [← List.take_append_drop i l] at hx
  rcases List.mem_append.1 hx with hx | hx
  · exact o.ne (h.low o hs x hx)
  · intro e
    obtain ⟨j, hj, rfl⟩ := List.mem_iff_getElem.1 hx
    rw [List.length_drop] at hj
    rw [List.getElem_drop] at e
    rcases Nat.eq_zero_or_pos j with rfl | hp
    · have := h.hit.2 ⟨by omega, e⟩
      cases this
    · have h1 := sorted_at hs (i := i) (j := i + j) (by omega) (by omega)
      rw [e, h.after (by omega)] at h1
      cases h1
set_option maxRecDepth 100000 in
theorem Fnd.put_yes {l : List α} {k : K} {i : Nat} (o : Lt3 lt) (hs : SortedK lt key l) (h : Fnd lt key l k i true) {x : α} (hx : key x = k) : l.set i x = putK lt key x l := by
  obtain ⟨hi, hk⟩ := h.at_
  have e : putK lt key x l = putK lt key x (l.take i ++ l.drop i) := by rw [List.take_append_drop]
  rw [e, put_low _ (fun y hy => by rw [hx]; exact h.low o hs y hy), List.drop_eq_getElem_cons hi, putK, if_neg (by rw [hx, h.after hi]; simp), if_pos (by rw [hk, hx]), List.set_eq_take_append_cons_drop, if_pos hi]
set_option maxRecDepth 100000 in
theorem Fnd.put_no {l : List α} {k : K} {i : Nat} (o : Lt3 lt) (hs : SortedK lt key l) (h : Fnd lt key l k i false) {x : α} (hx : key x = k) : l.take i ++ x :: l.drop i = putK lt key x l := by
  have e : putK lt key x l = putK lt key x (l.take i ++ l.drop i) := by rw [List.take_append_drop]
  rw [e, put_low _ (fun y hy => by rw [hx]; exact h.low o hs y hy)]
  congr 1
  rcases Nat.lt_or_ge i l.length with hi | hi
  · rw [List.drop_eq_getElem_cons hi, putK, if_neg (by rw [hx, h.after hi]; simp), if_neg (fun e => by
      have := h.hit.2 ⟨hi, by rw [e, hx]⟩
      cases this)]
  · rw [List.drop_of_length_le hi, putK]
set_option maxRecDepth 100000 in
theorem Fnd.del_yes {l : List α} {k : K} {i : Nat} (o : Lt3 lt) (hs : SortedK lt key l) (h : Fnd lt key l k i true) : l.take i ++ l.drop (i + 1) = delK key k l := by
  obtain ⟨hi, hk⟩ := h.at_
  have e : delK key k l = delK key k (l.take i ++ (l[i]'hi) :: l.drop (i + 1)) := by rw [← List.drop_eq_getElem_cons hi, List.take_append_drop]
  rw [e]
  unfold delK
  rw [List.filter_append, List.filter_cons, if_neg (by simp [hk])]
  congr 1
  · symm
    rw [List.filter_eq_self]
    intro x hx
    simpa using o.ne (h.low o hs x hx)
  · symm
    rw [List.filter_eq_self]
    intro x hx
    obtain ⟨j, hj, rfl⟩ := List.mem_iff_getElem.1 hx
    rw [List.length_drop] at hj
    rw [List.getElem_drop]
    have h1 := sorted_at hs (i := i) (j := i + 1 + j) (by omega) (by omega)
    rw [hk] at h1
    simpa using (o.ne h1).symm
set_option maxRecDepth 100000 in
theorem put_len (x : α) (l : List α) : (putK lt key x l).length ≤ l.length + 1 := by
  induction l with
  | nil => simp [putK]
  | cons z r ih =>
    unfold putK
    split
    · simpa using ih
    · split <;> simp
set_option maxRecDepth 100000 in
theorem del_len (k : K) (l : List α) : (delK key k l).length ≤ l.length := List.length_filter_le _ _
end

/-! ### Texts and numbers, as keys -/
def sLt (a b : ByteArray) : Bool := Op.bytesLess a.toList b.toList
def iLt (a b : Int) : Bool := decide (a < b)
set_option maxRecDepth 100000 in
theorem bl_irr : ∀ l : List UInt8, Op.bytesLess l l = false
  | [] => rfl
  | a :: r => by
    unfold Op.bytesLess
    rw [bl_irr r]
    simp
set_option maxRecDepth 100000 in
theorem bl_tr : ∀ {a b c : List UInt8}, Op.bytesLess a b = true → Op.bytesLess b c = true → Op.bytesLess a c = true
  | _, _, [], _, h => by simp [Op.bytesLess] at h
  | _, [], _ :: _, h, _ => by simp [Op.bytesLess] at h
  | [], _ :: _, _ :: _, _, _ => by simp [Op.bytesLess]
  | x :: a, y :: b, z :: c, h1, h2 => by
    unfold Op.bytesLess at *
    simp only [Bool.or_eq_true, Bool.and_eq_true, decide_eq_true_eq, beq_iff_eq] at *
    rcases h1 with h1 | ⟨rfl, h1⟩
    · rcases h2 with h2 | ⟨rfl, h2⟩
      · exact .inl (UInt8.lt_trans h1 h2)
      · exact .inl h1
    · rcases h2 with h2 | ⟨rfl, h2⟩
      · exact .inl h2
      · exact .inr ⟨rfl, bl_tr h1 h2⟩
set_option maxRecDepth 100000 in
theorem bl_tot : ∀ a b : List UInt8, Op.bytesLess a b = true ∨ a = b ∨ Op.bytesLess b a = true
  | [], [] => .inr (.inl rfl)
  | [], _ :: _ => .inl (by simp [Op.bytesLess])
  | _ :: _, [] => .inr (.inr (by simp [Op.bytesLess]))
  | x :: a, y :: b => by
    unfold Op.bytesLess
    simp only [Bool.or_eq_true, Bool.and_eq_true, decide_eq_true_eq, beq_iff_eq]
    rcases Nat.lt_trichotomy x.toNat y.toNat with h | h | h
    · exact .inl (.inl (UInt8.lt_iff_toNat_lt.2 h))
    · have e : x = y := UInt8.toNat_inj.1 h
      subst e
      rcases bl_tot a b with h | h | h
      · exact .inl (.inr ⟨rfl, h⟩)
      · exact .inr (.inl (by rw [h]))
      · exact .inr (.inr (.inr ⟨rfl, h⟩))
    · exact .inr (.inr (.inl (UInt8.lt_iff_toNat_lt.2 h)))
set_option maxRecDepth 100000 in
theorem str_eq {a b : ByteArray} (h : a.toList = b.toList) : a = b := by
  rw [ByteArray.toList_eq, ByteArray.toList_eq] at h
  cases a
  cases b
  congr 1
  exact Array.toList_inj.1 h
set_option maxRecDepth 100000 in
theorem sLt3 : Lt3 sLt := ⟨fun _ => bl_irr _, fun h1 h2 => bl_tr h1 h2, fun a b => by
  rcases bl_tot a.toList b.toList with h | h | h
  · exact .inl h
  · exact .inr (.inl (str_eq h))
  · exact .inr (.inr h)⟩
set_option maxRecDepth 100000 in
theorem iLt3 : Lt3 iLt := ⟨fun _ => by simp [iLt], fun h1 h2 => by
  unfold iLt at *
  simp only [decide_eq_true_eq] at *
  omega, fun a b => by
  unfold iLt
  simp only [decide_eq_true_eq]
  omega⟩

/-! ### States -/
structure PairX where
  key : ByteArray
  val : ByteArray
structure RepX where
  client : Int
  num : Int
  code : Int
  vals : List ByteArray
structure StX where
  ps : List PairX
  rs : List RepX
  ep : Int
  ms : List MemX
set_option maxRecDepth 100000 in
theorem PairX.same {x y : PairX} (h1 : x.key = y.key) (h2 : x.val = y.val) : x = y := by
  cases x; cases y
  simp only at h1 h2
  rw [h1, h2]
instance : DecidableEq PairX := fun x y => decidable_of_iff (x.key = y.key ∧ x.val = y.val) ⟨fun h => PairX.same h.1 h.2, fun h => by rw [h]; exact ⟨rfl, rfl⟩⟩
set_option maxRecDepth 100000 in
theorem RepX.same {x y : RepX} (h1 : x.client = y.client) (h2 : x.num = y.num) (h3 : x.code = y.code) (h4 : x.vals = y.vals) : x = y := by
  cases x; cases y
  simp only at h1 h2 h3 h4
  rw [h1, h2, h3, h4]
instance : DecidableEq RepX := fun x y => decidable_of_iff (x.client = y.client ∧ x.num = y.num ∧ x.code = y.code ∧ x.vals = y.vals) ⟨fun h => RepX.same h.1 h.2.1 h.2.2.1 h.2.2.2, fun h => by rw [h]; exact ⟨rfl, rfl, rfl, rfl⟩⟩
abbrev PS (l : List PairX) : Prop := SortedK sLt PairX.key l
abbrev RS (l : List RepX) : Prop := SortedK iLt RepX.client l
abbrev pLook (k : ByteArray) (l : List PairX) : Option PairX := lookK PairX.key k l
abbrev rLook (c : Int) (l : List RepX) : Option RepX := lookK RepX.client c l
abbrev pPut (x : PairX) (l : List PairX) : List PairX := putK sLt PairX.key x l
abbrev rPut (x : RepX) (l : List RepX) : List RepX := putK iLt RepX.client x l
abbrev pDel (k : ByteArray) (l : List PairX) : List PairX := delK PairX.key k l
structure StX.Ris (s : StX) : Prop where
  ps : PS s.ps
  rs : RS s.rs
/-- Its numbers are numbers of 64 bits. -/
def StX.Ok (s : StX) : Prop := R64 s.ep ∧ ∀ m ∈ s.ms, R64 m.id
def MsOk (s s' : StX) : Prop := s'.ms.length ≤ 20 ∧ (s.Ok → s'.Ok)
/-- No more than so many parts. -/
structure StX.Fits (n : Nat) (s : StX) : Prop where
  ps : s.ps.length ≤ 300 + n
  rs : s.rs.length ≤ 300 + n
  vals : ∀ r ∈ s.rs, r.vals.length ≤ 300 + n
  ms : s.ms.length ≤ 20
  ok : s.Ok
def beginsB (p s : ByteArray) : Bool := decide (p.size ≤ s.size) && ((s.extract 0 p.size).toList == p.toList)
def begunL (p : ByteArray) (l : List PairX) : List ByteArray := (l.filter (fun x => beginsB p x.key)).map PairX.key

/-- What an operation makes, but for those that tell or change the configuration. -/
def opF (s : StX) (q : ReqX) : StX × Int × List ByteArray :=
  if q.kind = 2 then
    (if (pLook q.key s.ps).isNone = true ∧ 256 ≤ s.ps.length then (s, 11, []) else ({ s with ps := pPut ⟨q.key, q.val⟩ s.ps }, 0, []))
  else if q.kind = 5 then (s, 0, begunL q.key s.ps)
  else match pLook q.key s.ps with
    | none => (s, 7, [])
    | some p => if q.kind = 1 then (s, 0, [p.val]) else if q.kind = 3 then ({ s with ps := pDel q.key s.ps }, 0, []) else
        (if p.val = q.old then ({ s with ps := pPut ⟨q.key, q.val⟩ s.ps }, 0, []) else (s, 9, [p.val]))
def OpIs (s : StX) (q : ReqX) (s' : StX) (c : Int) (vs : List ByteArray) : Prop :=
  if q.kind = 6 then s' = s ∧ c = 0 ∧ vs.length = s.ms.length + 1
  else if q.kind = 7 then s'.ps = s.ps ∧ s'.rs = s.rs ∧ vs = [] ∧ c ≠ 8 ∧ MsOk s s'
  else s' = (opF s q).1 ∧ c = (opF s q).2.1 ∧ vs = (opF s q).2.2
def FreshIs (s : StX) (q : ReqX) (s' : StX) (a : RepX) : Prop := ∃ s1 c vs, OpIs s q s1 c vs ∧ a = ⟨q.client, q.num, c, vs⟩ ∧ s' = { s1 with rs := rPut a s1.rs }
def ExeIs (s : StX) (q : ReqX) (s' : StX) (a : RepX) : Prop :=
  if reqGood q = true then
    match rLook q.client s.rs with
    | some r => if r.num = q.num then s' = s ∧ a = r else if q.num < r.num then s' = s ∧ a = ⟨q.client, q.num, 8, []⟩ else FreshIs s q s' a
    | none => FreshIs s q s' a
  else s' = s ∧ a = ⟨q.client, q.num, 1, []⟩

set_option maxRecDepth 100000 in
theorem OpIs.rs {s s' : StX} {q : ReqX} {c : Int} {vs : List ByteArray} (h : OpIs s q s' c vs) : s'.rs = s.rs := by
  unfold OpIs at h
  split at h
  · rw [h.1]
  · split at h
    · exact h.2.1
    · rw [h.1]
      unfold opF
      split
      · split <;> rfl
      · split
        · rfl
        · split
          · rfl
          · split
            · rfl
            · split
              · rfl
              · split <;> rfl
set_option maxRecDepth 100000 in
theorem opF_ps (s : StX) (q : ReqX) : (opF s q).1.ps = s.ps ∨ (opF s q).1.ps = pPut ⟨q.key, q.val⟩ s.ps ∨ (opF s q).1.ps = pDel q.key s.ps := by
  unfold opF
  split
  · split
    · exact .inl rfl
    · exact .inr (.inl rfl)
  · split
    · exact .inl rfl
    · split
      · exact .inl rfl
      · split
        · exact .inl rfl
        · split
          · exact .inr (.inr rfl)
          · split
            · exact .inr (.inl rfl)
            · exact .inl rfl
set_option maxRecDepth 100000 in
theorem opF_ms (s : StX) (q : ReqX) : (opF s q).1.ms = s.ms := by
  unfold opF
  split
  · split <;> rfl
  · split
    · rfl
    · split
      · rfl
      · split
        · rfl
        · split
          · rfl
          · split <;> rfl
set_option maxRecDepth 100000 in
theorem opF_ep (s : StX) (q : ReqX) : (opF s q).1.ep = s.ep := by
  unfold opF
  split
  · split <;> rfl
  · split
    · rfl
    · split
      · rfl
      · split
        · rfl
        · split
          · rfl
          · split <;> rfl
set_option maxRecDepth 100000 in
theorem opF_ok {s : StX} (h : s.Ok) (q : ReqX) : (opF s q).1.Ok := by
  unfold StX.Ok
  rw [opF_ms, opF_ep]
  exact h
set_option maxRecDepth 100000 in
theorem begun_len (p : ByteArray) (l : List PairX) : (begunL p l).length ≤ l.length := by
  unfold begunL
  rw [List.length_map]
  exact List.length_filter_le _ _
set_option maxRecDepth 100000 in
theorem opF_vals (s : StX) (q : ReqX) : (opF s q).2.2.length ≤ s.ps.length + 1 := by
  have hb := begun_len q.key s.ps
  unfold opF
  split
  · split <;> simp
  · split
    · show (begunL q.key s.ps).length ≤ _
      omega
    · split
      · simp
      · split
        · simp
        · split
          · simp
          · split <;> simp
set_option maxRecDepth 100000 in
theorem opF_code (s : StX) (q : ReqX) : (opF s q).2.1 ≠ 8 := by
  unfold opF
  split
  · split <;> simp
  · split
    · simp
    · split
      · simp
      · split
        · simp
        · split
          · simp
          · split <;> simp
set_option maxRecDepth 100000 in
theorem OpIs.ps {s s' : StX} {q : ReqX} {c : Int} {vs : List ByteArray} (h : OpIs s q s' c vs) : s'.ps = s.ps ∨ s'.ps = pPut ⟨q.key, q.val⟩ s.ps ∨ s'.ps = pDel q.key s.ps := by
  unfold OpIs at h
  split at h
  · rw [h.1]
    exact .inl rfl
  · split at h
    · exact .inl h.1
    · rw [h.1]
      exact opF_ps s q
set_option maxRecDepth 100000 in
theorem OpIs.code {s s' : StX} {q : ReqX} {c : Int} {vs : List ByteArray} (h : OpIs s q s' c vs) : c ≠ 8 := by
  unfold OpIs at h
  split at h
  · rw [h.2.1]
    decide
  · split at h
    · exact h.2.2.2.1
    · rw [h.2.1]
      exact opF_code s q
set_option maxRecDepth 100000 in
theorem OpIs.ris {s s' : StX} {q : ReqX} {c : Int} {vs : List ByteArray} (h : OpIs s q s' c vs) (hs : s.Ris) : s'.Ris := by
  refine ⟨?_, by rw [h.rs]; exact hs.rs⟩
  rcases h.ps with e | e | e <;> rw [e]
  · exact hs.ps
  · exact put_sorted sLt3 _ hs.ps
  · exact del_sorted _ hs.ps
set_option maxRecDepth 100000 in
theorem OpIs.fits {s s' : StX} {q : ReqX} {c : Int} {vs : List ByteArray} {n : Nat} (h : OpIs s q s' c vs) (hs : s.Fits n) : s'.Fits (n + 1) ∧ vs.length ≤ 300 + (n + 1) := by
  have hp := hs.ps
  have hr := hs.rs
  have hm := hs.ms
  refine ⟨⟨?_, by rw [h.rs]; omega, fun r hr => by rw [h.rs] at hr; have := hs.vals r hr; omega, ?_, ?_⟩, ?_⟩
  · rcases h.ps with e | e | e <;> rw [e]
    · omega
    · have := put_len (lt := sLt) (key := PairX.key) ⟨q.key, q.val⟩ s.ps
      show (putK _ _ _ _).length ≤ _
      omega
    · have := del_len (key := PairX.key) q.key s.ps
      show (delK _ _ _).length ≤ _
      omega
  · unfold OpIs at h
    split at h
    · rw [h.1]; exact hm
    · split at h
      · exact h.2.2.2.2.1
      · rw [h.1, opF_ms]; exact hm
  · unfold OpIs at h
    split at h
    · rw [h.1]; exact hs.ok
    · split at h
      · exact h.2.2.2.2.2 hs.ok
      · rw [h.1]; exact opF_ok hs.ok q
  · unfold OpIs at h
    split at h
    · rw [h.2.2]; omega
    · split at h
      · rw [h.2.2.1]; simp
      · rw [h.2.2]
        have := opF_vals s q
        omega
set_option maxRecDepth 100000 in
theorem ExeIs.ris {s s' : StX} {q : ReqX} {a : RepX} (h : ExeIs s q s' a) (hs : s.Ris) : s'.Ris := by
  have fr : FreshIs s q s' a → s'.Ris := by
    rintro ⟨s1, c, vs, ho, _, rfl⟩
    exact ⟨(ho.ris hs).ps, put_sorted iLt3 _ (ho.ris hs).rs⟩
  unfold ExeIs at h
  split at h
  · split at h
    · split at h
      · rw [h.1]; exact hs
      · split at h
        · rw [h.1]; exact hs
        · exact fr h
    · exact fr h
  · rw [h.1]; exact hs
set_option maxRecDepth 100000 in
theorem StX.Fits.more {s : StX} {n m : Nat} (h : s.Fits n) (hm : n ≤ m) : s.Fits m := ⟨by have := h.ps; omega, by have := h.rs; omega, fun r hr => by have := h.vals r hr; omega, h.ms, h.ok⟩
set_option maxRecDepth 100000 in
theorem ExeIs.fits {s s' : StX} {q : ReqX} {a : RepX} {n : Nat} (h : ExeIs s q s' a) (hs : s.Fits n) : s'.Fits (n + 1) := by
  have fr : FreshIs s q s' a → s'.Fits (n + 1) := by
    rintro ⟨s1, c, vs, ho, ha, rfl⟩
    obtain ⟨h1, h2⟩ := ho.fits hs
    refine ⟨h1.ps, ?_, fun r hr => ?_, h1.ms, h1.ok⟩
    · have := put_len (lt := iLt) (key := RepX.client) a s1.rs
      have h3 := hs.rs
      rw [ho.rs] at this
      show (putK _ _ _ s1.rs).length ≤ _
      rw [ho.rs]
      omega
    · rcases put_mem hr with rfl | hr
      · rw [ha]; exact h2
      · exact h1.vals r hr
  unfold ExeIs at h
  split at h
  · split at h
    · split at h
      · rw [h.1]; exact hs.more (by omega)
      · split at h
        · rw [h.1]; exact hs.more (by omega)
        · exact fr h
    · exact fr h
  · rw [h.1]; exact hs.more (by omega)

end Go.Proofs.YtapdnoellleimaaDoor

namespace Go.Proofs.YtapdnoellleimaaDoor
open Go.RowKit

noncomputable def cpAll (ts : Array TypeId) (ty : TypeId) (vs : Array Value) : Sem Value := Builtin.copy_ ts ty vs
set_option maxRecDepth 100000 in
theorem cpAll_def (ts : Array TypeId) (ty : TypeId) (vs : Array Value) : Builtin.copy_ ts ty vs = cpAll ts ty vs := rfl
noncomputable def clAll (ts : Array TypeId) (ty : TypeId) (vs : Array Value) : Sem Value := Builtin.clear_ ts ty vs
set_option maxRecDepth 100000 in
theorem clAll_def (ts : Array TypeId) (ty : TypeId) (vs : Array Value) : Builtin.clear_ ts ty vs = clAll ts ty vs := rfl

/-- A kind of elements: their type, their slice's, how many cells and bytes, the zero value, and the cells of each. -/
structure EK (α : Type) where
  e : TypeId
  sl : TypeId
  k : Nat
  bys : Nat
  z : Value
  enc : α → List Value
  hk : 0 < k
  und : Tryd.prog.underlying sl = some (.slice e)
  els : Tryd.prog.elem sl = e
  info : (Tryd.prog.info? e).map (fun i => (i.zero, i.size, i.bytes)) = some (some z, k, bys)
  hzs : z.cells.size = k
  zone : ∀ v ∈ z.cells.toList, v.oneCell' = true
  len : ∀ x, (enc x).length = k
  one : ∀ x, ∀ v ∈ enc x, v.oneCell' = true
  hby : bys ≤ 200
section
variable {α : Type} (K : EK α)
abbrev EK.flat (xs : List α) : List Value := xs.flatMap K.enc
set_option maxRecDepth 100000 in
theorem EK.flat_len (xs : List α) : (K.flat xs).length = xs.length * K.k := cf_len K.enc K.k K.len xs
set_option maxRecDepth 100000 in
theorem EK.flat_one (xs : List α) : ∀ v ∈ K.flat xs, v.oneCell' = true := by
  intro v hv
  obtain ⟨x, _, hx⟩ := List.mem_flatMap.1 hv
  exact K.one x v hx
set_option maxRecDepth 100000 in
theorem EK.flat_app (xs ys : List α) : K.flat (xs ++ ys) = K.flat xs ++ K.flat ys := List.flatMap_append
set_option maxRecDepth 100000 in
theorem EK.flat_one' (x : α) : K.flat [x] = K.enc x := by simp
abbrev EK.Own (w : World) (base : Nat) (v : Value) (xs : List α) : Prop := w.ownsRow base K.e K.k v xs.length (K.flat xs)
abbrev EK.See (w : World) (B : Nat) (A : Option Addr) (xs : List α) : Prop := Sees w B A (K.flat xs)
set_option maxRecDepth 100000 in
theorem EK.sz (w : World) : (sizeOf K.e).run Tryd.prog w = .ok K.k w := by
  obtain ⟨i0, hi0, _, hz1, _⟩ := info_parts K.info
  rw [run_sizeOf w hi0]
  unfold Program.cellsOf
  rw [hi0]
  show Result.ok i0.size w = _
  rw [hz1]
set_option maxRecDepth 100000 in
theorem EK.size : (Tryd.prog.info? K.e).map (·.size) = some K.k := by
  obtain ⟨i0, hi0, _, hz1, _⟩ := info_parts K.info
  rw [hi0, Option.map_some, hz1]

/-! ### What is seen -/
variable {K} {w w' : World}
set_option maxRecDepth 100000 in
theorem EK.See.range {B : Nat} {A : Option Addr} {xs : List α} (h : K.See w B A xs) {i : Nat} (hi : i < xs.length) : ∃ g o, A = some ⟨g, o, none⟩ ∧ g < B ∧ ∀ j (hj : j < xs.length), w.rangeAt g (o + j * K.k) (K.enc (xs[j]'hj)) := by
  rcases h with hn | ⟨g, o, rfl, hg, hc⟩
  · have hl := K.flat_len xs
    rw [hn, List.length_nil] at hl
    have := Nat.mul_le_mul_right K.k (show 1 ≤ xs.length by omega)
    have hk := K.hk
    omega
  · refine ⟨g, o, rfl, hg, fun j hj => ?_⟩
    rw [← cf_at K.enc K.k K.len xs j hj]
    exact cf_range hc _ _
set_option maxRecDepth 100000 in
theorem EK.See.nil {B : Nat} {xs : List α} (h : K.See w B none xs) : xs = [] := by
  rcases h with h | ⟨g, o, h, _⟩
  · have hl := K.flat_len xs
    rw [h, List.length_nil] at hl
    have hk := K.hk
    rcases Nat.eq_zero_or_pos xs.length with h0 | h0
    · exact List.eq_nil_of_length_eq_zero h0
    · have := Nat.mul_pos h0 hk
      omega
  · cases h
set_option maxRecDepth 100000 in
theorem EK.See.add {B : Nat} {ad : Addr} {xs : List α} (h : K.See w B (some ad) xs) : ∀ j u, (K.flat xs)[j]? = some u → w.cell? (ad.add j) = some u := by
  intro j u hu
  rcases h with hn | ⟨g, o, e, _, hc⟩
  · rw [hn] at hu
    cases hu
  · injection e with e
    subst e
    rw [plain_add]
    exact hc j u hu
set_option maxRecDepth 100000 in
theorem EK.See.far {A : Option Addr} {xs : List α} (h : K.See w w.heap.size A xs) (hb : Below w.heap.size w w') : K.See w' w'.heap.size A xs := (Sees.below h hb).more hb.size

/-! ### What is owned -/
set_option maxRecDepth 100000 in
theorem EK.Own.slice {base : Nat} {v : Value} {xs : List α} (h : K.Own w base v xs) : ∃ A c, v = .slice A xs.length c := own_slice_s h
set_option maxRecDepth 100000 in
theorem EK.Own.see {base n c : Nat} {A : Option Addr} {xs : List α} (h : K.Own w base (.slice A n c) xs) : K.See w w.heap.size A xs := by
  obtain ⟨A', c', e⟩ := h.slice
  injection e with e1 e2 e3
  subst e2
  exact sees_own h
set_option maxRecDepth 100000 in
theorem EK.Own.base {B B' : Nat} {v : Value} {xs : List α} (h : K.Own w B v xs) (hB : B' ≤ B) : K.Own w B' v xs := by
  refine ⟨h.1, ?_⟩
  rcases h.2 with h1 | ⟨g, cap, cur, h1, h2, h3⟩
  · exact .inl h1
  · exact .inr ⟨g, cap, cur, h1, Nat.le_trans hB h2, h3⟩
set_option maxRecDepth 100000 in
theorem EK.Own.keep {B : Nat} {v : Value} {xs : List α} (h : K.Own w B v xs) (hb : Below w.heap.size w w') : K.Own w' B v xs :=
  World.ownsRow.kept h (only_below hb none) (by cases v.ownBlock <;> simp)
set_option maxRecDepth 100000 in
theorem EK.Own.bounds {base n c : Nat} {A : Option Addr} {xs : List α} (h : K.Own w base (.slice A n c) xs) : n = xs.length ∧ xs.length ≤ c ∧ c ≤ maxLen ∧ (0 < xs.length → ∃ g, A = some ⟨g, 0, none⟩ ∧ base ≤ g ∧ g < w.heap.size) := by
  rcases h.2 with ⟨h1, h2⟩ | ⟨g, cap, cur, h1, hbase, hb, hcap, hmax, hsz, htk⟩
  · injection h1 with e1 e2 e3
    exact ⟨by omega, by omega, by rw [e3]; simp [maxLen], fun hp => by omega⟩
  · injection h1 with e1 e2 e3
    subst e3
    exact ⟨e2, hcap, hmax, fun _ => ⟨g, e1, hbase, (Array.getElem?_eq_some_iff.1 hb).1⟩⟩
set_option maxRecDepth 100000 in
/-- Rows of two kinds lie apart. -/
theorem own_apart {base base' n n' s s' : Nat} {e e' : TypeId} {v v' : Value} {xs xs' : List Value} (h : w.ownsRow base e s v n xs) (h' : w.ownsRow base' e' s' v' n' xs') (hne : e ≠ e') (hg : w.grownBy w' v'.ownBlock) : w'.ownsRow base e s v n xs := by
  rcases h'.2 with ⟨rfl, _⟩ | ⟨g, cap, cur, rfl, _, hb, _⟩
  · exact World.ownsRow.kept h hg (by cases v.ownBlock <;> simp [Value.ownBlock])
  · exact World.ownsRow.kept h hg (.inr (Box.own_ne hb h hne))
set_option maxRecDepth 100000 in
theorem own_box {base n s g : Nat} {e t : TypeId} {v : Value} {xs : List Value} {cs : Array Value} (h : w.ownsRow base e s v n xs) (hb : Box w g t cs) (hne : e ≠ t) (hg : w.grownBy w' (some g)) : w'.ownsRow base e s v n xs := World.ownsRow.kept h hg (.inr (Box.own_ne hb h hne))
set_option maxRecDepth 100000 in
theorem box_own {base n s g : Nat} {e t : TypeId} {v : Value} {xs : List Value} {cs : Array Value} (hb : Box w g t cs) (h : w.ownsRow base e s v n xs) (hne : e ≠ t) (hg : w.grownBy w' v.ownBlock) : Box w' g t cs := hb.grown hg (fun e => Box.own_ne hb h hne e.symm)

set_option maxRecDepth 100000 in
theorem EK.own_nil (K : EK α) (w : World) (base : Nat) : K.Own w base (.slice none 0 0) [] := ⟨by simp, .inl ⟨rfl, rfl⟩⟩
set_option maxRecDepth 100000 in
theorem EK.own_lit (K : EK α) (w : World) {base : Nat} (hb : base ≤ w.heap.size) (r : List α) (h : r.length ≤ maxLen) : K.Own (w.alloc (.cells (K.flat r).toArray K.e)) base (.slice (some ⟨w.heap.size, 0, none⟩) r.length r.length) r := by
  have := World.ownsRow_lit (base := base) (size := K.k) w (e := K.e) (K.flat r).toArray r.length hb h (by rw [List.size_toArray, K.flat_len])
  rw [List.toList_toArray] at this
  exact this
set_option maxRecDepth 100000 in
theorem EK.see_one (K : EK α) (w : World) (x : α) : K.See (w.alloc (.cells (K.enc x).toArray K.e)) (w.alloc (.cells (K.enc x).toArray K.e)).heap.size (some ⟨w.heap.size, 0, none⟩) [x] := by
  have hX : Box (w.alloc (.cells (K.enc x).toArray K.e)) w.heap.size K.e (K.enc x).toArray := Box.made _ _ _
  show Sees _ _ _ (K.flat [x])
  rw [K.flat_one']
  simpa using Sees.of_box hX hX.lt

set_option maxRecDepth 100000 in
/-- append of what is seen onto an owned row (nil or not), as the frozen call's run. -/
theorem EK.append (K : EK α) {base : Nat} {v : Value} {xs : List α} (hown : K.Own w base v xs) {A : Option Addr} {m c : Nat} {es : List α} (hm : m = es.length) (he : K.See w w.heap.size A es)
    (hl : xs.length + m ≤ 140737488351232) (hb : (xs.length + m) * K.bys ≤ 140737488355328) (hbase : base ≤ w.heap.size) :
    ∃ v' w', (apAll #[K.sl, K.sl] K.sl #[v, .slice A m c]).run Tryd.prog w = .ok v' w' ∧ K.Own w' base v' (xs ++ es) ∧ w.grownBy w' v.ownBlock := by
  obtain ⟨i0, hi0, hz0, hz1, hz2⟩ := info_parts K.info
  have hfl := K.flat_len es
  have hk := K.hk
  have hap : ∀ (w' : World) (v' : Value), w'.ownsRow base K.e K.k v' (xs.length + m) (K.flat xs ++ K.flat es) → K.Own w' base v' (xs ++ es) := fun w' v' h => by
    show w'.ownsRow base K.e K.k v' (xs ++ es).length (K.flat (xs ++ es))
    rw [K.flat_app, List.length_append, ← hm]
    exact h
  cases A with
  | some ad =>
    obtain ⟨v', w', hr, ho, hg, _⟩ := run_append_own (P := Tryd.prog) w base K.sl K.sl K.e i0 _ K.k K.bys K.und hi0 hz0 hz1 hz2 K.hzs hk v xs.length _ hown ad m c (K.flat es) (by rw [hfl, hm]) he.add (K.flat_one es) (by unfold maxLen; omega) hb hbase
    exact ⟨v', w', hr, hap w' v' ho, hg⟩
  | none =>
    have hes : es = [] := he.nil
    subst hes
    have hm0 : m = 0 := hm
    subst hm0
    refine ⟨v, w, ?_, hap w v (by simpa using hown), only_refl _ _⟩
    have hu := K.und
    show (Builtin.append_ _ _ _).run _ _ = _
    rcases hown.2 with ⟨rfl, h0⟩ | ⟨g, cap, cur, rfl, _, _, hnc, _⟩
    · simp [Builtin.append_, run_underlying hu, sizeOf, typeInfo, hi0, Builtin.lenOf, Builtin.firstCells]
    · simp [Builtin.append_, run_underlying hu, sizeOf, typeInfo, hi0, Builtin.lenOf, Builtin.firstCells, hnc, storeCells]

set_option maxRecDepth 100000 in
theorem EK.flat_set (K : EK α) {L : List α} {i : Nat} (h : i < L.length) (x : α) : K.flat (L.set i x) = K.flat (L.take i) ++ (K.enc x ++ K.flat (L.drop (i + 1))) := by
  rw [List.set_eq_take_append_cons_drop, if_pos h]
  show (L.take i ++ x :: L.drop (i + 1)).flatMap _ = _
  rw [List.flatMap_append, List.flatMap_cons]
set_option maxRecDepth 100000 in
theorem EK.flat_split (K : EK α) {L : List α} {i : Nat} (h : i < L.length) : K.flat L = K.flat (L.take i) ++ (K.enc (L[i]'h) ++ K.flat (L.drop (i + 1))) := by
  have := K.flat_set h (L[i]'h)
  rwa [List.set_getElem_self] at this
set_option maxRecDepth 100000 in
theorem EK.flat_cut (K : EK α) (L : List α) (i : Nat) : K.flat L = K.flat (L.take i) ++ K.flat (L.drop i) := by
  rw [← K.flat_app, List.take_append_drop]

set_option maxRecDepth 100000 in
/-- A row, as its block. -/
theorem EK.Own.row {base g n c : Nat} {L : List α} (h : K.Own w base (.slice (some ⟨g, 0, none⟩) n c) L) : ∃ post : List Value, Box w g K.e (K.flat L ++ post).toArray ∧ post.length = (c - L.length) * K.k ∧ L.length ≤ c ∧ c ≤ maxLen ∧ base ≤ g ∧ n = L.length := by
  rcases h.2 with ⟨h1, _⟩ | ⟨g', cap, cur, h1, hbase, hb, hcap, hmax, hsz, htk⟩
  · cases h1
  · injection h1 with e1 e2 e3
    injection e1 with e1
    injection e1 with e1
    subst e1
    subst e3
    refine ⟨cur.toList.drop (L.length * K.k), ?_, ?_, hcap, hmax, hbase, e2⟩
    · have := List.take_append_drop (L.length * K.k) cur.toList
      rw [htk] at this
      rw [this]
      exact hb
    · rw [List.length_drop, Array.length_toList, hsz, Nat.sub_mul]
set_option maxRecDepth 100000 in
theorem EK.own_row (K : EK α) {base g c : Nat} {L : List α} {post : List Value} (hb : Box w g K.e (K.flat L ++ post).toArray) (hp : post.length = (c - L.length) * K.k) (hc : L.length ≤ c) (hm : c ≤ maxLen) (hg : base ≤ g) : K.Own w base (.slice (some ⟨g, 0, none⟩) L.length c) L := by
  refine ⟨K.flat_len L, .inr ⟨g, c, _, rfl, hg, hb, hc, hm, ?_, ?_⟩⟩
  · rw [List.size_toArray, List.length_append, K.flat_len, hp, ← Nat.add_mul]
    congr 1
    omega
  · rw [List.toList_toArray, ← K.flat_len, List.take_left']
    rfl
set_option maxRecDepth 100000 in
/-- An element is stored into an owned row. -/
theorem EK.Own.put {base g n c : Nat} {L : List α} (h : K.Own w base (.slice (some ⟨g, 0, none⟩) n c) L) {i : Nat} (hi : i < L.length) (x : α) :
    (Instr.storeAt K.e (.pointer (some ⟨g, i * K.k, none⟩)) (.agg (K.enc x).toArray)).run Tryd.prog w = .ok () (w.setCells g (i * K.k) (K.enc x)) ∧ K.Own (w.setCells g (i * K.k) (K.enc x)) base (.slice (some ⟨g, 0, none⟩) n c) (L.set i x) ∧ w.grownBy (w.setCells g (i * K.k) (K.enc x)) (some g) := by
  obtain ⟨post, hb, hp, hc, hm, hg, rfl⟩ := h.row
  have hpl : (K.flat (L.take i)).length = i * K.k := by rw [K.flat_len, List.length_take]; congr 1; omega
  have hb2 := hb
  rw [K.flat_split hi] at hb2
  simp only [List.append_assoc] at hb2
  refine ⟨?_, ?_, only_cells (g := g) _ _ _⟩
  · exact run_storeAt_mid (P := Tryd.prog) _ g (i * K.k) K.e (K.enc x).toArray (fun j hj => by
      rw [List.size_toArray, K.len] at hj
      have h1 := hb.cell (i * K.k + j)
      rw [h1, hb.free, Array.getElem?_eq_getElem (by
        rw [List.size_toArray, List.length_append, K.flat_len]
        have := Nat.mul_le_mul_right K.k (show i + 1 ≤ L.length by omega)
        rw [Nat.add_mul] at this
        omega)]
      exact ⟨rfl, rfl⟩) (by rw [List.size_toArray, K.len]; exact K.size) (by have := all_oneCell_toArray (K.one x); simpa using this)
  · have h3 := Box.put_mid hb2 hpl (vs := K.enc x) (by rw [K.len, K.len])
    have e : K.flat (L.take i) ++ (K.enc x ++ (K.flat (L.drop (i + 1)) ++ post)) = K.flat (L.set i x) ++ post := by
      rw [K.flat_set hi]
      simp only [List.append_assoc]
    rw [e] at h3
    have := K.own_row (c := c) h3 (by rw [List.length_set]; exact hp) (by rw [List.length_set]; exact hc) hm hg
    rwa [List.length_set] at this

set_option maxRecDepth 100000 in
/-- copy, of any kind of elements. -/
theorem EK.run_copy (K : EK α) (w : World) (ty : TypeId) (b o dLen dCap : Nat) (a : Addr) (sLen sCap : Nat) (cs : List Value) (hn : cs.length = Nat.min sLen dLen * K.k)
    (hsrc : ∀ j v, cs[j]? = some v → w.cell? (a.add j) = some v) (hc : ∀ j, j < cs.length → (w.cell? ⟨b, o + j, none⟩).isSome = true) (hf : ∀ j, j < cs.length → w.frozen? ⟨b, o + j, none⟩ = false) (h1 : ∀ v ∈ cs, v.oneCell' = true) :
    (cpAll #[K.sl, K.sl] ty #[.slice (some ⟨b, o, none⟩) dLen dCap, .slice (some a) sLen sCap]).run Tryd.prog w = .ok (goInt (Nat.min sLen dLen)) (w.setCells b o cs) := by
  obtain ⟨i0, hi0, _, hz1, _⟩ := info_parts K.info
  have hl := run_loadCells_list (P := Tryd.prog) w a cs hsrc
  have hst := run_storeCells_cells (P := Tryd.prog) b o cs 0 w (by simpa using hc) (by simpa using hf) h1
  show (Builtin.copy_ _ _ _).run _ _ = _
  simp [Builtin.copy_, run_underlying K.und, Builtin.lenOf, Builtin.firstCells, sizeOf, typeInfo, hi0, hz1, ← hn, hl, hst]
set_option maxRecDepth 100000 in
/-- s[m:], s[:i], s[a:b]. -/
theorem EK.from_ (K : EK α) {g n c m : Nat} (hm : m < c) (hn : m ≤ n) (o : Nat) (w : World) :
    (Instr.slice K.sl (.slice (some ⟨g, o, none⟩) n c) (some (.int .i64 (m : Int))) none none).run Tryd.prog w = .ok (.slice (some ⟨g, o + m * K.k, none⟩) (n - m) (c - m)) w := by
  rw [run_slice_l w K.sl _ n c (by rw [K.els]; exact K.und) .i64 (m : Int) (by omega) (by omega), K.els, K.sz]
  have e : (⟨g, o, none⟩ : Addr).add (m * K.k) = ⟨g, o + m * K.k, none⟩ := by rw [plain_add]
  simp [sliced, e]
  omega
set_option maxRecDepth 100000 in
theorem EK.upto (K : EK α) {g n c i o : Nat} (hi : i ≤ c) (w : World) :
    (Instr.slice K.sl (.slice (some ⟨g, o, none⟩) n c) none (some (.int .i64 (i : Int))) none).run Tryd.prog w = .ok (.slice (some ⟨g, o, none⟩) i c) w := by
  rw [run_slice_h w K.sl _ n c (by rw [K.els]; exact K.und) .i64 (i : Int) (by omega) (by omega), K.els, K.sz]
  simp [sliced, Addr.add_zero']
end

/-! ### Pairs, replies, texts -/
def PairX.cells (x : PairX) : List Value := [.string x.key, .string x.val]
/-- A reply as memory has it. -/
structure RepM where
  x : RepX
  A : Option Addr
  z : Nat
abbrev repv (c n k : Int) (A : Option Addr) (m z : Nat) : Array Value := #[.int .i64 c, .int .i64 n, .int .i64 k, .slice A m z]
def RepM.cells (r : RepM) : List Value := [.int .i64 r.x.client, .int .i64 r.x.num, .int .i64 r.x.code, .slice r.A r.x.vals.length r.z]
set_option maxRecDepth 100000 in
theorem str_info10 : (Tryd.prog.info? 9).map (fun i => (i.zero, i.size, i.bytes)) = some (some (.string ⟨#[]⟩), 1, 16) := by kernel_rfl
noncomputable def SK : EK ByteArray where
  e := 9
  sl := 39
  k := 1
  bys := 16
  z := .string ⟨#[]⟩
  enc := fun s => [.string s]
  hk := by decide
  und := Tryd.underlying39
  els := by kernel_rfl
  info := by kernel_rfl
  hzs := rfl
  zone := by
    intro v hv
    simp only [Value.cells, List.mem_cons, List.not_mem_nil, or_false] at hv
    rcases hv with rfl
    rfl
  len := fun _ => rfl
  one := by
    intro x v hv
    simp only [List.mem_cons, List.not_mem_nil, or_false] at hv
    rcases hv with rfl
    rfl
  hby := by decide
set_option maxRecDepth 100000 in
theorem SK_flat (xs : List ByteArray) : SK.flat xs = xs.map Value.string := by
  show xs.flatMap (fun s => [Value.string s]) = _
  induction xs with
  | nil => rfl
  | cons x r ih => rw [List.flatMap_cons, ih]; rfl

/-! ### States -/
structure StM where
  ps : List PairX
  pA : Option Addr
  pc : Nat
  rs : List RepM
  rA : Option Addr
  rc : Nat
  ep : Int
  ms : List MemX
  mA : Option Addr
  mc : Nat
abbrev stV (pA : Option Addr) (pn pc : Nat) (rA : Option Addr) (rn rc : Nat) (ep : Int) (mA : Option Addr) (mn mc : Nat) : Array Value := #[.slice pA pn pc, .slice rA rn rc, .int .i64 ep, .slice mA mn mc]
abbrev StM.cells (s : StM) : Array Value := stV s.pA s.ps.length s.pc s.rA s.rs.length s.rc s.ep s.mA s.ms.length s.mc
def StM.pl (s : StM) : StX := ⟨s.ps, s.rs.map RepM.x, s.ep, s.ms⟩
end Go.Proofs.YtapdnoellleimaaDoor
