/-
  Lists of used numbers in memory: forty rows, each grown by itself.
-/
import Derived.Test.YtpldnjlfmagccaaDoorRiUse
namespace Go.Proofs.YtpldnjlfmagccaaDoor
open Go.RowKit Go.Maps

abbrev nilV : Value := .slice none 0 0
abbrev iv (n : Int) : Value := .int .i64 n
structure UsedW (w : World) (B ub : Nat) (vs : List Value) (U : Nat → List Int) : Prop where
  box : Box w ub 49 vs.toArray
  low : B ≤ ub
  len : vs.length = 40
  own : ∀ i, w.ownsRow B 3 1 (vs.getD i nilV) (U i).length ((U i).map iv)
  apart : ∀ i j, i ≠ j → ∀ g, (vs.getD i nilV).ownBlock = some g → (vs.getD j nilV).ownBlock ≠ some g
variable {B ub : Nat} {vs : List Value} {U : Nat → List Int} {w w' : World}

/-- Nothing below B has turned, and above it nothing but lists of numbers. -/
def usedObj : Option Obj → Bool
  | some (.cells _ t _) => t == 3 || t == 49
  | _ => false
structure UFrame (B : Nat) (w w' : World) : Prop where
  os : w'.os = w.os
  tape : w'.tape = w.tape
  output : w'.output = w.output
  size : w.heap.size ≤ w'.heap.size
  block : ∀ i, i < w.heap.size → (i < B ∨ usedObj w.heap[i]? = false) → w'.heap[i]? = w.heap[i]?
set_option maxRecDepth 100000 in
theorem UFrame.refl (B : Nat) (w : World) : UFrame B w w := ⟨rfl, rfl, rfl, Nat.le_refl _, fun _ _ _ => rfl⟩
set_option maxRecDepth 100000 in
theorem UFrame.trans {B : Nat} {a b c : World} (h : UFrame B a b) (k : UFrame B b c) : UFrame B a c :=
  ⟨k.os.trans h.os, k.tape.trans h.tape, k.output.trans h.output, Nat.le_trans h.size k.size, fun i hi hr => by
    have e := h.block i hi hr
    exact (k.block i (Nat.lt_of_lt_of_le hi h.size) (hr.imp id fun hf => by rw [e]; exact hf)).trans e⟩
set_option maxRecDepth 100000 in
theorem UFrame.of_below {B : Nat} {w w' : World} (h : Below w.heap.size w w') : UFrame B w w' := ⟨h.os, h.tape, h.output, h.size, fun i hi _ => h.block i hi⟩
set_option maxRecDepth 100000 in
theorem UFrame.of_grown {B : Nat} {w w' : World} {row : Option Nat} (h : w.grownBy w' row) (hr : ∀ g, row = some g → B ≤ g ∧ usedObj w.heap[g]? = true) : UFrame B w w' :=
  ⟨h.os, h.tape, h.output, h.size, fun i hi hf => h.block i hi fun e => by
    obtain ⟨h1, h2⟩ := hr i e.symm
    rcases hf with hf | hf
    · omega
    · rw [h2] at hf
      cases hf⟩
set_option maxRecDepth 100000 in
theorem UFrame.below {B : Nat} {w w' : World} (h : UFrame B w w') (hB : B ≤ w.heap.size) : Below B w w' := ⟨h.os, h.tape, h.output, h.size, fun i hi => h.block i (by omega) (.inl hi)⟩
set_option maxRecDepth 100000 in
theorem UFrame.box {B g : Nat} {w w' : World} {t : TypeId} {cs : Array Value} (h : UFrame B w w') (hb : Box w g t cs) (h1 : t ≠ 3) (h2 : t ≠ 49) : Box w' g t cs := by
  have hb' := hb
  unfold Box at hb
  exact (h.block g hb'.lt (.inr (by rw [hb]; simp [usedObj, h1, h2]))).trans hb

set_option maxRecDepth 100000 in
theorem own_box {w : World} {base size n : Nat} {e : TypeId} {v : Value} {xs : List Value} (h : w.ownsRow base e size v n xs) {g : Nat} (hg : v.ownBlock = some g) : base ≤ g ∧ g < w.heap.size ∧ ∃ cs, Box w g e cs := by
  rcases h.2 with ⟨rfl, _⟩ | ⟨g', cap, cur, rfl, hb, hh, _⟩
  · cases hg
  · obtain rfl : g' = g := by simpa [Value.ownBlock] using hg
    exact ⟨hb, (Array.getElem?_eq_some_iff.1 hh).1, cur, hh⟩
set_option maxRecDepth 100000 in
theorem UsedW.cell (h : UsedW w B ub vs U) {i : Nat} (hi : i < 40) : w.cell? ⟨ub, i, none⟩ = some (vs.getD i nilV) := by
  rw [h.box.cell, List.getElem?_toArray, List.getD_eq_getElem?_getD, List.getElem?_eq_getElem (by rw [h.len]; exact hi)]
  rfl
set_option maxRecDepth 100000 in
/-- What turns a block that is none of these, or none that was there. -/
theorem UsedW.other (h : UsedW w B ub vs U) {row : Option Nat} (hg : w.grownBy w' row) (hr : ∀ g, row = some g → ∃ t cs, Box w g t cs ∧ t ≠ 3 ∧ t ≠ 49) : UsedW w' B ub vs U := by
  refine ⟨h.box.grown hg fun e => ?_, h.low, h.len, fun i => (h.own i).kept hg ?_, h.apart⟩
  · obtain ⟨t, cs, hb, _, h2⟩ := hr ub e.symm
    exact Box.apart h.box hb (Ne.symm h2) rfl
  · rcases hv : (vs.getD i nilV).ownBlock with _ | g
    · exact .inl rfl
    · refine .inr fun e => ?_
      obtain ⟨t, cs, hb, h1, _⟩ := hr g e.symm
      obtain ⟨_, _, cs', hb'⟩ := own_box (h.own i) hv
      exact Box.apart hb' hb (Ne.symm h1) rfl
set_option maxRecDepth 100000 in
theorem UsedW.call (h : UsedW w B ub vs U) (hb : Below w.heap.size w w') : UsedW w' B ub vs U := h.other (only_below hb none) (fun g e => by cases e)
set_option maxRecDepth 100000 in
theorem own_block {w w' : World} {base size n : Nat} {e : TypeId} {v : Value} {xs : List Value} (h : w.ownsRow base e size v n xs) (hb : ∀ g cs, base ≤ g → Box w g e cs → w'.heap[g]? = w.heap[g]?) : w'.ownsRow base e size v n xs := by
  refine ⟨h.1, ?_⟩
  rcases h.2 with hn | ⟨g, cap, cur, hv, hbg, hh, rest⟩
  · exact .inl hn
  · exact .inr ⟨g, cap, cur, hv, hbg, (hb g cur hbg hh).trans hh, rest⟩
set_option maxRecDepth 100000 in
theorem own_ring {w w' : World} {B base size n : Nat} {e : TypeId} {v : Value} {xs : List Value} (h : w.ownsRow base e size v n xs) (f : RFrame B w w') (h1 : e ≠ 69) (h2 : e ≠ 4) : w'.ownsRow base e size v n xs :=
  own_block h fun g cs _ hb => by
    have hl := hb.lt
    unfold Box at hb
    exact f.block g hl (.inr (by rw [hb]; simp [ringObj, h1, h2]))
set_option maxRecDepth 100000 in
theorem own_used {w w' : World} {B base size n : Nat} {e : TypeId} {v : Value} {xs : List Value} (h : w.ownsRow base e size v n xs) (f : UFrame B w w') (h1 : e ≠ 3) (h2 : e ≠ 49) : w'.ownsRow base e size v n xs :=
  own_block h fun g cs _ hb => by
    have hl := hb.lt
    unfold Box at hb
    exact f.block g hl (.inr (by rw [hb]; simp [usedObj, h1, h2]))
set_option maxRecDepth 100000 in
theorem UsedW.ring (h : UsedW w B ub vs U) {B' : Nat} (f : RFrame B' w w') : UsedW w' B ub vs U :=
  ⟨f.box h.box (by decide) (by decide), h.low, h.len, fun i => own_ring (h.own i) f (by decide) (by decide), h.apart⟩
set_option maxRecDepth 100000 in
theorem getD_setV (l : List Value) (i : Nat) (v : Value) (j : Nat) (hi : i < l.length) : (l.set i v).getD j nilV = if j = i then v else l.getD j nilV := by
  rw [List.getD_eq_getElem?_getD, List.getElem?_set, List.getD_eq_getElem?_getD]
  by_cases h : i = j
  · subst h
    simp [hi]
  · rw [if_neg h, if_neg (fun e => h e.symm)]
set_option maxRecDepth 100000 in
theorem UsedW.frame_put (h : UsedW w B ub vs U) (i : Nat) (v : Value) : UFrame B w (w.setCell ⟨ub, i, none⟩ v) :=
  UFrame.of_grown (only_cell w ub i v) fun g e => by
    injection e with e
    subst e
    have hb := h.box
    unfold Box at hb
    exact ⟨h.low, by rw [hb]; simp [usedObj]⟩
set_option maxRecDepth 100000 in
/-- One list is another. -/
theorem used_put (hb : Box w ub 49 vs.toArray) (low : B ≤ ub) (len : vs.length = 40) {i : Nat} (hi : i < 40) (own : ∀ j, j ≠ i → w.ownsRow B 3 1 (vs.getD j nilV) (U j).length ((U j).map iv)) (apart : ∀ a b, a ≠ i → b ≠ i → a ≠ b → ∀ g, (vs.getD a nilV).ownBlock = some g → (vs.getD b nilV).ownBlock ≠ some g)
    {v : Value} {l : List Int} (ho : w.ownsRow B 3 1 v l.length (l.map iv)) (ha : ∀ j, j ≠ i → ∀ g, v.ownBlock = some g → (vs.getD j nilV).ownBlock ≠ some g) : UsedW (w.setCell ⟨ub, i, none⟩ v) B ub (vs.set i v) (fun q => if q = i then l else U q) := by
  have hl : i < vs.length := by rw [len]; exact hi
  have hg := only_cell w ub i v
  have hk : ∀ {u : Value} {m : Nat} {xs : List Value}, w.ownsRow B 3 1 u m xs → (w.setCell ⟨ub, i, none⟩ v).ownsRow B 3 1 u m xs := fun {u m xs} hu => by
    refine hu.kept hg ?_
    rcases hv : u.ownBlock with _ | g
    · exact .inl rfl
    · refine .inr fun e => ?_
      injection e with e
      subst e
      obtain ⟨_, _, cs', hb'⟩ := own_box hu hv
      exact Box.apart hb hb' (by decide) rfl
  refine ⟨?_, low, by rw [List.length_set]; exact len, fun q => ?_, fun a b hab g hag => ?_⟩
  · have hp := hb.put i v
    simpa using hp
  · rw [getD_setV _ _ _ _ hl]
    by_cases e : q = i
    · simp only [if_pos e]
      exact hk ho
    · simp only [if_neg e]
      exact hk (own q e)
  · rw [getD_setV _ _ _ _ hl] at hag ⊢
    by_cases e1 : a = i
    · rw [if_pos e1] at hag
      rw [if_neg (fun e2 => hab (e1.trans e2.symm))]
      exact ha b (fun e2 => hab (e1.trans e2.symm)) g hag
    · rw [if_neg e1] at hag
      by_cases e2 : b = i
      · rw [if_pos e2]
        intro hb
        exact ha a e1 g hb hag
      · rw [if_neg e2]
        exact apart a b e1 e2 hab g hag
set_option maxRecDepth 100000 in
theorem UsedW.put (h : UsedW w B ub vs U) {i : Nat} (hi : i < 40) {v : Value} {l : List Int} (ho : w.ownsRow B 3 1 v l.length (l.map iv)) (ha : ∀ j, j ≠ i → ∀ g, v.ownBlock = some g → (vs.getD j nilV).ownBlock ≠ some g) : UsedW (w.setCell ⟨ub, i, none⟩ v) B ub (vs.set i v) (fun q => if q = i then l else U q) :=
  used_put h.box h.low h.len hi (fun j _ => h.own j) (fun a b _ _ hab => h.apart a b hab) ho ha
set_option maxRecDepth 100000 in
/-- One list is emptied. -/
theorem UsedW.clear (h : UsedW w B ub vs U) {i : Nat} (hi : i < 40) : UsedW (w.setCell ⟨ub, i, none⟩ nilV) B ub (vs.set i nilV) (fun q => if q = i then [] else U q) := h.put hi (l := []) (World.ownsRow_nil _ _ _ _) (fun j _ g e => by cases e)
set_option maxRecDepth 100000 in
/-- The ring, under a change of lists of numbers. -/
theorem RingW.used {B' rb mb n : Nat} {es : List Ent} (h : RingW w B' rb mb n es) {row : Option Nat} (hg : w.grownBy w' row) (hr : ∀ g, row = some g → ∃ t cs, Box w g t cs ∧ (t = 3 ∨ t = 49 ∨ t = 34)) : RingW w' B' rb mb n es := by
  rcases row with _ | g
  · exact h.call ⟨hg.os, hg.tape, hg.output, hg.size, fun i hi => hg.block i hi (by simp)⟩
  · obtain ⟨t, cs, hb, ht⟩ := hr g rfl
    rcases ht with rfl | rfl | rfl
    · exact h.aside hg hb (by decide) (by decide) (by decide) (by decide) (by decide)
    · exact h.aside hg hb (by decide) (by decide) (by decide) (by decide) (by decide)
    · exact h.aside hg hb (by decide) (by decide) (by decide) (by decide) (by decide)
set_option maxRecDepth 100000 in
theorem int_info3 : (Tryd.prog.info? 3).map (fun i => (i.zero, i.size, i.bytes)) = some (some (.int .i64 0), 1, 8) := by kernel_rfl
set_option maxRecDepth 100000 in
/-- A number comes to one list. -/
theorem UsedW.append (h : UsedW w B ub vs U) {i : Nat} (hi : i < 40) (hlen : (U i).length ≤ 1000000) (n : Int) (g c : Nat) (hg : w.cell? ⟨g, 0, none⟩ = some (iv n)) (hB : B ≤ w.heap.size) :
    ∃ v w1, (apAll #[49, 49] 49 #[vs.getD i nilV, .slice (some ⟨g, 0, none⟩) 1 c]).run Tryd.prog w = .ok v w1 ∧ w1.cell? ⟨ub, i, none⟩ = some (vs.getD i nilV) ∧ w1.frozen? ⟨ub, i, none⟩ = false ∧ UFrame B w w1 ∧
      UsedW (w1.setCell ⟨ub, i, none⟩ v) B ub (vs.set i v) (fun q => if q = i then U i ++ [n] else U q) ∧ UFrame B w (w1.setCell ⟨ub, i, none⟩ v) ∧ (∀ B' rb mb k es, RingW w B' rb mb k es → RingW (w1.setCell ⟨ub, i, none⟩ v) B' rb mb k es) := by
  obtain ⟨i0, hi0, hz0, hz1, hz2⟩ := info_parts int_info3
  obtain ⟨v, w1, hr, ho, hgr, _, hat⟩ := run_append_own_at (P := Tryd.prog) w B 49 49 3 i0 _ 1 8 Tryd.underlying49 hi0 hz0 hz1 hz2 rfl (by omega) (vs.getD i nilV) (U i).length _ (h.own i) ⟨g, 0, none⟩ 1 c [iv n] rfl (fun j u hu => by
    obtain rfl : j = 0 := by
      have := (List.getElem?_eq_some_iff.1 hu).1
      simpa using this
    rw [plain_add, hg]
    simpa using hu) (fun u hu => by
      obtain rfl := List.mem_singleton.1 hu
      rfl) (by unfold maxLen; omega) (by omega) hB
  have f1 : UFrame B w w1 := UFrame.of_grown hgr fun q e => by
    obtain ⟨a1, a2, cs, hb⟩ := own_box (h.own i) e
    unfold Box at hb
    exact ⟨a1, by rw [hb]; simp [usedObj]⟩
  have hub : (vs.getD i nilV).ownBlock ≠ some ub := fun e => by
    obtain ⟨_, _, cs, hb⟩ := own_box (h.own i) e
    exact Box.apart h.box hb (by decide) rfl
  have hbox : Box w1 ub 49 vs.toArray := h.box.grown hgr (Ne.symm hub)
  have ho' : w1.ownsRow B 3 1 v (U i ++ [n]).length ((U i ++ [n]).map iv) := by simpa using ho
  have hu : UsedW (w1.setCell ⟨ub, i, none⟩ v) B ub (vs.set i v) (fun q => if q = i then U i ++ [n] else U q) := by
    refine used_put hbox h.low h.len hi (fun j hj => (h.own j).kept hgr ?_) (fun a b _ _ hab => h.apart a b hab) ho' fun j hj q hq hq2 => ?_
    · rcases hv : (vs.getD j nilV).ownBlock with _ | q
      · exact .inl rfl
      · exact .inr fun e => h.apart j i hj q hv e.symm
    · rcases hat with e | e
      · rw [e] at hq
        exact h.apart i j (Ne.symm hj) q hq hq2
      · rw [e] at hq
        injection hq with hq
        have := (own_box (h.own j) hq2).2.1
        omega
  refine ⟨v, w1, hr, ?_, hbox.free i, f1, hu, f1.trans (UFrame.of_grown (only_cell w1 ub i v) fun q e => ?_), fun B' rb mb k es hR => (hR.used hgr fun q e => ?_).used (only_cell w1 ub i v) fun q e => ?_⟩
  · rw [hbox.cell, List.getElem?_toArray, List.getD_eq_getElem?_getD, List.getElem?_eq_getElem (by rw [h.len]; exact hi)]
    rfl
  · injection e with e
    subst e
    unfold Box at hbox
    exact ⟨h.low, by rw [hbox]; simp [usedObj]⟩
  · obtain ⟨_, _, cs, hb⟩ := own_box (h.own i) e
    exact ⟨_, cs, hb, .inl rfl⟩
  · injection e with e
    subst e
    exact ⟨_, _, hbox, .inr (.inl rfl)⟩

end Go.Proofs.YtpldnjlfmagccaaDoor
