/-
  A map in memory as a list of keys and values: looked up, written, walked.
  Places of votes, and numbers, as keys of maps.
  Votes in memory: their cells, what is loaded, stored and returned; lists of digests cloned.
  A box of votes in memory: what is in it; a vote cloned, a box made, its map.
  (*vote.Box).Add. Written by gen_voadd.py.
-/
import Derived.Test.YtadnnnbdlkjnkaaGreatDoorKA
import Derived.Maps.RangeWalk
import Derived.Maps.OwnSet
import Derived.Maps.Ext
import Derived.Laws.IdiomRangeMap
import Derived.Sort.KeysCollected
import Derived.Test.YtadnnnbdlkjnkaaGreatDoorRiInv
import Derived.Test.YtadnnnbdlkjnkaaGreatDoorRX
import Derived.Test.YtadnnnbdlkjnkaaGreatDoorNB
import Derived.Test.YtadnnnbdlkjnkaaGreatDoorOC
import Derived.Deep.RegionHeld3
namespace Go.Proofs.YtadnnnbdlkjnkaaGreatDoor
open Go.RowKit Go.Maps

/-- A kind of keys. -/
structure MKey (κ : Type) where
  t : TypeId
  enc : κ → Value
  lit : κ → Lit
  keyed : Keyed Tryz.prog t
  of : ∀ x, keyOf Tryz.prog t (enc x) = some (lit x)
  inv : ∀ key kl, keyOf Tryz.prog t key = some kl → ∃ x, key = enc x
  encinj : ∀ x y, enc x = enc y → x = y
section
variable {κ : Type} (K : MKey κ)
set_option maxRecDepth 100000 in
theorem MKey.inj {x y : κ} (h : K.lit x = K.lit y) : x = y := by
  have h1 := K.of x
  have h2 := K.of y
  rw [← h] at h2
  exact K.encinj _ _ (K.keyed.inj h1 h2)
set_option maxRecDepth 100000 in
theorem MKey.key (x : κ) : WideAt.IsKeyLit (K.lit x) := K.keyed.key (K.of x)
set_option maxRecDepth 100000 in
theorem MKey.ne {x y : κ} (h : x ≠ y) : K.lit x ≠ K.lit y := fun e => h (K.inj e)
noncomputable def anyV (v : Value) : Option (DataW Value × List MemPlace) := some (.held v, [])

/-- The map reads as the list. -/
structure MReads (D : DataW Value) (es : List (κ × Value)) : Prop where
  at_ : ∀ e ∈ es, ∀ z, D.atKey (K.lit e.1) z = .held e.2
  has : ∀ kl, Maps.has D kl = true → ∃ e ∈ es, K.lit e.1 = kl
  keys : (es.map Prod.fst).Nodup
variable {K}
set_option maxRecDepth 100000 in
theorem MReads.has_iff {D : DataW Value} {es : List (κ × Value)} (h : MReads K D es) (kl : Lit) : Maps.has D kl = true ↔ ∃ e ∈ es, K.lit e.1 = kl :=
  ⟨h.has kl, fun ⟨e, he, hl⟩ => by rw [← hl]; exact has_true_of_atKey (h.at_ e he)⟩
set_option maxRecDepth 100000 in
theorem MReads.uniq {D : DataW Value} {es : List (κ × Value)} (h : MReads K D es) {x : κ} {u v : Value} (h1 : (x, u) ∈ es) (h2 : (x, v) ∈ es) : u = v := by
  have e1 := h.at_ _ h1 (.held u)
  have e2 := h.at_ _ h2 (.held u)
  rw [e1] at e2
  injection e2

/-- What stands at a key. -/
def lookL [DecidableEq κ] (es : List (κ × Value)) (x : κ) : Option Value := (es.find? fun e => e.1 = x).map Prod.snd
set_option maxRecDepth 100000 in
theorem lookL_mem [DecidableEq κ] {es : List (κ × Value)} {x : κ} {v : Value} (h : lookL es x = some v) : (x, v) ∈ es := by
  unfold lookL at h
  obtain ⟨e, he, rfl⟩ := Option.map_eq_some_iff.1 h
  have h1 := List.find?_some he
  simp only [decide_eq_true_eq] at h1
  rw [← h1]
  exact List.mem_of_find?_eq_some he
set_option maxRecDepth 100000 in
theorem lookL_none [DecidableEq κ] {es : List (κ × Value)} {x : κ} (h : lookL es x = none) : ∀ e ∈ es, e.1 ≠ x := by
  intro e he
  unfold lookL at h
  rw [Option.map_eq_none_iff, List.find?_eq_none] at h
  simpa using h e he
/-- A value is written at a key. -/
def setL [DecidableEq κ] (es : List (κ × Value)) (x : κ) (v : Value) : List (κ × Value) := if x ∈ es.map Prod.fst then es.map (fun e => if e.1 = x then (x, v) else e) else es ++ [(x, v)]
set_option maxRecDepth 100000 in
theorem setL_keys [DecidableEq κ] {es : List (κ × Value)} (x : κ) (v : Value) (h : x ∈ es.map Prod.fst) : (setL es x v).map Prod.fst = es.map Prod.fst := by
  unfold setL
  rw [if_pos h, List.map_map]
  apply List.map_congr_left
  intro e _
  simp only [Function.comp]
  split <;> simp_all
set_option maxRecDepth 100000 in
theorem setL_new [DecidableEq κ] {es : List (κ × Value)} {x : κ} (v : Value) (h : x ∉ es.map Prod.fst) : setL es x v = es ++ [(x, v)] := by
  unfold setL
  rw [if_neg h]
set_option maxRecDepth 100000 in
theorem mem_setL [DecidableEq κ] {es : List (κ × Value)} {x : κ} {v : Value} (e : κ × Value) : e ∈ setL es x v ↔ (e = (x, v) ∨ (e ∈ es ∧ e.1 ≠ x)) := by
  unfold setL
  by_cases h : x ∈ es.map Prod.fst
  · rw [if_pos h, List.mem_map]
    constructor
    · rintro ⟨y, hy, rfl⟩
      by_cases hx : y.1 = x
      · rw [if_pos hx]; exact .inl rfl
      · rw [if_neg hx]; exact .inr ⟨hy, hx⟩
    · rintro (rfl | ⟨h1, h2⟩)
      · obtain ⟨y, hy, hx⟩ := List.mem_map.1 h
        exact ⟨y, hy, by rw [if_pos hx]⟩
      · exact ⟨e, h1, by rw [if_neg h2]⟩
  · rw [if_neg h, List.mem_append, List.mem_singleton]
    constructor
    · rintro (h1 | h1)
      · exact .inr ⟨h1, fun e1 => h (e1 ▸ List.mem_map.2 ⟨e, h1, rfl⟩)⟩
      · exact .inl h1
    · rintro (h1 | h1)
      · exact .inr h1
      · exact .inl h1.1
set_option maxRecDepth 100000 in
theorem setL_nodup [DecidableEq κ] {es : List (κ × Value)} {x : κ} {v : Value} (h : (es.map Prod.fst).Nodup) : ((setL es x v).map Prod.fst).Nodup := by
  by_cases hx : x ∈ es.map Prod.fst
  · rw [setL_keys x v hx]; exact h
  · rw [setL_new v hx, List.map_append, List.nodup_append]
    refine ⟨h, by simp, ?_⟩
    rintro a ha b hb rfl
    simp at hb
    subst hb
    exact hx ha

/-- Block mb is a map that reads as the list. -/
structure MapIs (K : MKey κ) (w : World) (mb : Nat) (es : List (κ × Value)) : Prop where
  own : ∃ (D : DataW Value) (n : Nat), w.ownsMap Tryz.prog K.t anyV mb n D ∧ MReads K D es
variable {w w' : World} {mb : Nat} {es : List (κ × Value)}
set_option maxRecDepth 100000 in
theorem MapIs.keys (h : MapIs K w mb es) : (es.map Prod.fst).Nodup := by
  obtain ⟨D, n, _, h2⟩ := h.own
  exact h2.keys
set_option maxRecDepth 100000 in
theorem MapIs.lt (h : MapIs K w mb es) : mb < w.heap.size := by
  obtain ⟨D, n, h1, _⟩ := h.own
  exact h1.lt
set_option maxRecDepth 100000 in
theorem MapIs.grown (h : MapIs K w mb es) {row : Option Nat} (hg : w.grownBy w' row) (hne : some mb ≠ row) : MapIs K w' mb es := by
  obtain ⟨D, n, h1, h2⟩ := h.own
  exact ⟨D, n, h1.kept hg hne, h2⟩
set_option maxRecDepth 100000 in
theorem MapIs.call (h : MapIs K w mb es) (hb : Below w.heap.size w w') : MapIs K w' mb es := h.grown (only_below hb none) (by simp)
set_option maxRecDepth 100000 in
theorem MapIs.below {B : Nat} (h : MapIs K w mb es) (hb : Below B w w') (hlt : mb < B) : MapIs K w' mb es := by
  obtain ⟨D, n, ⟨es', clock, hh, r1⟩, h2⟩ := h.own
  exact ⟨D, n, ⟨es', clock, (hb.block _ hlt).trans hh, r1⟩, h2⟩
set_option maxRecDepth 100000 in
theorem MapIs.ne (h : MapIs K w mb es) {g : Nat} {t : TypeId} {cs : Array Value} (hb : Box w g t cs) : g ≠ mb := by
  obtain ⟨D, n, ⟨es', clock, h1, _⟩, _⟩ := h.own
  intro e
  subst e
  unfold Box at hb
  rw [hb] at h1
  cases h1
set_option maxRecDepth 100000 in
theorem MapIs.made (K : MKey κ) (w : World) : MapIs K (w.alloc (.map #[] 0)) w.heap.size [] :=
  ⟨.map [], 0, World.ownsMap_made w _ _ _, ⟨fun e he => (by cases he), fun kl hk => (by cases hk), (by simp)⟩⟩

set_option maxRecDepth 100000 in
/-- As many entries as the list has. -/
theorem MReads.size {D : DataW Value} (h : MReads K D es) {n : Nat} (hw : w.ownsMap Tryz.prog K.t anyV mb n D) : Maps.size D = es.length := by
  obtain ⟨ls, rfl, hp, hk⟩ := hw.entries K.keyed
  have h1 : (ls.map Prod.fst).Nodup := by
    unfold List.Nodup
    rw [List.pairwise_map]
    exact hp
  have h2 : (es.map fun e => K.lit e.1).Nodup := by
    have := h.keys
    unfold List.Nodup at this ⊢
    rw [List.pairwise_map] at this ⊢
    exact this.imp fun hne => K.ne hne
  have hm : ∀ kl, kl ∈ ls.map Prod.fst ↔ kl ∈ es.map fun e => K.lit e.1 := fun kl => by
    rw [List.mem_map, List.mem_map]
    constructor
    · rintro ⟨p, hp', rfl⟩
      exact h.has _ (List.any_eq_true.2 ⟨p, hp', WideAt.sameKey_self (hk p hp')⟩)
    · rintro ⟨e, he, rfl⟩
      obtain ⟨p, hp', hs⟩ := List.any_eq_true.1 ((h.has_iff _).2 ⟨e, he, rfl⟩)
      exact ⟨p, hp', WideAt.sameKey_eq hs⟩
  have hperm : (ls.map Prod.fst).Perm (es.map fun e => K.lit e.1) := (List.perm_ext_iff_of_nodup h1 h2).2 hm
  have := hperm.length_eq
  rw [List.length_map, List.length_map] at this
  exact this
set_option maxRecDepth 100000 in
theorem own_tight {D : DataW Value} {n : Nat} (h : w.ownsMap Tryz.prog K.t anyV mb n D) : w.ownsMap Tryz.prog K.t anyV mb (Maps.size D) D := by
  obtain ⟨es', clock, hb, F, hs, rfl⟩ := h
  refine ⟨es', clock, hb, F, ?_, rfl⟩
  show es'.size ≤ List.length _
  rw [length_read]
  exact Nat.le_refl _

set_option maxRecDepth 100000 in
/-- A key is looked up. -/
theorem MapIs.look_ok [DecidableEq κ] (h : MapIs K w mb es) {t e : TypeId} (ht : Tryz.prog.underlying t = some (.map K.t e)) {z : Value} (hz : (zeroValue e).run Tryz.prog w = .ok z w) (x : κ) :
    (Instr.lookup t (.map (some mb)) (K.enc x) true).run Tryz.prog w = .ok (.tuple #[(lookL es x).getD z, .bool (lookL es x).isSome]) w := by
  obtain ⟨D, n, h1, h2⟩ := h.own
  obtain ⟨v, ps, hr, hv⟩ := h1.look_ok K.keyed ht hz (zd := .held z) (zp := []) rfl (K.of x)
  cases e : lookL es x with
  | some u =>
    have h3 := h2.at_ _ (lookL_mem e)
    rw [has_true_of_atKey h3] at hr
    rw [h3] at hv
    obtain rfl : v = u := by
      simp only [anyV, Option.some.injEq, Prod.mk.injEq, DataW.held.injEq] at hv
      exact hv.1
    exact hr
  | none =>
    have h3 : Maps.has D (K.lit x) = false := by
      cases hh : Maps.has D (K.lit x)
      · rfl
      · obtain ⟨y, hy, hl⟩ := h2.has _ hh
        exact absurd (K.inj hl) (lookL_none e y hy)
    rw [h3] at hr
    rw [atKey_of_not_has h3] at hv
    obtain rfl : v = z := by
      simp only [anyV, Option.some.injEq, Prod.mk.injEq, DataW.held.injEq] at hv
      exact hv.1
    exact hr
set_option maxRecDepth 100000 in
theorem MapIs.look [DecidableEq κ] (h : MapIs K w mb es) {t e : TypeId} (ht : Tryz.prog.underlying t = some (.map K.t e)) {z : Value} (hz : (zeroValue e).run Tryz.prog w = .ok z w) (x : κ) :
    (Instr.lookup t (.map (some mb)) (K.enc x) false).run Tryz.prog w = .ok ((lookL es x).getD z) w := by
  obtain ⟨D, n, h1, h2⟩ := h.own
  obtain ⟨v, ps, hr, hv⟩ := h1.lookup K.keyed ht hz (zd := .held z) (zp := []) rfl (K.of x)
  cases e : lookL es x with
  | some u =>
    rw [h2.at_ _ (lookL_mem e)] at hv
    obtain rfl : v = u := by
      simp only [anyV, Option.some.injEq, Prod.mk.injEq, DataW.held.injEq] at hv
      exact hv.1
    exact hr
  | none =>
    have h3 : Maps.has D (K.lit x) = false := by
      cases hh : Maps.has D (K.lit x)
      · rfl
      · obtain ⟨y, hy, hl⟩ := h2.has _ hh
        exact absurd (K.inj hl) (lookL_none e y hy)
    rw [atKey_of_not_has h3] at hv
    obtain rfl : v = z := by
      simp only [anyV, Option.some.injEq, Prod.mk.injEq, DataW.held.injEq] at hv
      exact hv.1
    exact hr
set_option maxRecDepth 100000 in
/-- A value is written at a key. -/
theorem MapIs.put [DecidableEq κ] (h : MapIs K w mb es) {t e : TypeId} (ht : Tryz.prog.underlying t = some (.map K.t e)) (hl : es.length < maxLen) (x : κ) (v : Value) :
    ∃ w', (Instr.mapUpdate t (.map (some mb)) (K.enc x) v).run Tryz.prog w = .ok () w' ∧ MapIs K w' mb (setL es x v) ∧ w.grownBy w' (some mb) := by
  obtain ⟨D, n, h1, h2⟩ := h.own
  have h3 := own_tight h1
  rw [h2.size h1] at h3
  obtain ⟨w', hr, h4, h5⟩ := h3.store K.keyed ht hl (K.of x) (val := v) (d := .held v) (ps := []) rfl
  refine ⟨w', hr, ⟨_, _, h4, ⟨fun e he z => ?_, fun kl hk => ?_, setL_nodup h2.keys⟩⟩, h5.grown⟩
  · rcases (mem_setL e).1 he with rfl | ⟨he, hne⟩
    · exact atKey_put_same h1.isMap (K.key x) _ z
    · rw [atKey_put_other (K.ne hne)]
      exact h2.at_ e he z
  · by_cases e : kl = K.lit x
    · exact ⟨(x, v), (mem_setL _).2 (.inl rfl), e.symm⟩
    · rw [has_put_other e] at hk
      obtain ⟨y, hy, rfl⟩ := h2.has kl hk
      exact ⟨y, (mem_setL _).2 (.inr ⟨hy, fun e2 => e (by rw [e2])⟩), rfl⟩

/-! ### Walked -/
/-- A map that may be nil. -/
def MapOr (K : MKey κ) (w : World) (mv : Option Nat) (es : List (κ × Value)) : Prop :=
  match mv with
  | none => es = []
  | some mb => MapIs K w mb es
set_option maxRecDepth 100000 in
theorem MapOr.grown {mv : Option Nat} (h : MapOr K w mv es) {row : Option Nat} (hg : w.grownBy w' row) (hne : ∀ mb, mv = some mb → some mb ≠ row) : MapOr K w' mv es := by
  cases mv with
  | none => exact h
  | some mb => exact MapIs.grown h hg (hne mb rfl)
set_option maxRecDepth 100000 in
theorem MapOr.call {mv : Option Nat} (h : MapOr K w mv es) (hb : Below w.heap.size w w') : MapOr K w' mv es := h.grown (only_below hb none) (by simp)
set_option maxRecDepth 100000 in
theorem MapOr.keys {mv : Option Nat} (h : MapOr K w mv es) : (es.map Prod.fst).Nodup := by
  cases mv with
  | none =>
    have h' : es = [] := h
    rw [h']
    simp
  | some mb => exact MapIs.keys h
/-- An iterator in block r is under way: these have come. -/
def IterIs (K : MKey κ) (w : World) (mv : Option Nat) (r : Nat) (es done : List (κ × Value)) (cnt : Nat) : Prop :=
  match mv with
  | none => es = [] ∧ done = [] ∧ cnt = 0 ∧ w.heap[r]? = some (.mapIter none 0 #[] 0)
  | some mb => ∃ (D : DataW Value) (n : Nat) (left : Lit → Bool), w.ranges Tryz.prog K.t anyV mb r n D left cnt ∧ MReads K D es ∧ (∀ e ∈ es, left (K.lit e.1) = true ↔ e ∉ done) ∧ done.Nodup ∧ ∀ e ∈ done, e ∈ es
set_option maxRecDepth 100000 in
theorem IterIs.left_eq {mv : Option Nat} {r : Nat} {done : List (κ × Value)} {cnt : Nat} (h : IterIs K w mv r es done cnt) : w.rangeLeft (mv.getD r) r = cnt := by
  cases mv with
  | none =>
    obtain ⟨_, _, rfl, h4⟩ := h
    unfold World.rangeLeft
    rw [Option.getD_none, h4]
  | some mb =>
    obtain ⟨D, n, left, h1, _⟩ := h
    exact h1.left_eq
set_option maxRecDepth 100000 in
theorem IterIs.lt {mv : Option Nat} {r : Nat} {done : List (κ × Value)} {cnt : Nat} (h : IterIs K w mv r es done cnt) : r < w.heap.size := by
  cases mv with
  | none => exact (Array.getElem?_eq_some_iff.1 h.2.2.2).1
  | some mb =>
    obtain ⟨D, n, left, h1, _⟩ := h
    exact h1.lt
set_option maxRecDepth 100000 in
theorem IterIs.sub {mv : Option Nat} {r : Nat} {done : List (κ × Value)} {cnt : Nat} (h : IterIs K w mv r es done cnt) : done.Nodup ∧ ∀ e ∈ done, e ∈ es := by
  cases mv with
  | none =>
    obtain ⟨rfl, rfl, _⟩ := h
    exact ⟨List.nodup_nil, fun e he => (by cases he)⟩
  | some mb =>
    obtain ⟨D, n, left, _, _, _, h4, h5⟩ := h
    exact ⟨h4, h5⟩
set_option maxRecDepth 100000 in
theorem IterIs.grown {mv : Option Nat} {r : Nat} {done : List (κ × Value)} {cnt : Nat} (h : IterIs K w mv r es done cnt) {row : Option Nat} (hg : w.grownBy w' row) (hne : ∀ mb, mv = some mb → some mb ≠ row) (hr : some r ≠ row) : IterIs K w' mv r es done cnt := by
  cases mv with
  | none =>
    obtain ⟨h1, h2, h3, h4⟩ := h
    exact ⟨h1, h2, h3, (hg.block r (Array.getElem?_eq_some_iff.1 h4).1 hr).trans h4⟩
  | some mb =>
    obtain ⟨D, n, left, h1, h2, h3, h4, h5⟩ := h
    exact ⟨D, n, left, h1.kept hg (hne mb rfl) hr, h2, h3, h4, h5⟩
set_option maxRecDepth 100000 in
theorem IterIs.call {mv : Option Nat} {r : Nat} {done : List (κ × Value)} {cnt : Nat} (h : IterIs K w mv r es done cnt) (hb : Below w.heap.size w w') : IterIs K w' mv r es done cnt := h.grown (only_below hb none) (by simp) (by simp)
set_option maxRecDepth 100000 in
theorem IterIs.step {D : DataW Value} {left : Lit → Bool} {done : List (κ × Value)} (h2 : MReads K D es) (h3 : ∀ e ∈ es, left (K.lit e.1) = true ↔ e ∉ done) (h4 : done.Nodup) (h5 : ∀ e ∈ done, e ∈ es)
    {x : κ} {v : Value} (hl : left (K.lit x) = true) (hat : ∀ z, D.atKey (K.lit x) z = .held v) :
    (x, v) ∈ es ∧ (x, v) ∉ done ∧ (∀ e ∈ es, (left (K.lit e.1) && !(K.lit e.1).sameKey (K.lit x)) = true ↔ e ∉ done ++ [(x, v)]) ∧ (done ++ [(x, v)]).Nodup ∧ ∀ e ∈ done ++ [(x, v)], e ∈ es := by
  obtain ⟨⟨y, u⟩, he, hl2⟩ := h2.has _ (has_true_of_atKey hat)
  obtain rfl := K.inj hl2
  have h6 := h2.at_ _ he (.held u)
  rw [hat] at h6
  injection h6 with h6
  subst h6
  have hn := (h3 _ he).1 hl
  refine ⟨he, hn, fun e hE => ?_, ?_, ?_⟩
  · rw [List.mem_append, List.mem_singleton, not_or, ← h3 e hE, Bool.and_eq_true]
    have h7 : (!(K.lit e.1).sameKey (K.lit y)) = true ↔ ¬ e = (y, v) := by
      constructor
      · rintro hs rfl
        rw [WideAt.sameKey_self (K.key y)] at hs
        cases hs
      · intro hne
        rw [sameKey_ne]
        · rfl
        · intro e2
          apply hne
          obtain ⟨a, b⟩ := e
          obtain rfl : a = y := K.inj e2
          rw [h2.uniq hE he]
    rw [h7]
  · rw [List.nodup_append]
    refine ⟨h4, by simp, ?_⟩
    rintro a ha b hb rfl
    rw [List.mem_singleton] at hb
    subst hb
    exact hn ha
  · intro e hE
    rcases List.mem_append.1 hE with hE | hE
    · exact h5 e hE
    · rw [List.mem_singleton.1 hE]; exact he
set_option maxRecDepth 100000 in
theorem IterIs.whole {left : Lit → Bool} {done : List (κ × Value)} (h1 : (es.map Prod.fst).Nodup) (h3 : ∀ e ∈ es, left (K.lit e.1) = true ↔ e ∉ done) (h4 : done.Nodup) (h5 : ∀ e ∈ done, e ∈ es) (hl : ∀ kl, left kl = false) : done.Perm es := by
  have hn : es.Nodup := by
    unfold List.Nodup at h1 ⊢
    rw [List.pairwise_map] at h1
    exact h1.imp fun {a b} hne e => hne (by rw [e])
  refine (List.perm_ext_iff_of_nodup h4 hn).2 fun e => ⟨h5 e, fun he => ?_⟩
  by_cases hd : e ∈ done
  · exact hd
  · have := (h3 e he).2 hd
    rw [hl] at this
    cases this
end

section
variable {κ : Type} (K : MKey κ) (w : World) {ops : Array Oper} {rest : List Oper} {o : Oper} {a : Act} {Q : Exit → Act → World → Prop}
set_option maxRecDepth 100000 in
/-- 'range m'. -/
theorem wpList_range_is (hg : o.guard = none) (m : Operand) (t : TypeId) (hop : o.op = Op.range t m) (e : TypeId) (ht : Tryz.prog.underlying t = some (.map K.t e)) (mv : Option Nat) (es : List (κ × Value))
    (hm : a.eval m = .map mv) (h : MapOr K w mv es)
    (hK : ∀ w' cnt, IterIs K w' mv w.heap.size es [] cnt → w.grownBy w' none → w'.heap.size = w.heap.size + 1 → wpList Tryz.prog ops Q rest (a.put o.dst (.pointer (some ⟨w.heap.size, 0, none⟩))) w') :
    wpList Tryz.prog ops Q (o :: rest) a w := by
  cases mv with
  | none =>
    obtain rfl : es = [] := h
    refine wpList_plain hg fun K' hK' => ?_
    have hrun := run_range_nilMap (P := Tryz.prog) w t K.t e ht
    unfold Oper.wp
    simp [execOp, hop, hm, hrun, Result.andThen]
    exact hK' _ _ (hK _ 0 ⟨rfl, rfl, rfl, (MapKept.heap_alloc w _).1⟩ (World.grownBy_alloc w _ none) (by simp))
  | some mb =>
    obtain ⟨D, n, h1, h2⟩ := h.own
    refine wpList_range_own w hg m t hop K.t e K.keyed ht anyV mb n D hm h1 fun w' h3 h4 h5 => hK w' _ ⟨D, n, _, h3, h2, fun e he => ?_, List.nodup_nil, fun e he => (by cases he)⟩ h4 h5
    rw [h2.has_iff]
    exact ⟨fun _ => by simp, fun _ => ⟨e, he, rfl⟩⟩
set_option maxRecDepth 100000 in
/-- The step. -/
theorem wpList_next_is (hg : o.guard = none) (it : Operand) (hop : o.op = Op.next it false) (mv : Option Nat) (r : Nat) (es done : List (κ × Value)) (cnt : Nat)
    (hit : a.eval it = .pointer (some ⟨r, 0, none⟩)) (h : IterIs K w mv r es done cnt)
    (hDone : done.Perm es → wpList Tryz.prog ops Q rest (a.put o.dst (.tuple #[.bool false])) w)
    (hMore : ∀ (x : κ) (v : Value) (w' : World) (cnt' : Nat), (x, v) ∈ es → (x, v) ∉ done → IterIs K w' mv r es (done ++ [(x, v)]) cnt' → cnt' < cnt →
      w.grownBy w' (some r) → w'.heap.size = w.heap.size → (Instr.entry (.pointer (some ⟨r, 0, none⟩))).run Tryz.prog w' = .ok (.tuple #[K.enc x, v]) w' → wpList Tryz.prog ops Q rest (a.put o.dst (.tuple #[.bool true, K.enc x, v])) w') :
    wpList Tryz.prog ops Q (o :: rest) a w := by
  cases mv with
  | none =>
    obtain ⟨rfl, rfl, rfl, h4⟩ := h
    refine wpList_plain hg fun K' hK' => ?_
    unfold Oper.wp
    have hrun : (Instr.next (.pointer (some ⟨r, 0, none⟩)) false o.type).run Tryz.prog w = .ok (.tuple #[.bool false]) w := by
      simp only [Instr.next, getObj, Sem.run_bind, Sem.run, h4, Result.andThen]
      rfl
    simp [execOp, hop, hit, hrun, Result.andThen]
    exact hK' _ _ (hDone (List.Perm.refl _))
  | some mb =>
    obtain ⟨D, n, left, h1, h2, h3, h4, h5⟩ := h
    refine wpList_next_ranges w hg it hop K.t K.keyed anyV K.enc id K.inv (fun v _ _ => ⟨v, rfl⟩) mb r n D left cnt hit h1 (fun _ hl => hDone (IterIs.whole h2.keys h3 h4 h5 hl)) fun x v kl y w' cnt' hkey hlk hv hat hrg hlt hgr hsz hen => ?_
    have e1 := K.of x
    rw [hkey] at e1
    injection e1 with e1
    subst e1
    have e2 : y.1 = .held v := by
      simp only [anyV, Option.some.injEq, id_eq] at hv
      rw [← hv]
    obtain ⟨s1, s2, s3, s4, s5⟩ := IterIs.step h2 h3 h4 h5 hlk (fun z => (hat z).trans e2)
    exact hMore x v w' cnt' s1 s2 ⟨D, n, _, hrg, h2, s3, s4, s5⟩ hlt hgr hsz hen
end
end Go.Proofs.YtadnnnbdlkjnkaaGreatDoor

namespace Go.Proofs.YtadnnnbdlkjnkaaGreatDoor
open Go.RowKit Go.Maps

set_option maxRecDepth 100000 in
theorem int_lits13 (d : Nat) (h : Int) (hw : (Lit.int .i64 h).wf = true) : ∃ L, Tryz.prog.keyLits (d + 1) 3 [.int .i64 h] = some L := by
  unfold Program.keyLits
  rw [Tryz.underlying3]
  simp [hw]
set_option maxRecDepth 100000 in
theorem int_inv13 {d : Nat} {v : Value} {L : List Lit} (h : Tryz.prog.keyLits (d + 1) 3 [v] = some L) : ∃ k : Int, v = .int .i64 k ∧ (Lit.int .i64 k).wf = true := by
  unfold Program.keyLits at h
  rw [Tryz.underlying3] at h
  cases v <;> simp at h
  rename_i q k
  obtain ⟨⟨rfl, hw⟩, _⟩ := h
  exact ⟨k, rfl, hw⟩

/-! ### Numbers -/
abbrev ZX := {i : Int // (Lit.int .i64 i).wf = true}
set_option maxRecDepth 100000 in
theorem zkeyed13 : Keyed Tryz.prog 3 := int_keyed Tryz.underlying3
noncomputable def zKey : MKey ZX where
  t := 3
  enc := fun i => .int .i64 i.1
  lit := fun i => .int .i64 i.1
  keyed := zkeyed13
  of := fun i => keyOf_int_mk Tryz.underlying3 i.2
  inv := fun key kl h => by
    obtain ⟨x, rfl, _, hw⟩ := Maps.keyOf_int_inv Tryz.underlying3 h
    exact ⟨⟨x, hw⟩, rfl⟩
  encinj := fun x y h => by
    injection h with _ h
    exact Subtype.ext h

/-! ### Places -/
set_option maxRecDepth 100000 in
theorem place_row : (69 : TypeId) < Tryz.prog.types.size := of_decide_eq_true (by kernel_rfl)
set_option maxRecDepth 100000 in
theorem place_struct : Tryz.prog.underlying 69 = some (.struct (Tryz.prog.fieldsOf 69)) := by kernel_rfl
set_option maxRecDepth 100000 in
theorem place_wide : (match Tryz.prog.underlying 69 with | some (.array _ _) | some (.struct _) => true | _ => false) = true := by
  rw [place_struct]
set_option maxRecDepth 100000 in
theorem pkeyed13 : Keyed Tryz.prog 69 := Keyed.of_law (deep_law_laid key_laidOut (m := 3) (by omega) place_row (by kernel_rfl) place_wide)
set_option maxRecDepth 100000 in
theorem place_cells : Tryz.prog.cellsOf 69 = 3 := by kernel_rfl
abbrev plV (k r f : Int) : Array Value := #[.int .i64 k, .int .i64 r, .int .i64 f]
abbrev PlX := {p : Int × Int × Int // (Lit.int .i64 p.1).wf = true ∧ (Lit.int .i64 p.2.1).wf = true ∧ (Lit.int .i64 p.2.2).wf = true}
set_option maxRecDepth 100000 in
theorem place_lits (d : Nat) (k r f : Int) (h1 : (Lit.int .i64 k).wf = true) (h2 : (Lit.int .i64 r).wf = true) (h3 : (Lit.int .i64 f).wf = true) : ∃ L, Tryz.prog.keyLits (d + 2) 69 (plV k r f).toList = some L := by
  have hfs : (Tryz.prog.fieldsOf 69).toList.map (fun f => (f.type, f.offset)) = [(3, 0), (3, 1), (3, 2)] := by kernel_rfl
  have hall : (Tryz.prog.fieldsOf 69).all (·.name != "_") = true := by kernel_rfl
  unfold Program.keyLits
  rw [place_struct]
  have hl : (plV k r f).toList.length = 3 := rfl
  simp only [place_cells, hl, hall, and_self, if_true]
  obtain ⟨ys, hm⟩ := mapM_some (fun g : Field => Tryz.prog.keyLits (d + 1) g.type (((plV k r f).toList.drop g.offset).take (Tryz.prog.cellsOf g.type))) (Tryz.prog.fieldsOf 69).toList (fun g hg => by
    have hm : (g.type, g.offset) ∈ (Tryz.prog.fieldsOf 69).toList.map (fun f => (f.type, f.offset)) := List.mem_map.2 ⟨g, hg, rfl⟩
    rw [hfs] at hm
    simp only [List.mem_cons, Prod.mk.injEq, List.not_mem_nil, or_false] at hm
    rcases hm with ⟨e1, e2⟩ | ⟨e1, e2⟩ | ⟨e1, e2⟩
    · rw [e1, e2, int_cells]
      exact int_lits13 d k h1
    · rw [e1, e2, int_cells]
      exact int_lits13 d r h2
    · rw [e1, e2, int_cells]
      exact int_lits13 d f h3)
  rw [hm]
  exact ⟨_, rfl⟩
set_option maxRecDepth 100000 in
theorem keyOf_place (k r f : Int) (h1 : (Lit.int .i64 k).wf = true) (h2 : (Lit.int .i64 r).wf = true) (h3 : (Lit.int .i64 f).wf = true) : ∃ l, keyOf Tryz.prog 69 (.agg (plV k r f)) = some l := by
  obtain ⟨d, hd⟩ : ∃ d, Tryz.prog.types.size + 1 = d + 2 := ⟨Tryz.prog.types.size - 1, by
    have h2 : 2 ≤ Tryz.prog.types.size := of_decide_eq_true (by kernel_rfl)
    omega⟩
  obtain ⟨L, hL⟩ := place_lits d k r f h1 h2 h3
  have hf : (Value.agg (plV k r f)).formed Tryz.prog 69 = true := by
    unfold Value.formed
    rw [place_struct]
    simp only [place_cells]
    rfl
  have hk : Tryz.prog.keyType 69 = true := by kernel_rfl
  unfold keyOf
  rw [place_struct]
  simp only [hk, hf, Bool.and_self, if_true, hd]
  change ∃ l, Option.map _ (Tryz.prog.keyLits (d + 2) 69 (plV k r f).toList) = some l
  rw [hL]
  exact ⟨_, rfl⟩
noncomputable def plit (p : PlX) : Lit := (keyOf Tryz.prog 69 (.agg (plV p.1.1 p.1.2.1 p.1.2.2))).getD .nil
set_option maxRecDepth 100000 in
theorem plit_is (p : PlX) : keyOf Tryz.prog 69 (.agg (plV p.1.1 p.1.2.1 p.1.2.2)) = some (plit p) := by
  obtain ⟨l, hl⟩ := keyOf_place p.1.1 p.1.2.1 p.1.2.2 p.2.1 p.2.2.1 p.2.2.2
  unfold plit
  rw [hl]
  rfl
set_option maxRecDepth 100000 in
theorem place_inv {v : Value} {l : Lit} (h : keyOf Tryz.prog 69 v = some l) : ∃ p : PlX, v = .agg (plV p.1.1 p.1.2.1 p.1.2.2) := by
  obtain ⟨d, hd⟩ : ∃ d, Tryz.prog.types.size + 1 = d + 2 := ⟨Tryz.prog.types.size - 1, by
    have h2 : 2 ≤ Tryz.prog.types.size := of_decide_eq_true (by kernel_rfl)
    omega⟩
  obtain ⟨xs, L, rfl, h1, _⟩ := keyOf_top place_wide h
  rw [hd] at h1
  unfold Program.keyLits at h1
  rw [place_struct] at h1
  simp only [place_cells] at h1
  have hfs : (Tryz.prog.fieldsOf 69).toList.map (fun f => (f.type, f.offset)) = [(3, 0), (3, 1), (3, 2)] := by kernel_rfl
  generalize (Tryz.prog.fieldsOf 69) = fs at hfs h1
  by_cases hl : xs.toList.length = 3 ∧ fs.all (·.name != "_") = true
  · rw [if_pos hl] at h1
    cases hm : fs.toList.mapM fun f => Tryz.prog.keyLits (d + 1) f.type ((xs.toList.drop f.offset).take (Tryz.prog.cellsOf f.type)) with
    | none => rw [hm] at h1; cases h1
    | some ys =>
      have hg := mapM_get _ _ _ hm
      have at_ : ∀ o, (3, o) ∈ [(3, 0), (3, 1), (3, 2)] → ∃ y, Tryz.prog.keyLits (d + 1) 3 ((xs.toList.drop o).take 1) = some y := fun o hto => by
        rw [← hfs] at hto
        obtain ⟨f, hf, he⟩ := List.mem_map.1 hto
        obtain ⟨y, hy⟩ := hg f hf
        simp only [Prod.mk.injEq] at he
        rw [he.1, he.2, int_cells] at hy
        exact ⟨y, hy⟩
      obtain ⟨y0, h0⟩ := at_ 0 (by simp)
      obtain ⟨y1, h2⟩ := at_ 1 (by simp)
      obtain ⟨y2, h3⟩ := at_ 2 (by simp)
      have hl3 := hl.1
      obtain ⟨a, b, c, e⟩ : ∃ a b c, xs.toList = [a, b, c] := by
        match xs.toList, hl3 with
        | [a, b, c], _ => exact ⟨a, b, c, rfl⟩
      rw [e] at h0 h2 h3
      obtain ⟨k, rfl, w1⟩ := int_inv13 h0
      obtain ⟨r, rfl, w2⟩ := int_inv13 h2
      obtain ⟨f, rfl, w3⟩ := int_inv13 h3
      refine ⟨⟨(k, r, f), w1, w2, w3⟩, ?_⟩
      congr 1
      apply Array.ext'
      rw [e]
  · rw [if_neg hl] at h1
    cases h1
noncomputable def plKey : MKey PlX where
  t := 69
  enc := fun p => .agg (plV p.1.1 p.1.2.1 p.1.2.2)
  lit := plit
  keyed := pkeyed13
  of := plit_is
  inv := fun key kl h => place_inv h
  encinj := fun x y h => by
    simp only [Value.agg.injEq] at h
    have h' := congrArg Array.toList h
    simp only [List.cons.injEq, Value.int.injEq, true_and, and_true] at h'
    exact Subtype.ext (Prod.ext h'.1 (Prod.ext h'.2.1 h'.2.2))
set_option maxRecDepth 100000 in
theorem pl_built (k r f : Int) : Tryz.prog.built 69 [(0, .int .i64 k), (1, .int .i64 r), (2, .int .i64 f)] = some (plV k r f) := by kernel_rfl
end Go.Proofs.YtadnnnbdlkjnkaaGreatDoor

namespace Go.Proofs.YtadnnnbdlkjnkaaGreatDoor
open Go.RowKit Go.Maps

/-- A vote. -/
structure VtX where
  kind : Int
  epoch : Int
  height : Int
  round : Int
  dig : List UInt8
  frm : Int
  leaf : Int
  opn : List (List UInt8)
  sht : List (List UInt8)
  pth : List (List UInt8)
  len : dig.length = 32
/-- A vote as memory has it: where its lists lie. -/
structure VtM where
  x : VtX
  A : Option Addr
  a : Nat
  B : Option Addr
  b : Nat
  C : Option Addr
  c : Nat
def vtL (k e h r : Int) (d : List UInt8) (f n : Int) (u v p : Value) : List Value := .int .i64 k :: .int .i64 e :: .int .i64 h :: .int .i64 r :: (d.map bv ++ [.int .i64 f, .int .i64 n, u, v, p])
set_option maxRecDepth 100000 in
theorem vtL_dig (k e h r : Int) (d : List UInt8) (f n : Int) (u v p : Value) : vtL k e h r d f n u v p = [.int .i64 k, .int .i64 e, .int .i64 h, .int .i64 r] ++ (d.map bv ++ [.int .i64 f, .int .i64 n, u, v, p]) := rfl
set_option maxRecDepth 100000 in
theorem vtL_tail (k e h r : Int) (d : List UInt8) (f n : Int) (u v p : Value) : vtL k e h r d f n u v p = (.int .i64 k :: .int .i64 e :: .int .i64 h :: .int .i64 r :: d.map bv) ++ [.int .i64 f, .int .i64 n, u, v, p] := rfl
section
variable {k e h r f n : Int} {d : List UInt8} {u v p : Value}
set_option maxRecDepth 100000 in
theorem vtL_len (hd : d.length = 32) (k e h r f n : Int) (u v p : Value) : (vtL k e h r d f n u v p).length = 41 := by
  unfold vtL
  simp [hd]
set_option maxRecDepth 100000 in
theorem vtL_one (k e h r f n : Int) (d : List UInt8) {u v p : Value} (hu : u.oneCell' = true) (hv : v.oneCell' = true) (hp : p.oneCell' = true) : ∀ z ∈ vtL k e h r d f n u v p, z.oneCell' = true := by
  intro z hz
  unfold vtL at hz
  rcases List.mem_cons.1 hz with rfl | hz
  · rfl
  rcases List.mem_cons.1 hz with rfl | hz
  · rfl
  rcases List.mem_cons.1 hz with rfl | hz
  · rfl
  rcases List.mem_cons.1 hz with rfl | hz
  · rfl
  rcases List.mem_append.1 hz with hz | hz
  · exact bv_one _ z hz
  simp only [List.mem_cons, List.not_mem_nil, or_false] at hz
  rcases hz with rfl | rfl | rfl | rfl | rfl
  · rfl
  · rfl
  · exact hu
  · exact hv
  · exact hp
set_option maxRecDepth 100000 in
theorem vtL_size (hd : d.length = 32) (k e h r f n : Int) (u v p : Value) : (Tryz.prog.info? 37).map (·.size) = some (vtL k e h r d f n u v p).length := by
  rw [vtL_len hd]
  kernel_rfl
end
def VtM.cells (m : VtM) : List Value := vtL m.x.kind m.x.epoch m.x.height m.x.round m.x.dig m.x.frm m.x.leaf (.slice m.A m.x.opn.length m.a) (.slice m.B m.x.sht.length m.b) (.slice m.C m.x.pth.length m.c)
set_option maxRecDepth 100000 in
theorem VtM.cells_len (m : VtM) : m.cells.length = 41 := vtL_len m.x.len _ _ _ _ _ _ _ _ _
set_option maxRecDepth 100000 in
theorem VtM.cells_one (m : VtM) : ∀ v ∈ m.cells, v.oneCell' = true := vtL_one _ _ _ _ _ _ _ rfl rfl rfl
set_option maxRecDepth 100000 in
theorem VtM.size (m : VtM) : (Tryz.prog.info? 37).map (·.size) = some m.cells.length := vtL_size m.x.len _ _ _ _ _ _ _ _ _
def zvtV : Array Value := #[.int .i64 0, .int .i64 0, .int .i64 0, .int .i64 0, .int .u8 0, .int .u8 0, .int .u8 0, .int .u8 0, .int .u8 0, .int .u8 0, .int .u8 0, .int .u8 0, .int .u8 0, .int .u8 0, .int .u8 0, .int .u8 0, .int .u8 0, .int .u8 0, .int .u8 0, .int .u8 0, .int .u8 0, .int .u8 0, .int .u8 0, .int .u8 0, .int .u8 0, .int .u8 0, .int .u8 0, .int .u8 0, .int .u8 0, .int .u8 0, .int .u8 0, .int .u8 0, .int .u8 0, .int .u8 0, .int .u8 0, .int .u8 0, .int .i64 0, .int .i64 0, .slice none 0 0, .slice none 0 0, .slice none 0 0]
def zvt : VtM := ⟨⟨0, 0, 0, 0, zeros, 0, 0, [], [], [], rfl⟩, none, 0, none, 0, none, 0⟩
set_option maxRecDepth 100000 in
theorem zvt_cells : zvt.cells.toArray = zvtV := rfl
set_option maxRecDepth 100000 in
theorem zvtV_size : zvtV.size = 41 := rfl
set_option maxRecDepth 100000 in
theorem zero_vt (w : World) : (zeroValue 37).run Tryz.prog w = .ok (.agg zvtV) w := by kernel_rfl

noncomputable def ldVt (v : Value) : Sem Value := Instr.loadAt 37 v
set_option maxRecDepth 100000 in
theorem ldVt_def (v : Value) : Instr.loadAt 37 v = ldVt v := rfl
noncomputable def stVt (p v : Value) : Sem Unit := Instr.storeAt 37 p v
set_option maxRecDepth 100000 in
theorem stVt_def (p v : Value) : Instr.storeAt 37 p v = stVt p v := rfl
noncomputable def ldPl (v : Value) : Sem Value := Instr.loadAt 69 v
set_option maxRecDepth 100000 in
theorem ldPl_def (v : Value) : Instr.loadAt 69 v = ldPl v := rfl
noncomputable def stPl (p v : Value) : Sem Unit := Instr.storeAt 69 p v
set_option maxRecDepth 100000 in
theorem stPl_def (p v : Value) : Instr.storeAt 69 p v = stPl p v := rfl

/-! ### What a vote's cells are -/
section
variable {w : World} {g o : Nat} {t : TypeId} {k e h r f n : Int} {d : List UInt8} {u v p : Value}
set_option maxRecDepth 100000 in
theorem Box.vt_0 (hb : Box w g t (vtL k e h r d f n u v p).toArray) : w.cell? ⟨g, 0, none⟩ = some (.int .i64 k) := by rw [hb.cell, List.getElem?_toArray]; rfl
set_option maxRecDepth 100000 in
theorem Box.vt_1 (hb : Box w g t (vtL k e h r d f n u v p).toArray) : w.cell? ⟨g, 1, none⟩ = some (.int .i64 e) := by rw [hb.cell, List.getElem?_toArray]; rfl
set_option maxRecDepth 100000 in
theorem Box.vt_2 (hb : Box w g t (vtL k e h r d f n u v p).toArray) : w.cell? ⟨g, 2, none⟩ = some (.int .i64 h) := by rw [hb.cell, List.getElem?_toArray]; rfl
set_option maxRecDepth 100000 in
theorem Box.vt_3 (hb : Box w g t (vtL k e h r d f n u v p).toArray) : w.cell? ⟨g, 3, none⟩ = some (.int .i64 r) := by rw [hb.cell, List.getElem?_toArray]; rfl
set_option maxRecDepth 100000 in
theorem Box.vt_dig (hb : Box w g t (vtL k e h r d f n u v p).toArray) : w.rangeAt g 4 (d.map bv) := Box.range_mid (pre := [.int .i64 k, .int .i64 e, .int .i64 h, .int .i64 r]) (post := [.int .i64 f, .int .i64 n, u, v, p]) hb rfl
set_option maxRecDepth 100000 in
theorem Box.vt_tail (hd : d.length = 32) (hb : Box w g t (vtL k e h r d f n u v p).toArray) (j : Nat) : w.cell? ⟨g, 36 + j, none⟩ = [.int .i64 f, .int .i64 n, u, v, p][j]? := by
  rw [hb.cell, List.getElem?_toArray, vtL_tail, List.getElem?_append_right (by simp [hd])]
  congr 1
  simp [hd]
set_option maxRecDepth 100000 in
theorem Box.vt_36 (hd : d.length = 32) (hb : Box w g t (vtL k e h r d f n u v p).toArray) : w.cell? ⟨g, 36, none⟩ = some (.int .i64 f) := hb.vt_tail hd 0
set_option maxRecDepth 100000 in
theorem Box.vt_37 (hd : d.length = 32) (hb : Box w g t (vtL k e h r d f n u v p).toArray) : w.cell? ⟨g, 37, none⟩ = some (.int .i64 n) := hb.vt_tail hd 1
set_option maxRecDepth 100000 in
theorem Box.vt_38 (hd : d.length = 32) (hb : Box w g t (vtL k e h r d f n u v p).toArray) : w.cell? ⟨g, 38, none⟩ = some u := hb.vt_tail hd 2
set_option maxRecDepth 100000 in
theorem Box.vt_39 (hd : d.length = 32) (hb : Box w g t (vtL k e h r d f n u v p).toArray) : w.cell? ⟨g, 39, none⟩ = some v := hb.vt_tail hd 3
set_option maxRecDepth 100000 in
theorem Box.vt_40 (hd : d.length = 32) (hb : Box w g t (vtL k e h r d f n u v p).toArray) : w.cell? ⟨g, 40, none⟩ = some p := hb.vt_tail hd 4
set_option maxRecDepth 100000 in
theorem Box.vt_put38 (hd : d.length = 32) (hb : Box w g t (vtL k e h r d f n u v p).toArray) (z : Value) : Box (w.setCell ⟨g, 38, none⟩ z) g t (vtL k e h r d f n z v p).toArray := by
  have e1 : ∀ u, vtL k e h r d f n u v p = (.int .i64 k :: .int .i64 e :: .int .i64 h :: .int .i64 r :: (d.map bv ++ [.int .i64 f, .int .i64 n])) ++ (u :: [v, p]) := fun u => by unfold vtL; simp
  rw [e1] at hb ⊢
  exact Box.put_in hb (by simp [hd]) _
set_option maxRecDepth 100000 in
theorem Box.vt_put39 (hd : d.length = 32) (hb : Box w g t (vtL k e h r d f n u v p).toArray) (z : Value) : Box (w.setCell ⟨g, 39, none⟩ z) g t (vtL k e h r d f n u z p).toArray := by
  have e1 : ∀ v, vtL k e h r d f n u v p = (.int .i64 k :: .int .i64 e :: .int .i64 h :: .int .i64 r :: (d.map bv ++ [.int .i64 f, .int .i64 n, u])) ++ (v :: [p]) := fun u => by unfold vtL; simp
  rw [e1] at hb ⊢
  exact Box.put_in hb (by simp [hd]) _
set_option maxRecDepth 100000 in
theorem Box.vt_put40 (hd : d.length = 32) (hb : Box w g t (vtL k e h r d f n u v p).toArray) (z : Value) : Box (w.setCell ⟨g, 40, none⟩ z) g t (vtL k e h r d f n u v z).toArray := by
  have e1 : ∀ p, vtL k e h r d f n u v p = (.int .i64 k :: .int .i64 e :: .int .i64 h :: .int .i64 r :: (d.map bv ++ [.int .i64 f, .int .i64 n, u, v])) ++ (p :: []) := fun u => by unfold vtL; simp
  rw [e1] at hb ⊢
  exact Box.put_in hb (by simp [hd]) _
set_option maxRecDepth 100000 in
theorem range_vt (hd : d.length = 32) (hr : w.rangeAt g o (vtL k e h r d f n u v p)) : (ldVt (.pointer (some ⟨g, o, none⟩))).run Tryz.prog w = .ok (.agg (vtL k e h r d f n u v p).toArray) w :=
  run_loadAt_mid (P := Tryz.prog) w g o 37 (vtL k e h r d f n u v p) _ hr Tryz.underlying37 rfl (vtL_size hd k e h r f n u v p)
set_option maxRecDepth 100000 in
theorem Box.ld_vtl (hd : d.length = 32) (hb : Box w g t (vtL k e h r d f n u v p).toArray) : (ldVt (.pointer (some ⟨g, 0, none⟩))).run Tryz.prog w = .ok (.agg (vtL k e h r d f n u v p).toArray) w := range_vt hd hb.range
set_option maxRecDepth 100000 in
theorem Box.ld_vt {m : VtM} (hb : Box w g t m.cells.toArray) : (ldVt (.pointer (some ⟨g, 0, none⟩))).run Tryz.prog w = .ok (.agg m.cells.toArray) w := Box.ld_vtl m.x.len hb
set_option maxRecDepth 100000 in
theorem Box.st_vt {cs : Array Value} (hb : Box w g t cs) (hc : cs.size = 41) (m : VtM) :
    ∃ w', (stVt (.pointer (some ⟨g, 0, none⟩)) (.agg m.cells.toArray)).run Tryz.prog w = .ok () w' ∧ Box w' g t m.cells.toArray ∧ w.grownBy w' (some g) := by
  refine ⟨w.setCells g 0 m.cells, ?_, hb.cells_all m.cells.toArray (by rw [List.size_toArray, m.cells_len, hc]), only_cells (g := g) _ 0 _⟩
  exact run_storeAt_mid (P := Tryz.prog) _ g 0 37 m.cells.toArray (fun j hj => by
    rw [List.size_toArray, m.cells_len] at hj
    rw [hb.cell, hb.free, Array.getElem?_eq_getElem (by omega)]
    exact ⟨rfl, rfl⟩) (by rw [List.size_toArray]; exact m.size) (by have := all_oneCell_toArray m.cells_one; simpa using this)
set_option maxRecDepth 100000 in
theorem laid_vt (w : World) (m : VtM) : ∃ w', (stVt (.pointer (some ⟨w.heap.size, 0, none⟩)) (.agg m.cells.toArray)).run Tryz.prog (w.alloc (.cells zvtV 37)) = .ok () w' ∧ Box w' w.heap.size 37 m.cells.toArray ∧ Below w.heap.size w w' := by
  obtain ⟨w', h1, h2, h3⟩ := (Box.made w 37 zvtV).st_vt zvtV_size m
  exact ⟨w', h1, h2, ((Below.refl _ _).alloc (Nat.le_refl _) _).trans (below_only h3 (Nat.le_refl _) (by simp))⟩
set_option maxRecDepth 100000 in
theorem pl_size (k r f : Int) : (Tryz.prog.info? 69).map (·.size) = some (plV k r f).size := by
  show _ = some 3
  kernel_rfl
set_option maxRecDepth 100000 in
theorem pl_list (k r f : Int) : (Tryz.prog.info? 69).map (·.size) = some (plV k r f).toList.length := by
  show _ = some 3
  kernel_rfl
set_option maxRecDepth 100000 in
theorem pl_one (k r f : Int) : ∀ v ∈ (plV k r f).toList, v.oneCell' = true := by
  intro v hv
  simp only [List.mem_cons, List.not_mem_nil, or_false] at hv
  rcases hv with rfl | rfl | rfl <;> rfl
set_option maxRecDepth 100000 in
theorem Box.ld_pl {k r f : Int} (hb : Box w g t (plV k r f)) : (ldPl (.pointer (some ⟨g, 0, none⟩))).run Tryz.prog w = .ok (.agg (plV k r f)) w :=
  run_loadAt_mid (P := Tryz.prog) w g 0 69 (plV k r f).toList _ hb.range Tryz.underlying69 rfl (pl_list k r f)
set_option maxRecDepth 100000 in
theorem laid_pl (w : World) (k r f : Int) : ∃ w', (stPl (.pointer (some ⟨w.heap.size, 0, none⟩)) (.agg (plV k r f))).run Tryz.prog (w.alloc (.cells (plV 0 0 0) 69)) = .ok () w' ∧ Box w' w.heap.size 69 (plV k r f) ∧ Below w.heap.size w w' := by
  have hb := Box.made w 69 (plV 0 0 0)
  have hg := only_cells (g := w.heap.size) (plV k r f).toList 0 (w.alloc (.cells (plV 0 0 0) 69))
  refine ⟨_, run_storeAt_mid (P := Tryz.prog) _ w.heap.size 0 69 (plV k r f) (fun j hj => by
    have hj3 : j < 3 := hj
    rw [hb.cell, hb.free, Array.getElem?_eq_getElem (by exact (by omega : 0 + j < 3))]
    exact ⟨rfl, rfl⟩) (pl_size k r f) (by have := all_oneCell_toArray (pl_one k r f); simpa using this), hb.cells_all (plV k r f) rfl, ((Below.refl _ _).alloc (Nat.le_refl _) _).trans (below_only hg (Nat.le_refl _) (by simp))⟩
end
set_option maxRecDepth 100000 in
theorem ret_vt {fn : Func} {q : Tmp} (hf : fn.results = #[.cell q 37]) {a : Act} {w : World} {g : Nat} (hq : a.tmps.getD q undef = .pointer (some ⟨g, 0, none⟩)) (hdf : a.defers = []) {t : TypeId} {m : VtM} (hb : Box w g t m.cells.toArray)
    {R : Ending → World → Prop} (hR : R (.returned (.agg m.cells.toArray)) w) : bodyPost Tryz.prog fn R .ret a w :=
  bodyPost_ret (results_cell_row hf _ w g t _ (0, 0) _ hq hb Tryz.underlying37 rfl (by rw [List.size_toArray]; exact m.size)) hdf hR

noncomputable def VtK : EK VtM where
  e := 37
  sl := 22
  k := 41
  bys := 152
  z := .agg zvtV
  enc := VtM.cells
  hk := by decide
  und := Tryz.underlying22
  els := by kernel_rfl
  info := by kernel_rfl
  hzs := rfl
  zone := zvt.cells_one
  len := VtM.cells_len
  one := VtM.cells_one
  hby := by decide

/-- A vote whose lists are seen. -/
structure VSee (w : World) (m : VtM) : Prop where
  opn : Digs w w.heap.size m.A m.x.opn
  sht : Digs w w.heap.size m.B m.x.sht
  pth : Digs w w.heap.size m.C m.x.pth
set_option maxRecDepth 100000 in
theorem VSee.call {w w' : World} {m : VtM} (h : VSee w m) (hb : Below w.heap.size w w') : VSee w' m := ⟨h.opn.far hb, h.sht.far hb, h.pth.far hb⟩
/-- A vote of few digests. -/
structure VFew (x : VtX) : Prop where
  opn : x.opn.length ≤ 200
  sht : x.sht.length ≤ 200
  pth : x.pth.length ≤ 200

/-- Digests that lie in a block of their own, from B on. -/
def DFresh (B : Nat) (A : Option Addr) (ds : List (List UInt8)) : Prop := ds = [] ∨ ∃ g, A = some ⟨g, 0, none⟩ ∧ B ≤ g
set_option maxRecDepth 100000 in
theorem Digs.fresh_aside {w w' : World} {B r : Nat} {A : Option Addr} {ds : List (List UInt8)} (h : Digs w w.heap.size A ds) (hf : DFresh B A ds) (hg : w.grownBy w' (some r)) (hr : r < B) : Digs w' w'.heap.size A ds := by
  refine ⟨h.1, ?_⟩
  rcases hf with rfl | ⟨g, rfl, hB⟩
  · exact .inl rfl
  · rcases h.2 with h0 | ⟨g', o, e, hlt, hc⟩
    · exact .inl h0
    · injection e with e
      injection e with e1 e2
      subst e1
      subst e2
      exact .inr ⟨g, 0, rfl, Nat.lt_of_lt_of_le hlt hg.size, fun j u hu => hg.cell (hc j u hu) (by intro e; injection e with e; have e' : g = r := e; omega)⟩

/-! ### slices.Clone of digests -/
set_option maxRecDepth 100000 in
theorem dgs_sub {w : World} {B : Nat} {A : Option Addr} {ds : List (List UInt8)} (h : Digs w B A ds) : ∃ xs : List {d : List UInt8 // d.length = 32}, xs.map (·.1) = ds ∧ DgK.See w B A xs := by
  have h1 : ∀ ds : List (List UInt8), (∀ d ∈ ds, d.length = 32) → ∃ xs : List {d : List UInt8 // d.length = 32}, xs.map (·.1) = ds := fun ds => by
    induction ds with
    | nil => exact fun _ => ⟨[], rfl⟩
    | cons d r ih =>
      intro hl
      obtain ⟨xs, rfl⟩ := ih fun y hy => hl y (List.mem_cons_of_mem _ hy)
      exact ⟨⟨d, hl d (List.mem_cons_self ..)⟩ :: xs, rfl⟩
  obtain ⟨xs, rfl⟩ := h1 ds h.1
  refine ⟨xs, rfl, ?_⟩
  show Sees w B A (DgK.flat xs)
  rw [dgk_flat]
  exact h.2
attribute [local go_sem ↓] bsT_def apAll_def
set_option maxRecDepth 100000 in
theorem clone_d (ds : List (List UInt8)) (A : Option Addr) (c : Nat) (hn : ds.length ≤ 200) (w : World) (hD : Digs w w.heap.size A ds) :
    Calls Tryz.prog 47 #[.slice A ds.length c] w fun e w' => ∃ A' c', e = .returned (.slice A' ds.length c') ∧ Digs w' w'.heap.size A' ds ∧ DFresh w.heap.size A' ds ∧ Below w.heap.size w w' := by
  obtain ⟨xs, rfl, hS⟩ := dgs_sub hD
  have hall : ∀ d ∈ xs.map (·.1), d.length = 32 := hD.1
  rw [List.length_map] at hn ⊢
  cases A with
  | none =>
    have hxs : xs = [] := hS.nil
    subst hxs
    have hq : ∀ w, (binOp .eql 31 (.slice none 0 c) (.slice none 0 0)).run Tryz.prog w = .ok (.bool true) w := fun w => Lib.run_eql_slice_nil w _ 24 none 0 c 0 0 Tryz.underlying31
    have HD := Lib.hid (hD.far (Below.refl _ _))
    clear hD hS hall
    go_enter Tryz.func47, Tryz.ntmps47
    go_wp2
    go_ret
    exact ⟨none, 0, rfl, HD.out, .inl rfl, Below.refl _ _⟩
  | some ad =>
    obtain ⟨w1, hw1⟩ : ∃ w1, w1 = w.alloc (.cells #[] 24) := ⟨_, rfl⟩
    have hF1 : Below w.heap.size w w1 := by
      rw [hw1]
      exact (Below.refl _ _).alloc (Nat.le_refl _) _
    have hb0 : (bsT 31 0 #[]).run Tryz.prog w = .ok (.slice (some ⟨w.heap.size, 0, none⟩) 0 0) w1 := by
      rw [hw1]
      exact DgK.build0 w
    have ho1 : DgK.Own w1 w.heap.size (.slice (some ⟨w.heap.size, 0, none⟩) 0 0) [] := by
      rw [hw1]
      exact DgK.own0 w (Nat.le_refl _)
    obtain ⟨v2, w2, hap0, ho2, hg2⟩ := DgK.append ho1 (A := some ad) (m := xs.length) (c := c) (es := xs) rfl (EK.See.far hS hF1) (by simp; omega) (by show (([] : List {d : List UInt8 // d.length = 32}).length + xs.length) * 32 ≤ _; simp; omega) hF1.size
    obtain ⟨A2, c2, rfl⟩ := ho2.slice
    have hap : (apAll #[31, 31] 31 #[.slice (some ⟨w.heap.size, 0, none⟩) 0 0, .slice (some ad) xs.length c]).run Tryz.prog w1 = .ok (.slice A2 xs.length c2) w2 := hap0
    have hsee : DgK.See w2 w2.heap.size A2 xs := EK.Own.see ho2
    have HO : Hid (Digs w2 w2.heap.size A2 (xs.map (·.1))) := Lib.hid ⟨hall, by
      have h6 : Sees w2 w2.heap.size A2 (DgK.flat xs) := hsee
      rw [dgk_flat] at h6
      exact h6⟩
    have HFR : Hid (DFresh w.heap.size A2 (xs.map (·.1))) := Lib.hid (by
      rcases Nat.eq_zero_or_pos xs.length with h0 | h0
      · exact .inl (by rw [List.eq_nil_of_length_eq_zero h0]; rfl)
      · obtain ⟨_, _, _, hp⟩ := ho2.bounds
        obtain ⟨g, e, hB, _⟩ := hp (by simpa using h0)
        exact .inr ⟨g, e, hB⟩)
    have HF : Hid (Below w.heap.size w w2) := Lib.hid (hF1.trans (below_own ho1 hg2 hF1.size))
    have hq : ∀ w, (binOp .eql 31 (.slice (some ad) xs.length c) (.slice none 0 0)).run Tryz.prog w = .ok (.bool false) w := fun w => Lib.run_eql_slice_nil w _ 24 (some ad) _ c 0 0 Tryz.underlying31
    clear hS hw1 hF1 ho1 ho2 hg2 hn hap0 hD hsee hall
    go_enter Tryz.func47, Tryz.ntmps47
    go_wp2
    go_ret
    exact ⟨A2, c2, rfl, HO.out, HFR.out, HF.out⟩
end Go.Proofs.YtadnnnbdlkjnkaaGreatDoor

namespace Go.Proofs.YtadnnnbdlkjnkaaGreatDoor
open Go.RowKit Go.Maps

/-- Numbers of a vote that can be. -/
structure VOk (x : VtX) : Prop where
  kind : (Lit.int .i64 x.kind).wf = true
  round : (Lit.int .i64 x.round).wf = true
  frm : (Lit.int .i64 x.frm).wf = true
  low : 0 ≤ x.round
  one : 1 ≤ x.frm
  most : x.frm ≤ 63
def plAt (k r f : Int) : PlX := if h : (Lit.int .i64 k).wf = true ∧ (Lit.int .i64 r).wf = true ∧ (Lit.int .i64 f).wf = true then ⟨(k, r, f), h⟩ else ⟨(0, 0, 0), by decide⟩
set_option maxRecDepth 100000 in
theorem plAt_val {k r f : Int} (h1 : (Lit.int .i64 k).wf = true) (h2 : (Lit.int .i64 r).wf = true) (h3 : (Lit.int .i64 f).wf = true) : (plAt k r f).1 = (k, r, f) := by
  unfold plAt
  rw [dif_pos ⟨h1, h2, h3⟩]
set_option maxRecDepth 100000 in
theorem plAt_enc {k r f : Int} (h1 : (Lit.int .i64 k).wf = true) (h2 : (Lit.int .i64 r).wf = true) (h3 : (Lit.int .i64 f).wf = true) : plKey.enc (plAt k r f) = .agg (plV k r f) := by
  show Value.agg (plV (plAt k r f).1.1 (plAt k r f).1.2.1 (plAt k r f).1.2.2) = _
  rw [plAt_val h1 h2 h3]
def VtX.at_ (x : VtX) : PlX := plAt x.kind x.round x.frm
set_option maxRecDepth 100000 in
theorem VOk.at_val {x : VtX} (h : VOk x) : x.at_.1 = (x.kind, x.round, x.frm) := plAt_val h.kind h.round h.frm
set_option maxRecDepth 100000 in
theorem VOk.at_enc {x : VtX} (h : VOk x) : plKey.enc x.at_ = .agg (plV x.kind x.round x.frm) := plAt_enc h.kind h.round h.frm
def VtM.ent (m : VtM) : PlX × Value := (m.x.at_, .agg m.cells.toArray)

structure BoxIs (w : World) (p mb : Nat) (vs : List VtM) : Prop where
  box : Box w p 67 #[.map (some mb)]
  map : MapIs plKey w mb (vs.map VtM.ent)
  ok : ∀ m ∈ vs, VOk m.x ∧ VFew m.x
set_option maxRecDepth 100000 in
theorem BoxIs.call {w w' : World} {p mb : Nat} {vs : List VtM} (h : BoxIs w p mb vs) (hb : Below w.heap.size w w') : BoxIs w' p mb vs :=
  ⟨h.box.below hb h.box.lt, h.map.call hb, h.ok⟩
/-- The lists of all votes are seen. -/
def BSee (w : World) (vs : List VtM) : Prop := ∀ m ∈ vs, VSee w m
set_option maxRecDepth 100000 in
theorem BSee.call {w w' : World} {vs : List VtM} (h : BSee w vs) (hb : Below w.heap.size w w') : BSee w' vs := fun m hm => (h m hm).call hb
set_option maxRecDepth 100000 in
/-- A block in which no list lies has turned. -/
theorem Sees.aside13 {w w' : World} {A : Option Addr} {xs : List Value} (h : Sees w w.heap.size A xs) {row : Option Nat} (hg : w.grownBy w' row) (hne : ∀ a v, w.cell? a = some v → some a.block ≠ row) : Sees w' w'.heap.size A xs := by
  rcases h with h0 | ⟨g, o, rfl, hlt, hc⟩
  · exact .inl h0
  · refine .inr ⟨g, o, rfl, Nat.lt_of_lt_of_le hlt hg.size, fun j u hu => ?_⟩
    have h1 := hc j u hu
    exact hg.cell h1 (hne _ _ h1)
set_option maxRecDepth 100000 in
theorem Digs.aside13 {w w' : World} {A : Option Addr} {ds : List (List UInt8)} (h : Digs w w.heap.size A ds) {row : Option Nat} (hg : w.grownBy w' row) (hne : ∀ a v, w.cell? a = some v → some a.block ≠ row) : Digs w' w'.heap.size A ds := ⟨h.1, Sees.aside13 h.2 hg hne⟩
set_option maxRecDepth 100000 in
theorem VSee.aside {w w' : World} {m : VtM} (h : VSee w m) {row : Option Nat} (hg : w.grownBy w' row) (hne : ∀ a v, w.cell? a = some v → some a.block ≠ row) : VSee w' m := ⟨h.opn.aside13 hg hne, h.sht.aside13 hg hne, h.pth.aside13 hg hne⟩
set_option maxRecDepth 100000 in
theorem MapIs.cell_ne {κ : Type} {K : MKey κ} {w : World} {mb : Nat} {es : List (κ × Value)} (h : MapIs K w mb es) (a : Addr) (v : Value) (ha : w.cell? a = some v) : some a.block ≠ some mb := by
  obtain ⟨D, n, ⟨es', clock, h1, _⟩, _⟩ := h.own
  intro e
  injection e with e
  unfold World.cell? at ha
  rw [e, h1] at ha
  cases ha

/-! ### vote.clone -/
attribute [local go_sem ↓] ldVt_def stVt_def
set_option maxRecDepth 100000 in
set_option maxHeartbeats 2000000 in
theorem clone_vt (m : VtM) (hf : VFew m.x) (w : World) (hS : VSee w m) :
    Calls Tryz.prog 26 #[.agg m.cells.toArray] w fun e w' => ∃ m' : VtM, m'.x = m.x ∧ e = .returned (.agg m'.cells.toArray) ∧ VSee w' m' ∧ Below w.heap.size w w' := by
  obtain ⟨w1, hw1⟩ : ∃ w1, w1 = (w.alloc (.cells m.cells.toArray 37)).alloc (.cells zvtV 37) := ⟨_, rfl⟩
  have HX : Hid (Box w1 w.heap.size 37 m.cells.toArray) := by rw [hw1]; exact (Box.made w _ _).alloc _
  have HY : Hid (Box w1 (w.heap.size + 1) 37 zvtV) := by rw [hw1]; exact Box.made_at (by simp) _ _
  have HF : Hid (Below w.heap.size w w1) := by rw [hw1]; exact ((Below.refl _ _).alloc (Nat.le_refl _) _).alloc (by simp) _
  have HZ : Hid (w1.heap.size = w.heap.size + 2) := by rw [hw1]; exact Lib.hid (by simp)
  have HFW := Lib.hid hf
  obtain ⟨⟨k, e, h, r, d, f, n, O, H, Q, hd⟩, A, a, B, b, C, c⟩ := m
  have HD := Lib.hid hd
  have HX1 : Hid (Box w1 w.heap.size 37 (vtL k e h r d f n (.slice A O.length a) (.slice B H.length b) (.slice C Q.length c)).toArray) := HX
  have HSO : Hid (Digs w w.heap.size A O) := Lib.hid hS.opn
  have HSH : Hid (Digs w w.heap.size B H) := Lib.hid hS.sht
  have HSQ : Hid (Digs w w.heap.size C Q) := Lib.hid hS.pth
  have HC1 := Lib.hid (clone_d O A a hf.opn w1 (HSO.out.far HF.out))
  have c38 : w1.cell? ⟨w.heap.size, 38, none⟩ = some (.slice A O.length a) := HX1.out.vt_38 hd
  have hz := zero_vt
  clear HX hS hf
  have ent : VtM.cells ⟨⟨k, e, h, r, d, f, n, O, H, Q, hd⟩, A, a, B, b, C, c⟩ = vtL k e h r d f n (.slice A O.length a) (.slice B H.length b) (.slice C Q.length c) := rfl
  rw [ent] at hw1 ⊢
  generalize hcs : vtL k e h r d f n (.slice A O.length a) (.slice B H.length b) (.slice C Q.length c) = cs at hw1 ⊢
  go_enter Tryz.func26, Tryz.ntmps26
  go_upto_region 1 with fail
  change Code.wp _ _ _ _ ((w.alloc (.cells cs.toArray 37)).alloc (.cells zvtV 37))
  rw [← hw1]
  clear hw1 hcs hz ent
  go_upto_region 2 with (go_at_call 47; (with_reducible refine (HC1.out).mono ?_); rintro e w2 ⟨A2, a2, rfl, hd2, hf2, hb2⟩; have HD2 := Lib.hid hd2; have HE2 := Lib.hid hf2; have HB2 := Lib.hid hb2; clear hd2 hf2 hb2; have f3 := (HX1.out.below HB2.out HX1.out.lt).free 38; have c3' := (HX1.out.below HB2.out HX1.out.lt).vt_38 HD.out)
  obtain ⟨w3, hw3⟩ : ∃ w3, w3 = w2.setCell ⟨w.heap.size, 38, none⟩ (.slice A2 O.length a2) := ⟨_, rfl⟩
  have HX3 : Hid (Box w3 w.heap.size 37 (vtL k e h r d f n (.slice A2 O.length a2) (.slice B H.length b) (.slice C Q.length c)).toArray) := Lib.hid (by rw [hw3]; exact (HX1.out.below HB2.out HX1.out.lt).vt_put38 HD.out _)
  have HG3 : Hid (w2.grownBy w3 (some w.heap.size)) := Lib.hid (by rw [hw3]; exact only_put (only_refl _ _) 38 _)
  have HO3 : Hid (Digs w3 w3.heap.size A2 O) := Lib.hid (HD2.out.fresh_aside HE2.out HG3.out (by have := HZ.out; omega))
  have HY3 := Lib.hid ((HY.out.below HB2.out HY.out.lt).grown HG3.out (by simp))
  have HF3 := Lib.hid ((HF.out.trans (HB2.out.mono HF.out.size)).trans (below_only HG3.out (Nat.le_refl _) (Nat.le_trans HF.out.size HB2.out.size)))
  have HZ3 : Hid (w.heap.size + 2 ≤ w3.heap.size) := Lib.hid (by have := HZ.out; have := HB2.out.size; have := HG3.out.size; omega)
  have HC3 := Lib.hid (clone_d H B b HFW.out.sht w3 (HSH.out.far HF3.out))
  have c39 : w3.cell? ⟨w.heap.size, 39, none⟩ = some (.slice B H.length b) := HX3.out.vt_39 HD.out
  rw [← hw3]
  clear hw3 c38 f3 c3' HC1 HX1 HD2 HB2 HG3 HY HF
  go_upto_region 3 with (go_at_call 47; (with_reducible refine (HC3.out).mono ?_); rintro e w4 ⟨A4, a4, rfl, hd2, hf2, hb2⟩; have HD4 := Lib.hid hd2; have HE4 := Lib.hid hf2; have HB4 := Lib.hid hb2; clear hd2 hf2 hb2; have f3 := (HX3.out.below HB4.out HX3.out.lt).free 39; have c3' := (HX3.out.below HB4.out HX3.out.lt).vt_39 HD.out)
  obtain ⟨w5, hw5⟩ : ∃ w5, w5 = w4.setCell ⟨w.heap.size, 39, none⟩ (.slice A4 H.length a4) := ⟨_, rfl⟩
  have HX5 : Hid (Box w5 w.heap.size 37 (vtL k e h r d f n (.slice A2 O.length a2) (.slice A4 H.length a4) (.slice C Q.length c)).toArray) := Lib.hid (by rw [hw5]; exact (HX3.out.below HB4.out HX3.out.lt).vt_put39 HD.out _)
  have HG5 : Hid (w4.grownBy w5 (some w.heap.size)) := Lib.hid (by rw [hw5]; exact only_put (only_refl _ _) 39 _)
  have HO5 : Hid (Digs w5 w5.heap.size A2 O) := Lib.hid ((HO3.out.far HB4.out).fresh_aside HE2.out HG5.out (by have := HZ.out; omega))
  have HH5 : Hid (Digs w5 w5.heap.size A4 H) := Lib.hid (HD4.out.fresh_aside HE4.out HG5.out (by have := HZ3.out; omega))
  have HY5 := Lib.hid ((HY3.out.below HB4.out HY3.out.lt).grown HG5.out (by simp))
  have HF5 := Lib.hid ((HF3.out.trans (HB4.out.mono HF3.out.size)).trans (below_only HG5.out (Nat.le_refl _) (Nat.le_trans HF3.out.size HB4.out.size)))
  have HZ5 : Hid (w.heap.size + 2 ≤ w5.heap.size) := Lib.hid (by have := HZ3.out; have := HB4.out.size; have := HG5.out.size; omega)
  have HC5 := Lib.hid (clone_d Q C c HFW.out.pth w5 (HSQ.out.far HF5.out))
  have c40 : w5.cell? ⟨w.heap.size, 40, none⟩ = some (.slice C Q.length c) := HX5.out.vt_40 HD.out
  rw [← hw5]
  clear hw5 c39 f3 c3' HC3 HX3 HD4 HB4 HG5 HY3 HF3 HO3
  go_upto_region 4 with (go_at_call 47; (with_reducible refine (HC5.out).mono ?_); rintro e w6 ⟨A6, a6, rfl, hd2, hf2, hb2⟩; have HD6 := Lib.hid hd2; have HE6 := Lib.hid hf2; have HB6 := Lib.hid hb2; clear hd2 hf2 hb2; have f3 := (HX5.out.below HB6.out HX5.out.lt).free 40; have c3' := (HX5.out.below HB6.out HX5.out.lt).vt_40 HD.out)
  obtain ⟨w7, hw7⟩ : ∃ w7, w7 = w6.setCell ⟨w.heap.size, 40, none⟩ (.slice A6 Q.length a6) := ⟨_, rfl⟩
  have HX7 : Hid (Box w7 w.heap.size 37 (vtL k e h r d f n (.slice A2 O.length a2) (.slice A4 H.length a4) (.slice A6 Q.length a6)).toArray) := Lib.hid (by rw [hw7]; exact (HX5.out.below HB6.out HX5.out.lt).vt_put40 HD.out _)
  have HG7 : Hid (w6.grownBy w7 (some w.heap.size)) := Lib.hid (by rw [hw7]; exact only_put (only_refl _ _) 40 _)
  have HO7 : Hid (Digs w7 w7.heap.size A2 O) := Lib.hid ((HO5.out.far HB6.out).fresh_aside HE2.out HG7.out (by have := HZ.out; omega))
  have HH7 : Hid (Digs w7 w7.heap.size A4 H) := Lib.hid ((HH5.out.far HB6.out).fresh_aside HE4.out HG7.out (by have := HZ3.out; omega))
  have HQ7 : Hid (Digs w7 w7.heap.size A6 Q) := Lib.hid (HD6.out.fresh_aside HE6.out HG7.out (by have := HZ5.out; omega))
  have HY7 := Lib.hid ((HY5.out.below HB6.out HY5.out.lt).grown HG7.out (by simp))
  have HF7 := Lib.hid ((HF5.out.trans (HB6.out.mono HF5.out.size)).trans (below_only HG7.out (Nat.le_refl _) (Nat.le_trans HF5.out.size HB6.out.size)))
  rw [← hw7]
  clear hw7 c40 f3 c3' HC5 HX5 HD6 HB6 HG7 HY5 HF5 HO5 HH5
  obtain ⟨m', hm'⟩ : ∃ m' : VtM, m' = ⟨⟨k, e, h, r, d, f, n, O, H, Q, hd⟩, A2, a2, A4, a4, A6, a6⟩ := ⟨_, rfl⟩
  have HX8 : Hid (Box w7 w.heap.size 37 m'.cells.toArray) := by rw [hm']; exact HX7
  have hx : m'.x = ⟨k, e, h, r, d, f, n, O, H, Q, hd⟩ := by rw [hm']
  have l7 := HX8.out.ld_vt
  obtain ⟨w8, hst, hb8, hg8⟩ := HY7.out.st_vt zvtV_size m'
  have HB8 := Lib.hid hb8
  have HF8 := Lib.hid (HF7.out.trans (below_only hg8 (by omega) HF7.out.size))
  have HS8 : Hid (VSee w8 m') := Lib.hid (by
    rw [hm']
    exact ⟨HO7.out.fresh_aside HE2.out hg8 (by have := HZ.out; omega), HH7.out.fresh_aside HE4.out hg8 (by have := HZ3.out; omega), HQ7.out.fresh_aside HE6.out hg8 (by have := HZ5.out; omega)⟩)
  clear hb8 hg8 hm' HX7 HX8 HY7 HO7 HH7 HQ7 HE2 HE4 HE6
  go_wp2
  exact ret_vt rfl rfl rfl HB8.out ⟨m', hx, rfl, HS8.out, HF8.out⟩

/-! ### A box made; its map -/
set_option maxRecDepth 100000 in
theorem newbox_any (w : World) : Calls Tryz.prog 5 #[] w fun e w' => ∃ p mb, e = .returned (.pointer (some ⟨p, 0, none⟩)) ∧ BoxIs w' p mb [] ∧ w.heap.size ≤ mb ∧ w.heap.size ≤ p ∧ Below w.heap.size w w' := by
  have hmm := @run_makeMap Tryz.prog
  have HF : Hid (Below w.heap.size w ((w.alloc (.map #[] 0)).alloc (.cells #[.map (some w.heap.size)] 67))) := ((Below.refl _ _).alloc (Nat.le_refl _) _).alloc (by simp) _
  have HB : Hid (Box ((w.alloc (.map #[] 0)).alloc (.cells #[.map (some w.heap.size)] 67)) (w.heap.size + 1) 67 #[.map (some w.heap.size)]) := Box.made_at (by simp) _ _
  have HM : Hid (MapIs plKey ((w.alloc (.map #[] 0)).alloc (.cells #[.map (some w.heap.size)] 67)) w.heap.size []) := (MapIs.made plKey w).call ((Below.refl _ _).alloc (Nat.le_refl _) _)
  go_enter Tryz.func5, Tryz.ntmps5
  go_wp2
  go_ret
  exact ⟨w.heap.size + 1, w.heap.size, by simp, ⟨HB.out, HM.out, fun m hm => (by cases hm)⟩, Nat.le_refl _, by omega, HF.out⟩
set_option maxRecDepth 100000 in
theorem all_nil (w : World) : Calls Tryz.prog 48 #[.pointer none] w fun e w' => e = .returned (.map none) ∧ Below w.heap.size w w' := by
  have HF : Hid (Below w.heap.size w w) := Below.refl _ _
  go_enter Tryz.func48, Tryz.ntmps48
  go_wp2
  go_ret
  exact ⟨rfl, HF.out⟩
set_option maxRecDepth 100000 in
theorem all_any (p mb : Nat) (w : World) (hb : Box w p 67 #[.map (some mb)]) : Calls Tryz.prog 48 #[.pointer (some ⟨p, 0, none⟩)] w fun e w' => e = .returned (.map (some mb)) ∧ Below w.heap.size w w' := by
  have HF : Hid (Below w.heap.size w w) := Below.refl _ _
  have c0 : w.cell? ⟨p, 0, none⟩ = some (.map (some mb)) := hb.cell 0
  clear hb
  go_enter Tryz.func48, Tryz.ntmps48
  go_wp2
  go_ret
  exact ⟨rfl, HF.out⟩
/-- A box that may be nil. -/
def BoxOr (w : World) (pv : Option Nat) (mv : Option Nat) (vs : List VtM) : Prop :=
  match pv, mv with
  | none, none => vs = []
  | some p, some mb => BoxIs w p mb vs
  | _, _ => False
def ptrO (pv : Option Nat) : Value := .pointer (pv.map fun p => ⟨p, 0, none⟩)
set_option maxRecDepth 100000 in
theorem BoxOr.map {w : World} {pv mv : Option Nat} {vs : List VtM} (h : BoxOr w pv mv vs) : MapOr plKey w mv (vs.map VtM.ent) := by
  cases pv <;> cases mv
  · rw [show vs = [] from h]; rfl
  · exact h.elim
  · exact h.elim
  · exact BoxIs.map h
set_option maxRecDepth 100000 in
theorem BoxOr.call {w w' : World} {pv mv : Option Nat} {vs : List VtM} (h : BoxOr w pv mv vs) (hb : Below w.heap.size w w') : BoxOr w' pv mv vs := by
  cases pv <;> cases mv
  · exact h
  · exact h.elim
  · exact h.elim
  · exact BoxIs.call h hb
set_option maxRecDepth 100000 in
theorem BoxOr.ok {w : World} {pv mv : Option Nat} {vs : List VtM} (h : BoxOr w pv mv vs) : ∀ m ∈ vs, VOk m.x ∧ VFew m.x := by
  cases pv <;> cases mv
  · rw [show vs = [] from h]; exact fun m hm => by cases hm
  · exact h.elim
  · exact h.elim
  · exact BoxIs.ok h
set_option maxRecDepth 100000 in
theorem all_or (pv mv : Option Nat) (vs : List VtM) (w : World) (hb : BoxOr w pv mv vs) : Calls Tryz.prog 48 #[ptrO pv] w fun e w' => e = .returned (.map mv) ∧ Below w.heap.size w w' := by
  cases pv <;> cases mv
  · exact all_nil w
  · exact hb.elim
  · exact hb.elim
  · exact all_any _ _ w (BoxIs.box hb)
end Go.Proofs.YtadnnnbdlkjnkaaGreatDoor

namespace Go.Proofs.YtadnnnbdlkjnkaaGreatDoor
open Go.RowKit Go.Maps

/-- Two votes of one place. -/
def samePl (a b : VtX) : Bool := decide (a.kind = b.kind) && decide (a.round = b.round) && decide (a.frm = b.frm)
set_option maxRecDepth 100000 in
theorem samePl_iff {a b : VtX} : samePl a b = true ↔ a.kind = b.kind ∧ a.round = b.round ∧ a.frm = b.frm := by
  unfold samePl
  simp only [Bool.and_eq_true, decide_eq_true_eq, and_assoc]
/-- Is there a vote of that place? -/
def hasPl (xs : List VtX) (x : VtX) : Bool := xs.any fun y => samePl y x
def addX (xs : List VtX) (x : VtX) : List VtX := if hasPl xs x then xs else xs ++ [x]
set_option maxRecDepth 100000 in
theorem at_eq {a b : VtX} (ha : VOk a) (hb : VOk b) : a.at_ = b.at_ ↔ samePl a b = true := by
  rw [samePl_iff, Subtype.ext_iff, ha.at_val, hb.at_val]
  simp only [Prod.mk.injEq]
set_option maxRecDepth 100000 in
theorem look_some13 {vs : List VtM} (hok : ∀ m ∈ vs, VOk m.x ∧ VFew m.x) {x : VtX} (hx : VOk x) (hh : hasPl (vs.map VtM.x) x = true) : ∃ m ∈ vs, lookL (vs.map VtM.ent) x.at_ = some (.agg m.cells.toArray) ∧ samePl m.x x = true := by
  cases e : lookL (vs.map VtM.ent) x.at_ with
  | some v =>
    obtain ⟨m, hm, he⟩ := List.mem_map.1 (lookL_mem e)
    unfold VtM.ent at he
    simp only [Prod.mk.injEq] at he
    exact ⟨m, hm, by rw [he.2], (at_eq (hok m hm).1 hx).1 he.1⟩
  | none =>
    unfold hasPl at hh
    rw [List.any_eq_true] at hh
    obtain ⟨y, hy, hs⟩ := hh
    obtain ⟨m, hm, rfl⟩ := List.mem_map.1 hy
    exact absurd ((at_eq (hok m hm).1 hx).2 hs) (lookL_none e _ (List.mem_map.2 ⟨m, hm, rfl⟩))
set_option maxRecDepth 100000 in
theorem look_none13 {vs : List VtM} (hok : ∀ m ∈ vs, VOk m.x ∧ VFew m.x) {x : VtX} (hx : VOk x) (hh : hasPl (vs.map VtM.x) x = false) : x.at_ ∉ (vs.map VtM.ent).map Prod.fst ∧ lookL (vs.map VtM.ent) x.at_ = none := by
  have h1 : ∀ m ∈ vs, m.x.at_ ≠ x.at_ := fun m hm e => by
    have h2 := (at_eq (hok m hm).1 hx).1 e
    unfold hasPl at hh
    rw [List.any_eq_false] at hh
    exact hh m.x (List.mem_map.2 ⟨m, hm, rfl⟩) h2
  constructor
  · intro hm
    obtain ⟨e, he, h2⟩ := List.mem_map.1 hm
    obtain ⟨m, hm', rfl⟩ := List.mem_map.1 he
    exact h1 m hm' h2
  · cases e : lookL (vs.map VtM.ent) x.at_ with
    | none => rfl
    | some v =>
      obtain ⟨m, hm, he⟩ := List.mem_map.1 (lookL_mem e)
      unfold VtM.ent at he
      simp only [Prod.mk.injEq] at he
      exact absurd he.1 (h1 m hm)

noncomputable def lkBx (m k : Value) : Sem Value := Instr.lookup 65 m k true
set_option maxRecDepth 100000 in
theorem lkBx_def (m k : Value) : Instr.lookup 65 m k true = lkBx m k := rfl
noncomputable def upBx (m k v : Value) : Sem Unit := Instr.mapUpdate 65 m k v
set_option maxRecDepth 100000 in
theorem upBx_def (m k v : Value) : Instr.mapUpdate 65 m k v = upBx m k v := rfl
set_option maxRecDepth 100000 in
theorem BoxIs.look {w : World} {p mb : Nat} {vs : List VtM} (h : BoxIs w p mb vs) {x : VtX} (hx : VOk x) : ∃ m0 : VtM, (lkBx (.map (some mb)) (.agg (plV x.kind x.round x.frm))).run Tryz.prog w = .ok (.tuple #[.agg m0.cells.toArray, .bool (hasPl (vs.map VtM.x) x)]) w := by
  have h1 := h.map.look_ok Tryz.underlying65 (zero_vt w) x.at_
  rw [hx.at_enc] at h1
  cases hh : hasPl (vs.map VtM.x) x with
  | true =>
    obtain ⟨m, _, h2, _⟩ := look_some13 h.ok hx hh
    rw [h2] at h1
    exact ⟨m, h1⟩
  | false =>
    obtain ⟨_, h2⟩ := look_none13 h.ok hx hh
    rw [h2] at h1
    exact ⟨zvt, h1⟩
set_option maxRecDepth 100000 in
theorem BoxIs.put {w : World} {p mb : Nat} {vs : List VtM} (h : BoxIs w p mb vs) {m : VtM} (hx : VOk m.x) (hf : VFew m.x) (hh : hasPl (vs.map VtM.x) m.x = false) (hl : vs.length < 1000000) :
    ∃ w', (upBx (.map (some mb)) (.agg (plV m.x.kind m.x.round m.x.frm)) (.agg m.cells.toArray)).run Tryz.prog w = .ok () w' ∧ BoxIs w' p mb (vs ++ [m]) ∧ w.grownBy w' (some mb) := by
  obtain ⟨w', hr, hm, hg⟩ := h.map.put Tryz.underlying65 (by rw [List.length_map]; unfold maxLen; omega) m.x.at_ (.agg m.cells.toArray)
  rw [hx.at_enc] at hr
  obtain ⟨hn, _⟩ := look_none13 h.ok hx hh
  rw [setL_new _ hn] at hm
  refine ⟨w', hr, ⟨h.box.grown hg (fun e => h.map.ne h.box (by injection e)), ?_, fun u hu => ?_⟩, hg⟩
  · rw [List.map_append]
    exact hm
  · rcases List.mem_append.1 hu with hu | hu
    · exact h.ok u hu
    · rw [List.mem_singleton.1 hu]
      exact ⟨hx, hf⟩

noncomputable def alVt (b : Bool) (v : Value) : Sem Value := Instr.alloc 37 b v
set_option maxRecDepth 100000 in
theorem alVt_def (b : Bool) (v : Value) : Instr.alloc 37 b v = alVt b v := rfl
set_option maxRecDepth 100000 in
theorem al_vt (w : World) : (alVt true (.tuple #[])).run Tryz.prog w = .ok (.pointer (some ⟨w.heap.size, 0, none⟩)) (w.alloc (.cells zvtV 37)) := by
  have h := zero_vt w
  unfold alVt Instr.alloc
  simp [Sem.run_bind, h, newVar, newRow, Value.cells]
attribute [local go_sem ↓] ldVt_def stVt_def ldPl_def stPl_def lkBx_def upBx_def alVt_def
structure Sb7 (w : World) (p mb q : Nat) (m : VtM) : Prop where
  box : Box w p 67 #[.map (some mb)]
  vote : Box w q 37 m.cells.toArray
  place : Box w (q + 1) 69 (plV m.x.kind m.x.round m.x.frm)
set_option maxRecDepth 100000 in
theorem Sb7.call {w w' : World} {p mb q : Nat} {m : VtM} (h : Sb7 w p mb q m) (hb : Below w.heap.size w w') : Sb7 w' p mb q m := ⟨h.box.below hb h.box.lt, h.vote.below hb h.vote.lt, h.place.below hb h.place.lt⟩
set_option maxRecDepth 100000 in
theorem Sb7.grown {κ : Type} {K : MKey κ} {w w' : World} {p mb q : Nat} {m : VtM} {es : List (κ × Value)} (h : Sb7 w p mb q m) (hm : MapIs K w mb es) (hg : w.grownBy w' (some mb)) : Sb7 w' p mb q m :=
  ⟨h.box.grown hg (fun e => hm.ne h.box (by injection e)), h.vote.grown hg (fun e => hm.ne h.vote (by injection e)), h.place.grown hg (fun e => hm.ne h.place (by injection e))⟩
set_option maxRecDepth 100000 in
theorem add_nil13 (m : VtM) (w : World) : Calls Tryz.prog 8 #[.pointer none, .agg m.cells.toArray] w fun e w' => e = .returned (.bool false) ∧ Below w.heap.size w w' := by
  have HF : Hid (Below w.heap.size w (w.alloc (.cells m.cells.toArray 37))) := (Below.refl _ _).alloc (Nat.le_refl _) _
  go_enter Tryz.func8, Tryz.ntmps8
  go_wp2
  go_ret
  exact ⟨rfl, HF.out⟩

set_option maxRecDepth 100000 in
set_option maxHeartbeats 4000000 in
theorem add_any13 (p mb : Nat) (vs : List VtM) (m : VtM) (hx : VOk m.x) (hf : VFew m.x) (hl : vs.length < 1000000) (w : World) (hB : BoxIs w p mb vs) (hS : VSee w m) :
    Calls Tryz.prog 8 #[.pointer (some ⟨p, 0, none⟩), .agg m.cells.toArray] w fun e w' => e = .returned (.bool (!hasPl (vs.map VtM.x) m.x)) ∧ ∃ vs', BoxIs w' p mb vs' ∧ vs'.map VtM.x = addX (vs.map VtM.x) m.x ∧ w.grownBy w' (some mb) ∧ (BSee w vs → BSee w' vs') := by
  obtain ⟨w1, hw1⟩ : ∃ w1, w1 = w.alloc (.cells m.cells.toArray 37) := ⟨_, rfl⟩
  have HX : Hid (Box w1 w.heap.size 37 m.cells.toArray) := by rw [hw1]; exact Box.made w _ _
  have HZ : Hid (w1.heap.size = w.heap.size + 1) := by rw [hw1]; exact Lib.hid (by simp)
  have HF : Hid (Below w.heap.size w w1) := by rw [hw1]; exact (Below.refl _ _).alloc (Nat.le_refl _) _
  obtain ⟨w2, hst2, hb2, hbl2⟩ := laid_pl w1 m.x.kind m.x.round m.x.frm
  have HP2 : Hid (Box w2 (w.heap.size + 1) 69 (plV m.x.kind m.x.round m.x.frm)) := Lib.hid (by rw [HZ.out] at hb2; exact hb2)
  have HX2 := Lib.hid (HX.out.below hbl2 HX.out.lt)
  have HF2 := Lib.hid (HF.out.trans (hbl2.mono HF.out.size))
  have HB2 := Lib.hid (hB.call HF2.out)
  have HS2 := Lib.hid (hS.call HF2.out)
  rw [HZ.out] at hst2
  have c0 : w1.cell? ⟨w.heap.size, 0, none⟩ = some (.int .i64 m.x.kind) := HX.out.vt_0
  have c3 : w1.cell? ⟨w.heap.size, 3, none⟩ = some (.int .i64 m.x.round) := HX.out.vt_3
  have c36 : w1.cell? ⟨w.heap.size, 36, none⟩ = some (.int .i64 m.x.frm) := HX.out.vt_36 m.x.len
  have hz1 := HZ.out
  have HXO := Lib.hid hx
  have HFW := Lib.hid hf
  have HL := Lib.hid hl
  clear hb2 hbl2 hB hS hx hf hl
  go_enter Tryz.func8, Tryz.ntmps8
  go_upto_region 1 with fail
  change Code.wp _ _ _ _ (w.alloc (.cells m.cells.toArray 37))
  rw [← hw1]
  clear hw1 HX HF
  go_upto_region 4 with fail
  obtain ⟨b, hb⟩ : ∃ b, hasPl (vs.map VtM.x) m.x = b := ⟨_, rfl⟩
  have HBB := Lib.hid hb
  obtain ⟨u2, hu2⟩ : ∃ u2, u2 = w2.drew := ⟨_, rfl⟩
  have hbd : Below w2.heap.size w2 u2 := by rw [hu2]; exact (Below.refl _ _).drew
  have HB3 := Lib.hid (HB2.out.call hbd)
  have HS3 := Lib.hid (HS2.out.call hbd)
  have HX3 := Lib.hid (HX2.out.below hbd HX2.out.lt)
  have HP3 := Lib.hid (HP2.out.below hbd HP2.out.lt)
  have HF3 := Lib.hid (HF2.out.trans (hbd.mono HF2.out.size))
  obtain ⟨es, hes⟩ : ∃ es, es = vs.map VtM.ent := ⟨_, rfl⟩
  obtain ⟨m0, hm0⟩ : ∃ m0 : VtM, ∀ w', Below u2.heap.size u2 w' → (lkBx (.map (some mb)) (.agg (plV m.x.kind m.x.round m.x.frm))).run Tryz.prog w' = .ok (.tuple #[.agg m0.cells.toArray, .bool b]) w' := by
    cases hb' : b with
    | true =>
      rw [hb'] at hb
      obtain ⟨m0, _, h2, _⟩ := look_some13 HB3.out.ok HXO.out hb
      refine ⟨m0, fun w' hw' => ?_⟩
      have h1 := (HB3.out.call hw').map.look_ok Tryz.underlying65 (zero_vt w') m.x.at_
      rw [HXO.out.at_enc, h2] at h1
      exact h1
    | false =>
      rw [hb'] at hb
      obtain ⟨_, h2⟩ := look_none13 HB3.out.ok HXO.out hb
      refine ⟨zvt, fun w' hw' => ?_⟩
      have h1 := (HB3.out.call hw').map.look_ok Tryz.underlying65 (zero_vt w') m.x.at_
      rw [HXO.out.at_enc, h2] at h1
      exact h1
  have HL4 : Hid (∀ w', Below u2.heap.size u2 w' → (lkBx (.map (some mb)) (.agg (plV m.x.kind m.x.round m.x.frm))).run Tryz.prog w' = .ok (.tuple #[.agg m0.cells.toArray, .bool b]) w') := Lib.hid hm0
  have HM4 : Hid (∀ w', Below u2.heap.size u2 w' → w'.cell? ⟨p, 0, none⟩ = some (.map (some mb))) := Lib.hid (fun w' hw' => (HB3.out.call hw').box.cell 0)
  have HP4 : Hid (∀ w', Below u2.heap.size u2 w' → (ldPl (.pointer (some ⟨w.heap.size + 1, 0, none⟩))).run Tryz.prog w' = .ok (.agg (plV m.x.kind m.x.round m.x.frm)) w') := Lib.hid (fun w' hw' => (HP3.out.below hw' HP3.out.lt).ld_pl)
  have hzv := al_vt
  clear hb hm0 hes es hbd HB2 HS2 HX2 HP2 HF2 hst2 c0 c3 c36
  refine wp_region_held_drew (S := fun w' => Below u2.heap.size u2 w') (by kernel_rfl) (by rw [hu2]; exact Below.refl _ _) (fun hS => ?_)
  rw [← hu2] at hS ⊢
  clear hu2
  (refine take_at8 (i := 0) (d := 18) (v := .pointer (some ⟨p, 0, none⟩)) rfl (by kernel_rfl) (by kernel_rfl) (by kernel_rfl) (fun _ _ _ h => h) rfl (Or.inl ⟨by kernel_rfl, fun w hSw => by go_simp⟩) hS ?_)
  (refine take_at8 (i := 1) (d := 19) (v := .pointer (some ⟨p, 0, none⟩)) rfl (by kernel_rfl) (by kernel_rfl) (by kernel_rfl) (fun _ _ _ h => h) rfl (Or.inl ⟨by kernel_rfl, fun w hSw => by go_simp⟩) hS ?_)
  (refine take_at8 (i := 2) (d := 20) (v := .pointer (some ⟨p, 0, none⟩)) rfl (by kernel_rfl) (by kernel_rfl) (by kernel_rfl) (fun _ _ _ h => h) rfl (Or.inl ⟨by kernel_rfl, fun w hSw => by go_simp⟩) hS ?_)
  (refine take_at8 (i := 3) (d := 21) (v := .map (some mb)) rfl (by kernel_rfl) (by kernel_rfl) (by kernel_rfl) (fun _ _ _ h => h) rfl (Or.inl ⟨by kernel_rfl, fun w hSw => by have hc := HM4.out w hSw; go_simp⟩) hS ?_)
  (refine take_at8 (i := 4) (d := 22) (v := .agg (plV m.x.kind m.x.round m.x.frm)) rfl (by kernel_rfl) (by kernel_rfl) (by kernel_rfl) (fun _ _ _ h => h) rfl (Or.inl ⟨by kernel_rfl, fun w hSw => by have hc := HP4.out w hSw; go_simp⟩) hS ?_)
  (refine take_at8 (i := 5) (d := 23) (v := .tuple #[.agg m0.cells.toArray, .bool b]) rfl (by kernel_rfl) (by kernel_rfl) (by kernel_rfl) (fun _ _ _ h => h) rfl (Or.inl ⟨by kernel_rfl, fun w hSw => by have hc := HL4.out w hSw; go_simp⟩) hS ?_)
  (refine take_at8 (i := 6) (d := 17) (v := .tuple #[.agg m0.cells.toArray, .bool b]) rfl (by kernel_rfl) (by kernel_rfl) (by kernel_rfl) (fun _ _ _ h => h) rfl (Or.inl ⟨by kernel_rfl, fun w hSw => by go_simp⟩) hS ?_)
  (refine take_at8 (i := 7) (d := 24) (v := .agg m0.cells.toArray) rfl (by kernel_rfl) (by kernel_rfl) (by kernel_rfl) (fun _ _ _ h => h) rfl (Or.inl ⟨by kernel_rfl, fun w hSw => by go_simp⟩) hS ?_)
  (refine take_at8 (i := 8) (d := 25) (v := .bool b) rfl (by kernel_rfl) (by kernel_rfl) (by kernel_rfl) (fun _ _ _ h => h) rfl (Or.inl ⟨by kernel_rfl, fun w hSw => by go_simp⟩) hS ?_)
  refine wpAnyH_ready (rs := [9]) (by decide +kernel) (by simp) (AllReadyH.cons rfl (fun K hK => ?_) AllReadyH.nil)
  go_simp
  have hS9 : Below u2.heap.size u2 (u2.alloc (.cells zvtV 37)) := (Below.refl _ _).alloc (Nat.le_refl _) _
  refine hK.out _ _ (hS9) (fun hS => ?_)
  clear hK K
  (try simp only [Act.put])
  obtain ⟨w5, hst5, hb5, hbl5⟩ := laid_vt u2 m0
  refine wpAnyH_ready (rs := [10]) (by decide +kernel) (by simp) (AllReadyH.cons rfl (fun K hK => ?_) AllReadyH.nil)
  go_simp
  refine hK.out _ _ (hbl5) (fun hS => ?_)
  clear hK K
  (try simp only [Act.put])
  (refine take_at8 (i := 11) (d := 7) (v := .bool b) rfl (by kernel_rfl) (by kernel_rfl) (by kernel_rfl) (fun _ _ _ h => h) rfl (Or.inl ⟨by kernel_rfl, fun w hSw => by go_simp⟩) hS ?_)
  refine wpAnyH_done (by kernel_rfl) ?_ _
  have HB5 := Lib.hid (HB3.out.call hbl5)
  have HF5 := Lib.hid (HF3.out.trans (hbl5.mono HF3.out.size))
  have HS5 := Lib.hid (HS3.out.call hbl5)
  have HX5 := Lib.hid (HX3.out.below hbl5 HX3.out.lt)
  have HP5 := Lib.hid (HP3.out.below hbl5 HP3.out.lt)
  clear hS hst5 hb5 hbl5 hS9 hzv HL4 HM4 HP4 HB3 HF3 HS3 HX3 HP3
  go_simp
  cases b with
  | true =>
    go_wp2
    go_ret
    have e1 : addX (vs.map VtM.x) m.x = vs.map VtM.x := by unfold addX; rw [HBB.out]; rfl
    exact ⟨by rw [HBB.out]; rfl, vs, HB5.out, e1.symm, only_below HF5.out none |>.but _, fun h => h.call HF5.out⟩
  | false =>
    go_upto_region 7 with fail
    obtain ⟨u7, hu7⟩ : ∃ u7, u7 = w5.drew := ⟨_, rfl⟩
    have hbd : Below w5.heap.size w5 u7 := by rw [hu7]; exact (Below.refl _ _).drew
    have HB7 := Lib.hid (HB5.out.call hbd)
    have HS7 := Lib.hid (HS5.out.call hbd)
    have HX7 := Lib.hid (HX5.out.below hbd HX5.out.lt)
    have HP7 := Lib.hid (HP5.out.below hbd HP5.out.lt)
    have HF7 := Lib.hid (HF5.out.trans (hbd.mono HF5.out.size))
    have HM7 : Hid (∀ w', Sb7 w' p mb w.heap.size m → w'.cell? ⟨p, 0, none⟩ = some (.map (some mb))) := Lib.hid (fun w' hw' => hw'.box.cell 0)
    have HS7B : Hid (Sb7 u7 p mb w.heap.size m) := Lib.hid ⟨HB7.out.box, HX7.out, HP7.out⟩
    have HK7 : Hid (∀ w', Sb7 w' p mb w.heap.size m → (ldPl (.pointer (some ⟨w.heap.size + 1, 0, none⟩))).run Tryz.prog w' = .ok (.agg (plV m.x.kind m.x.round m.x.frm)) w') := Lib.hid (fun w' hw' => hw'.place.ld_pl)
    have HV7 : Hid (∀ w', Sb7 w' p mb w.heap.size m → (ldVt (.pointer (some ⟨w.heap.size, 0, none⟩))).run Tryz.prog w' = .ok (.agg m.cells.toArray) w') := Lib.hid (fun w' hw' => hw'.vote.ld_vt)
    have HC7 := Lib.hid (clone_vt m HFW.out u7 HS7.out)
    clear hbd HB5 HS5 HX5 HP5 HF5 HS7 HX7 HP7
    refine wp_region_held_drew (S := fun w' => Sb7 w' p mb w.heap.size m) (by kernel_rfl) (by rw [← hu7]; exact HS7B.out) (fun hS => ?_)
    rw [← hu7] at hS ⊢
    clear hu7
    (refine take_at8 (i := 0) (d := 27) (v := .pointer (some ⟨p, 0, none⟩)) rfl (by kernel_rfl) (by kernel_rfl) (by kernel_rfl) (fun _ _ _ h => h) rfl (Or.inl ⟨by kernel_rfl, fun w hSw => by go_simp⟩) hS ?_)
    (refine take_at8 (i := 1) (d := 28) (v := .pointer (some ⟨p, 0, none⟩)) rfl (by kernel_rfl) (by kernel_rfl) (by kernel_rfl) (fun _ _ _ h => h) rfl (Or.inl ⟨by kernel_rfl, fun w hSw => by go_simp⟩) hS ?_)
    (refine take_at8 (i := 2) (d := 29) (v := .pointer (some ⟨p, 0, none⟩)) rfl (by kernel_rfl) (by kernel_rfl) (by kernel_rfl) (fun _ _ _ h => h) rfl (Or.inl ⟨by kernel_rfl, fun w hSw => by go_simp⟩) hS ?_)
    (refine take_at8 (i := 3) (d := 30) (v := .map (some mb)) rfl (by kernel_rfl) (by kernel_rfl) (by kernel_rfl) (fun _ _ _ h => h) rfl (Or.inl ⟨by kernel_rfl, fun w hSw => by have hc := HM7.out w hSw; go_simp⟩) hS ?_)
    (refine take_at8 (i := 4) (d := 31) (v := .agg (plV m.x.kind m.x.round m.x.frm)) rfl (by kernel_rfl) (by kernel_rfl) (by kernel_rfl) (fun _ _ _ h => h) rfl (Or.inl ⟨by kernel_rfl, fun w hSw => by have hc := HK7.out w hSw; go_simp⟩) hS ?_)
    (refine take_at8 (i := 5) (d := 32) (v := .agg m.cells.toArray) rfl (by kernel_rfl) (by kernel_rfl) (by kernel_rfl) (fun _ _ _ h => h) rfl (Or.inl ⟨by kernel_rfl, fun w hSw => by have hc := HV7.out w hSw; go_simp⟩) hS ?_)
    refine wpAnyH_ready (rs := [6]) (by decide +kernel) (by simp) (AllReadyH.cons rfl (fun K hK => ?_) AllReadyH.nil)
    go_simp
    (go_at_call 26; (with_reducible refine (HC7.out).mono ?_); rintro e w8 ⟨m8, hx8, rfl, hs8, hb⟩)
    have HX8 := Lib.hid hx8
    have HBX := Lib.hid (HB7.out.call hb)
    have HFX := Lib.hid (HF7.out.trans (hb.mono HF7.out.size))
    have HSX := Lib.hid hs8
    refine hK.out _ _ (hS.call hb) (fun hS => ?_)
    clear hK K
    (try simp only [Act.put])
    clear hb hs8 HC7 HV7 HK7 HM7 HB7
    have hv8 : VOk m8.x := by rw [HX8.out]; exact HXO.out
    have hf8 : VFew m8.x := by rw [HX8.out]; exact HFW.out
    have hh8 : hasPl (vs.map VtM.x) m8.x = false := by rw [HX8.out]; exact HBB.out
    obtain ⟨w9, hup, hB9, hg9⟩ := HBX.out.put hv8 hf8 hh8 HL.out
    rw [HX8.out] at hup
    have HB9 := Lib.hid hB9
    have HG9 : Hid (w.grownBy w9 (some mb)) := Lib.hid ((only_below HFX.out none).but (some mb) |>.andThen hg9 (fun j hj => .inr (by rw [hj])))
    have HG98 := Lib.hid hg9
    have HBS : Hid (BSee w vs → BSee w9 (vs ++ [m8])) := Lib.hid (fun h u hu => by
      rcases List.mem_append.1 hu with hu | hu
      · exact ((h u hu).call HFX.out).aside hg9 HBX.out.map.cell_ne
      · rw [List.mem_singleton.1 hu]
        exact HSX.out.aside hg9 HBX.out.map.cell_ne)
    clear hB9 hg9 hx8
    refine wpAnyH_ready (rs := [7]) (by decide +kernel) (by simp) (AllReadyH.cons rfl (fun K hK => ?_) AllReadyH.nil)
    go_simp
    refine hK.out _ _ (hS.grown HBX.out.map HG98.out) (fun hS => ?_)
    clear hK K hS HBX HFX HSX
    (try simp only [Act.put])
    refine wpAnyH_done (by kernel_rfl) ?_ _
    clear hup
    go_simp
    go_wp2
    go_ret
    exact ⟨by rw [HBB.out]; rfl, vs ++ [m8], HB9.out, by unfold addX; rw [HBB.out, List.map_append, List.map_singleton, HX8.out]; rfl, HG9.out, HBS.out⟩
end Go.Proofs.YtadnnnbdlkjnkaaGreatDoor
