/-
  A map in memory as a list of keys and values: looked up, written, walked.
-/
import Derived.Test.YtapdnoellleimaaDoorKA
import Derived.Maps.RangeWalk
import Derived.Maps.OwnSet
import Derived.Maps.Ext
import Derived.Laws.IdiomRangeMap
import Derived.Sort.KeysCollected
namespace Go.Proofs.YtapdnoellleimaaDoor
open Go.RowKit Go.Maps

/-- A kind of keys. -/
structure MKey (κ : Type) where
  t : TypeId
  enc : κ → Value
  lit : κ → Lit
  keyed : Keyed Tryd.prog t
  of : ∀ x, keyOf Tryd.prog t (enc x) = some (lit x)
  inv : ∀ key kl, keyOf Tryd.prog t key = some kl → ∃ x, key = enc x
  encinj : ∀ x y, enc x = enc y → x = y
section
variable {κ : Type} (K : MKey κ)
set_option maxRecDepth 100000 in
theorem MKey.inj {x y : κ} (h : K.lit x = K.lit y) : x = y := by
  have h1 := K.of x
  have h2 := K.of y
  rw [← h] at h2
  exact K.encinj _ _ (K.keyed.inj h1 h2)
set_option maxRecDepth 100000 in
theorem MKey.key (x : κ) : WideAt.IsKeyLit (K.lit x) := K.keyed.key (K.of x)
set_option maxRecDepth 100000 in
theorem MKey.ne {x y : κ} (h : x ≠ y) : K.lit x ≠ K.lit y := fun e => h (K.inj e)
noncomputable def anyV (v : Value) : Option (DataW Value × List MemPlace) := some (.held v, [])

/-- The map reads as the list. -/
structure MReads (D : DataW Value) (es : List (κ × Value)) : Prop where
  at_ : ∀ e ∈ es, ∀ z, D.atKey (K.lit e.1) z = .held e.2
  has : ∀ kl, Maps.has D kl = true → ∃ e ∈ es, K.lit e.1 = kl
  keys : (es.map Prod.fst).Nodup
variable {K}
set_option maxRecDepth 100000 in
theorem MReads.has_iff {D : DataW Value} {es : List (κ × Value)} (h : MReads K D es) (kl : Lit) : Maps.has D kl = true ↔ ∃ e ∈ es, K.lit e.1 = kl :=
  ⟨h.has kl, fun ⟨e, he, hl⟩ => by rw [← hl]; exact has_true_of_atKey (h.at_ e he)⟩
set_option maxRecDepth 100000 in
theorem MReads.uniq {D : DataW Value} {es : List (κ × Value)} (h : MReads K D es) {x : κ} {u v : Value} (h1 : (x, u) ∈ es) (h2 : (x, v) ∈ es) : u = v := by
  have e1 := h.at_ _ h1 (.held u)
  have e2 := h.at_ _ h2 (.held u)
  rw [e1] at e2
  injection e2

/-- What stands at a key. -/
def lookL [DecidableEq κ] (es : List (κ × Value)) (x : κ) : Option Value := (es.find? fun e => e.1 = x).map Prod.snd
set_option maxRecDepth 100000 in
theorem lookL_mem [DecidableEq κ] {es : List (κ × Value)} {x : κ} {v : Value} (h : lookL es x = some v) : (x, v) ∈ es := by
  unfold lookL at h
  obtain ⟨e, he, rfl⟩ := Option.map_eq_some_iff.1 h
  have h1 := List.find?_some he
  simp only [decide_eq_true_eq] at h1
  rw [← h1]
  exact List.mem_of_find?_eq_some he
set_option maxRecDepth 100000 in
theorem lookL_none [DecidableEq κ] {es : List (κ × Value)} {x : κ} (h : lookL es x = none) : ∀ e ∈ es, e.1 ≠ x := by
  intro e he
  unfold lookL at h
  rw [Option.map_eq_none_iff, List.find?_eq_none] at h
  simpa using h e he
/-- A value is written at a key. -/
def setL [DecidableEq κ] (es : List (κ × Value)) (x : κ) (v : Value) : List (κ × Value) := if x ∈ es.map Prod.fst then es.map (fun e => if e.1 = x then (x, v) else e) else es ++ [(x, v)]
set_option maxRecDepth 100000 in
theorem setL_keys [DecidableEq κ] {es : List (κ × Value)} (x : κ) (v : Value) (h : x ∈ es.map Prod.fst) : (setL es x v).map Prod.fst = es.map Prod.fst := by
  unfold setL
  rw [if_pos h, List.map_map]
  apply List.map_congr_left
  intro e _
  simp only [Function.comp]
  split <;> simp_all
set_option maxRecDepth 100000 in
theorem setL_new [DecidableEq κ] {es : List (κ × Value)} {x : κ} (v : Value) (h : x ∉ es.map Prod.fst) : setL es x v = es ++ [(x, v)] := by
  unfold setL
  rw [if_neg h]
set_option maxRecDepth 100000 in
theorem mem_setL [DecidableEq κ] {es : List (κ × Value)} {x : κ} {v : Value} (e : κ × Value) : e ∈ setL es x v ↔ (e = (x, v) ∨ (e ∈ es ∧ e.1 ≠ x)) := by
  unfold setL
  by_cases h : x ∈ es.map Prod.fst
  · rw [if_pos h, List.mem_map]
    constructor
    · rintro ⟨y, hy, rfl⟩
      by_cases hx : y.1 = x
      · rw [if_pos hx]; exact .inl rfl
      · rw [if_neg hx]; exact .inr ⟨hy, hx⟩
    · rintro (rfl | ⟨h1, h2⟩)
      · obtain ⟨y, hy, hx⟩ := List.mem_map.1 h
        exact ⟨y, hy, by rw [if_pos hx]⟩
      · exact ⟨e, h1, by rw [if_neg h2]⟩
  · rw [if_neg h, List.mem_append, List.mem_singleton]
    constructor
    · rintro (h1 | h1)
      · exact .inr ⟨h1, fun e1 => h (e1 ▸ List.mem_map.2 ⟨e, h1, rfl⟩)⟩
      · exact .inl h1
    · rintro (h1 | h1)
      · exact .inr h1
      · exact .inl h1.1
set_option maxRecDepth 100000 in
theorem setL_nodup [DecidableEq κ] {es : List (κ × Value)} {x : κ} {v : Value} (h : (es.map Prod.fst).Nodup) : ((setL es x v).map Prod.fst).Nodup := by
  by_cases hx : x ∈ es.map Prod.fst
  · rw [setL_keys x v hx]; exact h
  · rw [setL_new v hx, List.map_append, List.nodup_append]
    refine ⟨h, by simp, ?_⟩
    rintro a ha b hb rfl
    simp at hb
    subst hb
    exact hx ha

/-- Block mb is a map that reads as the list. -/
structure MapIs (K : MKey κ) (w : World) (mb : Nat) (es : List (κ × Value)) : Prop where
  own : ∃ (D : DataW Value) (n : Nat), w.ownsMap Tryd.prog K.t anyV mb n D ∧ MReads K D es
variable {w w' : World} {mb : Nat} {es : List (κ × Value)}
set_option maxRecDepth 100000 in
theorem MapIs.keys (h : MapIs K w mb es) : (es.map Prod.fst).Nodup := by
  obtain ⟨D, n, _, h2⟩ := h.own
  exact h2.keys
set_option maxRecDepth 100000 in
theorem MapIs.lt (h : MapIs K w mb es) : mb < w.heap.size := by
  obtain ⟨D, n, h1, _⟩ := h.own
  exact h1.lt
set_option maxRecDepth 100000 in
theorem MapIs.grown (h : MapIs K w mb es) {row : Option Nat} (hg : w.grownBy w' row) (hne : some mb ≠ row) : MapIs K w' mb es := by
  obtain ⟨D, n, h1, h2⟩ := h.own
  exact ⟨D, n, h1.kept hg hne, h2⟩
set_option maxRecDepth 100000 in
theorem MapIs.call (h : MapIs K w mb es) (hb : Below w.heap.size w w') : MapIs K w' mb es := h.grown (only_below hb none) (by simp)
set_option maxRecDepth 100000 in
theorem MapIs.below {B : Nat} (h : MapIs K w mb es) (hb : Below B w w') (hlt : mb < B) : MapIs K w' mb es := by
  obtain ⟨D, n, ⟨es', clock, hh, r1⟩, h2⟩ := h.own
  exact ⟨D, n, ⟨es', clock, (hb.block _ hlt).trans hh, r1⟩, h2⟩
set_option maxRecDepth 100000 in
theorem MapIs.ne (h : MapIs K w mb es) {g : Nat} {t : TypeId} {cs : Array Value} (hb : Box w g t cs) : g ≠ mb := by
  obtain ⟨D, n, ⟨es', clock, h1, _⟩, _⟩ := h.own
  intro e
  subst e
  unfold Box at hb
  rw [hb] at h1
  cases h1
set_option maxRecDepth 100000 in
theorem MapIs.made (K : MKey κ) (w : World) : MapIs K (w.alloc (.map #[] 0)) w.heap.size [] :=
  ⟨.map [], 0, World.ownsMap_made w _ _ _, ⟨fun e he => (by cases he), fun kl hk => (by cases hk), (by simp)⟩⟩

set_option maxRecDepth 100000 in
/-- As many entries as the list has. -/
theorem MReads.size {D : DataW Value} (h : MReads K D es) {n : Nat} (hw : w.ownsMap Tryd.prog K.t anyV mb n D) : Maps.size D = es.length := by
  obtain ⟨ls, rfl, hp, hk⟩ := hw.entries K.keyed
  have h1 : (ls.map Prod.fst).Nodup := by
    unfold List.Nodup
    rw [List.pairwise_map]
    exact hp
  have h2 : (es.map fun e => K.lit e.1).Nodup := by
    have := h.keys
    unfold List.Nodup at this ⊢
    rw [List.pairwise_map] at this ⊢
    exact this.imp fun hne => K.ne hne
  have hm : ∀ kl, kl ∈ ls.map Prod.fst ↔ kl ∈ es.map fun e => K.lit e.1 := fun kl => by
    rw [List.mem_map, List.mem_map]
    constructor
    · rintro ⟨p, hp', rfl⟩
      exact h.has _ (List.any_eq_true.2 ⟨p, hp', WideAt.sameKey_self (hk p hp')⟩)
    · rintro ⟨e, he, rfl⟩
      obtain ⟨p, hp', hs⟩ := List.any_eq_true.1 ((h.has_iff _).2 ⟨e, he, rfl⟩)
      exact ⟨p, hp', WideAt.sameKey_eq hs⟩
  have hperm : (ls.map Prod.fst).Perm (es.map fun e => K.lit e.1) := (List.perm_ext_iff_of_nodup h1 h2).2 hm
  have := hperm.length_eq
  rw [List.length_map, List.length_map] at this
  exact this
set_option maxRecDepth 100000 in
theorem own_tight {D : DataW Value} {n : Nat} (h : w.ownsMap Tryd.prog K.t anyV mb n D) : w.ownsMap Tryd.prog K.t anyV mb (Maps.size D) D := by
  obtain ⟨es', clock, hb, F, hs, rfl⟩ := h
  refine ⟨es', clock, hb, F, ?_, rfl⟩
  show es'.size ≤ List.length _
  rw [length_read]
  exact Nat.le_refl _

set_option maxRecDepth 100000 in
/-- A key is looked up. -/
theorem MapIs.look_ok [DecidableEq κ] (h : MapIs K w mb es) {t e : TypeId} (ht : Tryd.prog.underlying t = some (.map K.t e)) {z : Value} (hz : (zeroValue e).run Tryd.prog w = .ok z w) (x : κ) :
    (Instr.lookup t (.map (some mb)) (K.enc x) true).run Tryd.prog w = .ok (.tuple #[(lookL es x).getD z, .bool (lookL es x).isSome]) w := by
  obtain ⟨D, n, h1, h2⟩ := h.own
  obtain ⟨v, ps, hr, hv⟩ := h1.look_ok K.keyed ht hz (zd := .held z) (zp := []) rfl (K.of x)
  cases e : lookL es x with
  | some u =>
    have h3 := h2.at_ _ (lookL_mem e)
    rw [has_true_of_atKey h3] at hr
    rw [h3] at hv
    obtain rfl : v = u := by
      simp only [anyV, Option.some.injEq, Prod.mk.injEq, DataW.held.injEq] at hv
      exact hv.1
    exact hr
  | none =>
    have h3 : Maps.has D (K.lit x) = false := by
      cases hh : Maps.has D (K.lit x)
      · rfl
      · obtain ⟨y, hy, hl⟩ := h2.has _ hh
        exact absurd (K.inj hl) (lookL_none e y hy)
    rw [h3] at hr
    rw [atKey_of_not_has h3] at hv
    obtain rfl : v = z := by
      simp only [anyV, Option.some.injEq, Prod.mk.injEq, DataW.held.injEq] at hv
      exact hv.1
    exact hr
set_option maxRecDepth 100000 in
theorem MapIs.look [DecidableEq κ] (h : MapIs K w mb es) {t e : TypeId} (ht : Tryd.prog.underlying t = some (.map K.t e)) {z : Value} (hz : (zeroValue e).run Tryd.prog w = .ok z w) (x : κ) :
    (Instr.lookup t (.map (some mb)) (K.enc x) false).run Tryd.prog w = .ok ((lookL es x).getD z) w := by
  obtain ⟨D, n, h1, h2⟩ := h.own
  obtain ⟨v, ps, hr, hv⟩ := h1.lookup K.keyed ht hz (zd := .held z) (zp := []) rfl (K.of x)
  cases e : lookL es x with
  | some u =>
    rw [h2.at_ _ (lookL_mem e)] at hv
    obtain rfl : v = u := by
      simp only [anyV, Option.some.injEq, Prod.mk.injEq, DataW.held.injEq] at hv
      exact hv.1
    exact hr
  | none =>
    have h3 : Maps.has D (K.lit x) = false := by
      cases hh : Maps.has D (K.lit x)
      · rfl
      · obtain ⟨y, hy, hl⟩ := h2.has _ hh
        exact absurd (K.inj hl) (lookL_none e y hy)
    rw [atKey_of_not_has h3] at hv
    obtain rfl : v = z := by
      simp only [anyV, Option.some.injEq, Prod.mk.injEq, DataW.held.injEq] at hv
      exact hv.1
    exact hr
set_option maxRecDepth 100000 in
/-- A value is written at a key. -/
theorem MapIs.put [DecidableEq κ] (h : MapIs K w mb es) {t e : TypeId} (ht : Tryd.prog.underlying t = some (.map K.t e)) (hl : es.length < maxLen) (x : κ) (v : Value) :
    ∃ w', (Instr.mapUpdate t (.map (some mb)) (K.enc x) v).run Tryd.prog w = .ok () w' ∧ MapIs K w' mb (setL es x v) ∧ w.grownBy w' (some mb) := by
  obtain ⟨D, n, h1, h2⟩ := h.own
  have h3 := own_tight h1
  rw [h2.size h1] at h3
  obtain ⟨w', hr, h4, h5⟩ := h3.store K.keyed ht hl (K.of x) (val := v) (d := .held v) (ps := []) rfl
  refine ⟨w', hr, ⟨_, _, h4, ⟨fun e he z => ?_, fun kl hk => ?_, setL_nodup h2.keys⟩⟩, h5.grown⟩
  · rcases (mem_setL e).1 he with rfl | ⟨he, hne⟩
    · exact atKey_put_same h1.isMap (K.key x) _ z
    · rw [atKey_put_other (K.ne hne)]
      exact h2.at_ e he z
  · by_cases e : kl = K.lit x
    · exact ⟨(x, v), (mem_setL _).2 (.inl rfl), e.symm⟩
    · rw [has_put_other e] at hk
      obtain ⟨y, hy, rfl⟩ := h2.has kl hk
      exact ⟨y, (mem_setL _).2 (.inr ⟨hy, fun e2 => e (by rw [e2])⟩), rfl⟩

/-! ### Walked -/
/-- A map that may be nil. -/
def MapOr (K : MKey κ) (w : World) (mv : Option Nat) (es : List (κ × Value)) : Prop :=
  match mv with
  | none => es = []
  | some mb => MapIs K w mb es
set_option maxRecDepth 100000 in
theorem MapOr.grown {mv : Option Nat} (h : MapOr K w mv es) {row : Option Nat} (hg : w.grownBy w' row) (hne : ∀ mb, mv = some mb → some mb ≠ row) : MapOr K w' mv es := by
  cases mv with
  | none => exact h
  | some mb => exact MapIs.grown h hg (hne mb rfl)
set_option maxRecDepth 100000 in
theorem MapOr.call {mv : Option Nat} (h : MapOr K w mv es) (hb : Below w.heap.size w w') : MapOr K w' mv es := h.grown (only_below hb none) (by simp)
set_option maxRecDepth 100000 in
theorem MapOr.keys {mv : Option Nat} (h : MapOr K w mv es) : (es.map Prod.fst).Nodup := by
  cases mv with
  | none =>
    have h' : es = [] := h
    rw [h']
    simp
  | some mb => exact MapIs.keys h
/-- An iterator in block r is under way: these have come. -/
def IterIs (K : MKey κ) (w : World) (mv : Option Nat) (r : Nat) (es done : List (κ × Value)) (cnt : Nat) : Prop :=
  match mv with
  | none => es = [] ∧ done = [] ∧ cnt = 0 ∧ w.heap[r]? = some (.mapIter none 0 #[] 0)
  | some mb => ∃ (D : DataW Value) (n : Nat) (left : Lit → Bool), w.ranges Tryd.prog K.t anyV mb r n D left cnt ∧ MReads K D es ∧ (∀ e ∈ es, left (K.lit e.1) = true ↔ e ∉ done) ∧ done.Nodup ∧ ∀ e ∈ done, e ∈ es
set_option maxRecDepth 100000 in
theorem IterIs.left_eq {mv : Option Nat} {r : Nat} {done : List (κ × Value)} {cnt : Nat} (h : IterIs K w mv r es done cnt) : w.rangeLeft (mv.getD r) r = cnt := by
  cases mv with
  | none =>
    obtain ⟨_, _, rfl, h4⟩ := h
    unfold World.rangeLeft
    rw [Option.getD_none, h4]
  | some mb =>
    obtain ⟨D, n, left, h1, _⟩ := h
    exact h1.left_eq
set_option maxRecDepth 100000 in
theorem IterIs.lt {mv : Option Nat} {r : Nat} {done : List (κ × Value)} {cnt : Nat} (h : IterIs K w mv r es done cnt) : r < w.heap.size := by
  cases mv with
  | none => exact (Array.getElem?_eq_some_iff.1 h.2.2.2).1
  | some mb =>
    obtain ⟨D, n, left, h1, _⟩ := h
    exact h1.lt
set_option maxRecDepth 100000 in
theorem IterIs.sub {mv : Option Nat} {r : Nat} {done : List (κ × Value)} {cnt : Nat} (h : IterIs K w mv r es done cnt) : done.Nodup ∧ ∀ e ∈ done, e ∈ es := by
  cases mv with
  | none =>
    obtain ⟨rfl, rfl, _⟩ := h
    exact ⟨List.nodup_nil, fun e he => (by cases he)⟩
  | some mb =>
    obtain ⟨D, n, left, _, _, _, h4, h5⟩ := h
    exact ⟨h4, h5⟩
set_option maxRecDepth 100000 in
theorem IterIs.grown {mv : Option Nat} {r : Nat} {done : List (κ × Value)} {cnt : Nat} (h : IterIs K w mv r es done cnt) {row : Option Nat} (hg : w.grownBy w' row) (hne : ∀ mb, mv = some mb → some mb ≠ row) (hr : some r ≠ row) : IterIs K w' mv r es done cnt := by
  cases mv with
  | none =>
    obtain ⟨h1, h2, h3, h4⟩ := h
    exact ⟨h1, h2, h3, (hg.block r (Array.getElem?_eq_some_iff.1 h4).1 hr).trans h4⟩
  | some mb =>
    obtain ⟨D, n, left, h1, h2, h3, h4, h5⟩ := h
    exact ⟨D, n, left, h1.kept hg (hne mb rfl) hr, h2, h3, h4, h5⟩
set_option maxRecDepth 100000 in
theorem IterIs.call {mv : Option Nat} {r : Nat} {done : List (κ × Value)} {cnt : Nat} (h : IterIs K w mv r es done cnt) (hb : Below w.heap.size w w') : IterIs K w' mv r es done cnt := h.grown (only_below hb none) (by simp) (by simp)
set_option maxRecDepth 100000 in
theorem IterIs.step {D : DataW Value} {left : Lit → Bool} {done : List (κ × Value)} (h2 : MReads K D es) (h3 : ∀ e ∈ es, left (K.lit e.1) = true ↔ e ∉ done) (h4 : done.Nodup) (h5 : ∀ e ∈ done, e ∈ es)
    {x : κ} {v : Value} (hl : left (K.lit x) = true) (hat : ∀ z, D.atKey (K.lit x) z = .held v) :
    (x, v) ∈ es ∧ (x, v) ∉ done ∧ (∀ e ∈ es, (left (K.lit e.1) && !(K.lit e.1).sameKey (K.lit x)) = true ↔ e ∉ done ++ [(x, v)]) ∧ (done ++ [(x, v)]).Nodup ∧ ∀ e ∈ done ++ [(x, v)], e ∈ es := by
  obtain ⟨⟨y, u⟩, he, hl2⟩ := h2.has _ (has_true_of_atKey hat)
  obtain rfl := K.inj hl2
  have h6 := h2.at_ _ he (.held u)
  rw [hat] at h6
  injection h6 with h6
  subst h6
  have hn := (h3 _ he).1 hl
  refine ⟨he, hn, fun e hE => ?_, ?_, ?_⟩
  · rw [List.mem_append, List.mem_singleton, not_or, ← h3 e hE, Bool.and_eq_true]
    have h7 : (!(K.lit e.1).sameKey (K.lit y)) = true ↔ ¬ e = (y, v) := by
      constructor
      · rintro hs rfl
        rw [WideAt.sameKey_self (K.key y)] at hs
        cases hs
      · intro hne
        rw [sameKey_ne]
        · rfl
        · intro e2
          apply hne
          obtain ⟨a, b⟩ := e
          obtain rfl : a = y := K.inj e2
          rw [h2.uniq hE he]
    rw [h7]
  · rw [List.nodup_append]
    refine ⟨h4, by simp, ?_⟩
    rintro a ha b hb rfl
    rw [List.mem_singleton] at hb
    subst hb
    exact hn ha
  · intro e hE
    rcases List.mem_append.1 hE with hE | hE
    · exact h5 e hE
    · rw [List.mem_singleton.1 hE]; exact he
set_option maxRecDepth 100000 in
theorem IterIs.whole {left : Lit → Bool} {done : List (κ × Value)} (h1 : (es.map Prod.fst).Nodup) (h3 : ∀ e ∈ es, left (K.lit e.1) = true ↔ e ∉ done) (h4 : done.Nodup) (h5 : ∀ e ∈ done, e ∈ es) (hl : ∀ kl, left kl = false) : done.Perm es := by
  have hn : es.Nodup := by
    unfold List.Nodup at h1 ⊢
    rw [List.pairwise_map] at h1
    exact h1.imp fun {a b} hne e => hne (by rw [e])
  refine (List.perm_ext_iff_of_nodup h4 hn).2 fun e => ⟨h5 e, fun he => ?_⟩
  by_cases hd : e ∈ done
  · exact hd
  · have := (h3 e he).2 hd
    rw [hl] at this
    cases this
end

section
variable {κ : Type} (K : MKey κ) (w : World) {ops : Array Oper} {rest : List Oper} {o : Oper} {a : Act} {Q : Exit → Act → World → Prop}
set_option maxRecDepth 100000 in
/-- 'range m'. -/
theorem wpList_range_is (hg : o.guard = none) (m : Operand) (t : TypeId) (hop : o.op = Op.range t m) (e : TypeId) (ht : Tryd.prog.underlying t = some (.map K.t e)) (mv : Option Nat) (es : List (κ × Value))
    (hm : a.eval m = .map mv) (h : MapOr K w mv es)
    (hK : ∀ w' cnt, IterIs K w' mv w.heap.size es [] cnt → w.grownBy w' none → w'.heap.size = w.heap.size + 1 → wpList Tryd.prog ops Q rest (a.put o.dst (.pointer (some ⟨w.heap.size, 0, none⟩))) w') :
    wpList Tryd.prog ops Q (o :: rest) a w := by
  cases mv with
  | none =>
    obtain rfl : es = [] := h
    refine wpList_plain hg fun K' hK' => ?_
    have hrun := run_range_nilMap (P := Tryd.prog) w t K.t e ht
    unfold Oper.wp
    simp [execOp, hop, hm, hrun, Result.andThen]
    exact hK' _ _ (hK _ 0 ⟨rfl, rfl, rfl, (MapKept.heap_alloc w _).1⟩ (World.grownBy_alloc w _ none) (by simp))
  | some mb =>
    obtain ⟨D, n, h1, h2⟩ := h.own
    refine wpList_range_own w hg m t hop K.t e K.keyed ht anyV mb n D hm h1 fun w' h3 h4 h5 => hK w' _ ⟨D, n, _, h3, h2, fun e he => ?_, List.nodup_nil, fun e he => (by cases he)⟩ h4 h5
    rw [h2.has_iff]
    exact ⟨fun _ => by simp, fun _ => ⟨e, he, rfl⟩⟩
set_option maxRecDepth 100000 in
/-- The step. -/
theorem wpList_next_is (hg : o.guard = none) (it : Operand) (hop : o.op = Op.next it false) (mv : Option Nat) (r : Nat) (es done : List (κ × Value)) (cnt : Nat)
    (hit : a.eval it = .pointer (some ⟨r, 0, none⟩)) (h : IterIs K w mv r es done cnt)
    (hDone : done.Perm es → wpList Tryd.prog ops Q rest (a.put o.dst (.tuple #[.bool false])) w)
    (hMore : ∀ (x : κ) (v : Value) (w' : World) (cnt' : Nat), (x, v) ∈ es → (x, v) ∉ done → IterIs K w' mv r es (done ++ [(x, v)]) cnt' → cnt' < cnt →
      w.grownBy w' (some r) → w'.heap.size = w.heap.size → (Instr.entry (.pointer (some ⟨r, 0, none⟩))).run Tryd.prog w' = .ok (.tuple #[K.enc x, v]) w' → wpList Tryd.prog ops Q rest (a.put o.dst (.tuple #[.bool true, K.enc x, v])) w') :
    wpList Tryd.prog ops Q (o :: rest) a w := by
  cases mv with
  | none =>
    obtain ⟨rfl, rfl, rfl, h4⟩ := h
    refine wpList_plain hg fun K' hK' => ?_
    unfold Oper.wp
    have hrun : (Instr.next (.pointer (some ⟨r, 0, none⟩)) false o.type).run Tryd.prog w = .ok (.tuple #[.bool false]) w := by
      simp only [Instr.next, getObj, Sem.run_bind, Sem.run, h4, Result.andThen]
      rfl
    simp [execOp, hop, hit, hrun, Result.andThen]
    exact hK' _ _ (hDone (List.Perm.refl _))
  | some mb =>
    obtain ⟨D, n, left, h1, h2, h3, h4, h5⟩ := h
    refine wpList_next_ranges w hg it hop K.t K.keyed anyV K.enc id K.inv (fun v _ _ => ⟨v, rfl⟩) mb r n D left cnt hit h1 (fun _ hl => hDone (IterIs.whole h2.keys h3 h4 h5 hl)) fun x v kl y w' cnt' hkey hlk hv hat hrg hlt hgr hsz hen => ?_
    have e1 := K.of x
    rw [hkey] at e1
    injection e1 with e1
    subst e1
    have e2 : y.1 = .held v := by
      simp only [anyV, Option.some.injEq, id_eq] at hv
      rw [← hv]
    obtain ⟨s1, s2, s3, s4, s5⟩ := IterIs.step h2 h3 h4 h5 hlk (fun z => (hat z).trans e2)
    exact hMore x v w' cnt' s1 s2 ⟨D, n, _, hrg, h2, s3, s4, s5⟩ hlt hgr hsz hen
end
end Go.Proofs.YtapdnoellleimaaDoor
