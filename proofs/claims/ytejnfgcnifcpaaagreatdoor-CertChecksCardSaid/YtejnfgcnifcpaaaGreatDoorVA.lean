/-
  A map in memory as a list of keys and values: looked up, written, walked.
  Places of votes, and numbers, as keys of maps.
  Votes in memory: their cells, what is loaded, stored and returned; lists of digests cloned.
  A box of votes in memory: what is in it; a vote cloned, a box made, its map.
  (*vote.Box).Add. Written by gen_voadd.py.
  Votes whose lists lie in blocks of their own; one vote more onto a row of them.
-/
import Derived.Test.YtejnfgcnifcpaaaGreatDoorKA
import Derived.Maps.RangeWalk
import Derived.Maps.OwnSet
import Derived.Maps.Ext
import Derived.Laws.IdiomRangeMap
import Derived.Sort.KeysCollected
import Derived.Test.YtejnfgcnifcpaaaGreatDoorRiInv
import Derived.Test.YtejnfgcnifcpaaaGreatDoorRX
import Derived.Test.YtejnfgcnifcpaaaGreatDoorNB
import Derived.Test.YtejnfgcnifcpaaaGreatDoorOC
import Derived.Deep.RegionHeld3
import Derived.Test.YtejnfgcnifcpaaaGreatDoorNC
import Derived.Maps.AppendAt
namespace Go.Proofs.YtejnfgcnifcpaaaGreatDoor
open Go.RowKit Go.Maps

/-- A kind of keys. -/
structure MKey (κ : Type) where
  t : TypeId
  enc : κ → Value
  lit : κ → Lit
  keyed : Keyed Tryz.prog t
  of : ∀ x, keyOf Tryz.prog t (enc x) = some (lit x)
  inv : ∀ key kl, keyOf Tryz.prog t key = some kl → ∃ x, key = enc x
  encinj : ∀ x y, enc x = enc y → x = y
section
variable {κ : Type} (K : MKey κ)
set_option maxRecDepth 100000 in
theorem MKey.inj {x y : κ} (h : K.lit x = K.lit y) : x = y := by
  have h1 := K.of x
  have h2 := K.of y
  rw [← h] at h2
  exact K.encinj _ _ (K.keyed.inj h1 h2)
set_option maxRecDepth 100000 in
theorem MKey.key (x : κ) : WideAt.IsKeyLit (K.lit x) := K.keyed.key (K.of x)
set_option maxRecDepth 100000 in
theorem MKey.ne {x y : κ} (h : x ≠ y) : K.lit x ≠ K.lit y := fun e => h (K.inj e)
noncomputable def anyV (v : Value) : Option (DataW Value × List MemPlace) := some (.held v, [])

/-- The map reads as the list. -/
structure MReads (D : DataW Value) (es : List (κ × Value)) : Prop where
  at_ : ∀ e ∈ es, ∀ z, D.atKey (K.lit e.1) z = .held e.2
  has : ∀ kl, Maps.has D kl = true → ∃ e ∈ es, K.lit e.1 = kl
  keys : (es.map Prod.fst).Nodup
variable {K}
set_option maxRecDepth 100000 in
theorem MReads.has_iff {D : DataW Value} {es : List (κ × Value)} (h : MReads K D es) (kl : Lit) : Maps.has D kl = true ↔ ∃ e ∈ es, K.lit e.1 = kl :=
  ⟨h.has kl, fun ⟨e, he, hl⟩ => by rw [← hl]; exact has_true_of_atKey (h.at_ e he)⟩
set_option maxRecDepth 100000 in
theorem MReads.uniq {D : DataW Value} {es : List (κ × Value)} (h : MReads K D es) {x : κ} {u v : Value} (h1 : (x, u) ∈ es) (h2 : (x, v) ∈ es) : u = v := by
  have e1 := h.at_ _ h1 (.held u)
  have e2 := h.at_ _ h2 (.held u)
  rw [e1] at e2
  injection e2

/-- What stands at a key. -/
def lookL [DecidableEq κ] (es : List (κ × Value)) (x : κ) : Option Value := (es.find? fun e => e.1 = x).map Prod.snd
set_option maxRecDepth 100000 in
theorem lookL_mem [DecidableEq κ] {es : List (κ × Value)} {x : κ} {v : Value} (h : lookL es x = some v) : (x, v) ∈ es := by
  unfold lookL at h
  obtain ⟨e, he, rfl⟩ := Option.map_eq_some_iff.1 h
  have h1 := List.find?_some he
  simp only [decide_eq_true_eq] at h1
  rw [← h1]
  exact List.mem_of_find?_eq_some he
set_option maxRecDepth 100000 in
theorem lookL_none [DecidableEq κ] {es : List (κ × Value)} {x : κ} (h : lookL es x = none) : ∀ e ∈ es, e.1 ≠ x := by
  intro e he
  unfold lookL at h
  rw [Option.map_eq_none_iff, List.find?_eq_none] at h
  simpa using h e he
/-- A value is written at a key. -/
def setL [DecidableEq κ] (es : List (κ × Value)) (x : κ) (v : Value) : List (κ × Value) := if x ∈ es.map Prod.fst then es.map (fun e => if e.1 = x then (x, v) else e) else es ++ [(x, v)]
set_option maxRecDepth 100000 in
theorem setL_keys [DecidableEq κ] {es : List (κ × Value)} (x : κ) (v : Value) (h : x ∈ es.map Prod.fst) : (setL es x v).map Prod.fst = es.map Prod.fst := by
  unfold setL
  rw [if_pos h, List.map_map]
  apply List.map_congr_left
  intro e _
  simp only [Function.comp]
  split <;> simp_all
set_option maxRecDepth 100000 in
theorem setL_new [DecidableEq κ] {es : List (κ × Value)} {x : κ} (v : Value) (h : x ∉ es.map Prod.fst) : setL es x v = es ++ [(x, v)] := by
  unfold setL
  rw [if_neg h]
set_option maxRecDepth 100000 in
theorem mem_setL [DecidableEq κ] {es : List (κ × Value)} {x : κ} {v : Value} (e : κ × Value) : e ∈ setL es x v ↔ (e = (x, v) ∨ (e ∈ es ∧ e.1 ≠ x)) := by
  unfold setL
  by_cases h : x ∈ es.map Prod.fst
  · rw [if_pos h, List.mem_map]
    constructor
    · rintro ⟨y, hy, rfl⟩
      by_cases hx : y.1 = x
      · rw [if_pos hx]; exact .inl rfl
      · rw [if_neg hx]; exact .inr ⟨hy, hx⟩
    · rintro (rfl | ⟨h1, h2⟩)
      · obtain ⟨y, hy, hx⟩ := List.mem_map.1 h
        exact ⟨y, hy, by rw [if_pos hx]⟩
      · exact ⟨e, h1, by rw [if_neg h2]⟩
  · rw [if_neg h, List.mem_append, List.mem_singleton]
    constructor
    · rintro (h1 | h1)
      · exact .inr ⟨h1, fun e1 => h (e1 ▸ List.mem_map.2 ⟨e, h1, rfl⟩)⟩
      · exact .inl h1
    · rintro (h1 | h1)
      · exact .inr h1
      · exact .inl h1.1
set_option maxRecDepth 100000 in
theorem setL_nodup [DecidableEq κ] {es : List (κ × Value)} {x : κ} {v : Value} (h : (es.map Prod.fst).Nodup) : ((setL es x v).map Prod.fst).Nodup := by
  by_cases hx : x ∈ es.map Prod.fst
  · rw [setL_keys x v hx]; exact h
  · rw [setL_new v hx, List.map_append, List.nodup_append]
    refine ⟨h, by simp, ?_⟩
    rintro a ha b hb rfl
    simp at hb
    subst hb
    exact hx ha

/-- Block mb is a map that reads as the list. -/
structure MapIs (K : MKey κ) (w : World) (mb : Nat) (es : List (κ × Value)) : Prop where
  own : ∃ (D : DataW Value) (n : Nat), w.ownsMap Tryz.prog K.t anyV mb n D ∧ MReads K D es
variable {w w' : World} {mb : Nat} {es : List (κ × Value)}
set_option maxRecDepth 100000 in
theorem MapIs.keys (h : MapIs K w mb es) : (es.map Prod.fst).Nodup := by
  obtain ⟨D, n, _, h2⟩ := h.own
  exact h2.keys
set_option maxRecDepth 100000 in
theorem MapIs.lt (h : MapIs K w mb es) : mb < w.heap.size := by
  obtain ⟨D, n, h1, _⟩ := h.own
  exact h1.lt
set_option maxRecDepth 100000 in
theorem MapIs.grown (h : MapIs K w mb es) {row : Option Nat} (hg : w.grownBy w' row) (hne : some mb ≠ row) : MapIs K w' mb es := by
  obtain ⟨D, n, h1, h2⟩ := h.own
  exact ⟨D, n, h1.kept hg hne, h2⟩
set_option maxRecDepth 100000 in
theorem MapIs.call (h : MapIs K w mb es) (hb : Below w.heap.size w w') : MapIs K w' mb es := h.grown (only_below hb none) (by simp)
set_option maxRecDepth 100000 in
theorem MapIs.below {B : Nat} (h : MapIs K w mb es) (hb : Below B w w') (hlt : mb < B) : MapIs K w' mb es := by
  obtain ⟨D, n, ⟨es', clock, hh, r1⟩, h2⟩ := h.own
  exact ⟨D, n, ⟨es', clock, (hb.block _ hlt).trans hh, r1⟩, h2⟩
set_option maxRecDepth 100000 in
theorem MapIs.ne (h : MapIs K w mb es) {g : Nat} {t : TypeId} {cs : Array Value} (hb : Box w g t cs) : g ≠ mb := by
  obtain ⟨D, n, ⟨es', clock, h1, _⟩, _⟩ := h.own
  intro e
  subst e
  unfold Box at hb
  rw [hb] at h1
  cases h1
set_option maxRecDepth 100000 in
theorem MapIs.made (K : MKey κ) (w : World) : MapIs K (w.alloc (.map #[] 0)) w.heap.size [] :=
  ⟨.map [], 0, World.ownsMap_made w _ _ _, ⟨fun e he => (by cases he), fun kl hk => (by cases hk), (by simp)⟩⟩

set_option maxRecDepth 100000 in
/-- As many entries as the list has. -/
theorem MReads.size {D : DataW Value} (h : MReads K D es) {n : Nat} (hw : w.ownsMap Tryz.prog K.t anyV mb n D) : Maps.size D = es.length := by
  obtain ⟨ls, rfl, hp, hk⟩ := hw.entries K.keyed
  have h1 : (ls.map Prod.fst).Nodup := by
    unfold List.Nodup
    rw [List.pairwise_map]
    exact hp
  have h2 : (es.map fun e => K.lit e.1).Nodup := by
    have := h.keys
    unfold List.Nodup at this ⊢
    rw [List.pairwise_map] at this ⊢
    exact this.imp fun hne => K.ne hne
  have hm : ∀ kl, kl ∈ ls.map Prod.fst ↔ kl ∈ es.map fun e => K.lit e.1 := fun kl => by
    rw [List.mem_map, List.mem_map]
    constructor
    · rintro ⟨p, hp', rfl⟩
      exact h.has _ (List.any_eq_true.2 ⟨p, hp', WideAt.sameKey_self (hk p hp')⟩)
    · rintro ⟨e, he, rfl⟩
      obtain ⟨p, hp', hs⟩ := List.any_eq_true.1 ((h.has_iff _).2 ⟨e, he, rfl⟩)
      exact ⟨p, hp', WideAt.sameKey_eq hs⟩
  have hperm : (ls.map Prod.fst).Perm (es.map fun e => K.lit e.1) := (List.perm_ext_iff_of_nodup h1 h2).2 hm
  have := hperm.length_eq
  rw [List.length_map, List.length_map] at this
  exact this
set_option maxRecDepth 100000 in
theorem own_tight {D : DataW Value} {n : Nat} (h : w.ownsMap Tryz.prog K.t anyV mb n D) : w.ownsMap Tryz.prog K.t anyV mb (Maps.size D) D := by
  obtain ⟨es', clock, hb, F, hs, rfl⟩ := h
  refine ⟨es', clock, hb, F, ?_, rfl⟩
  show es'.size ≤ List.length _
  rw [length_read]
  exact Nat.le_refl _

set_option maxRecDepth 100000 in
/-- A key is looked up. -/
theorem MapIs.look_ok [DecidableEq κ] (h : MapIs K w mb es) {t e : TypeId} (ht : Tryz.prog.underlying t = some (.map K.t e)) {z : Value} (hz : (zeroValue e).run Tryz.prog w = .ok z w) (x : κ) :
    (Instr.lookup t (.map (some mb)) (K.enc x) true).run Tryz.prog w = .ok (.tuple #[(lookL es x).getD z, .bool (lookL es x).isSome]) w := by
  obtain ⟨D, n, h1, h2⟩ := h.own
  obtain ⟨v, ps, hr, hv⟩ := h1.look_ok K.keyed ht hz (zd := .held z) (zp := []) rfl (K.of x)
  cases e : lookL es x with
  | some u =>
    have h3 := h2.at_ _ (lookL_mem e)
    rw [has_true_of_atKey h3] at hr
    rw [h3] at hv
    obtain rfl : v = u := by
      simp only [anyV, Option.some.injEq, Prod.mk.injEq, DataW.held.injEq] at hv
      exact hv.1
    exact hr
  | none =>
    have h3 : Maps.has D (K.lit x) = false := by
      cases hh : Maps.has D (K.lit x)
      · rfl
      · obtain ⟨y, hy, hl⟩ := h2.has _ hh
        exact absurd (K.inj hl) (lookL_none e y hy)
    rw [h3] at hr
    rw [atKey_of_not_has h3] at hv
    obtain rfl : v = z := by
      simp only [anyV, Option.some.injEq, Prod.mk.injEq, DataW.held.injEq] at hv
      exact hv.1
    exact hr
set_option maxRecDepth 100000 in
theorem MapIs.look [DecidableEq κ] (h : MapIs K w mb es) {t e : TypeId} (ht : Tryz.prog.underlying t = some (.map K.t e)) {z : Value} (hz : (zeroValue e).run Tryz.prog w = .ok z w) (x : κ) :
    (Instr.lookup t (.map (some mb)) (K.enc x) false).run Tryz.prog w = .ok ((lookL es x).getD z) w := by
  obtain ⟨D, n, h1, h2⟩ := h.own
  obtain ⟨v, ps, hr, hv⟩ := h1.lookup K.keyed ht hz (zd := .held z) (zp := []) rfl (K.of x)
  cases e : lookL es x with
  | some u =>
    rw [h2.at_ _ (lookL_mem e)] at hv
    obtain rfl : v = u := by
      simp only [anyV, Option.some.injEq, Prod.mk.injEq, DataW.held.injEq] at hv
      exact hv.1
    exact hr
  | none =>
    have h3 : Maps.has D (K.lit x) = false := by
      cases hh : Maps.has D (K.lit x)
      · rfl
      · obtain ⟨y, hy, hl⟩ := h2.has _ hh
        exact absurd (K.inj hl) (lookL_none e y hy)
    rw [atKey_of_not_has h3] at hv
    obtain rfl : v = z := by
      simp only [anyV, Option.some.injEq, Prod.mk.injEq, DataW.held.injEq] at hv
      exact hv.1
    exact hr
set_option maxRecDepth 100000 in
/-- A value is written at a key. -/
theorem MapIs.put [DecidableEq κ] (h : MapIs K w mb es) {t e : TypeId} (ht : Tryz.prog.underlying t = some (.map K.t e)) (hl : es.length < maxLen) (x : κ) (v : Value) :
    ∃ w', (Instr.mapUpdate t (.map (some mb)) (K.enc x) v).run Tryz.prog w = .ok () w' ∧ MapIs K w' mb (setL es x v) ∧ w.grownBy w' (some mb) := by
  obtain ⟨D, n, h1, h2⟩ := h.own
  have h3 := own_tight h1
  rw [h2.size h1] at h3
  obtain ⟨w', hr, h4, h5⟩ := h3.store K.keyed ht hl (K.of x) (val := v) (d := .held v) (ps := []) rfl
  refine ⟨w', hr, ⟨_, _, h4, ⟨fun e he z => ?_, fun kl hk => ?_, setL_nodup h2.keys⟩⟩, h5.grown⟩
  · rcases (mem_setL e).1 he with rfl | ⟨he, hne⟩
    · exact atKey_put_same h1.isMap (K.key x) _ z
    · rw [atKey_put_other (K.ne hne)]
      exact h2.at_ e he z
  · by_cases e : kl = K.lit x
    · exact ⟨(x, v), (mem_setL _).2 (.inl rfl), e.symm⟩
    · rw [has_put_other e] at hk
      obtain ⟨y, hy, rfl⟩ := h2.has kl hk
      exact ⟨y, (mem_setL _).2 (.inr ⟨hy, fun e2 => e (by rw [e2])⟩), rfl⟩

/-! ### Walked -/
/-- A map that may be nil. -/
def MapOr (K : MKey κ) (w : World) (mv : Option Nat) (es : List (κ × Value)) : Prop :=
  match mv with
  | none => es = []
  | some mb => MapIs K w mb es
set_option maxRecDepth 100000 in
theorem MapOr.grown {mv : Option Nat} (h : MapOr K w mv es) {row : Option Nat} (hg : w.grownBy w' row) (hne : ∀ mb, mv = some mb → some mb ≠ row) : MapOr K w' mv es := by
  cases mv with
  | none => exact h
  | some mb => exact MapIs.grown h hg (hne mb rfl)
set_option maxRecDepth 100000 in
theorem MapOr.call {mv : Option Nat} (h : MapOr K w mv es) (hb : Below w.heap.size w w') : MapOr K w' mv es := h.grown (only_below hb none) (by simp)
set_option maxRecDepth 100000 in
theorem MapOr.keys {mv : Option Nat} (h : MapOr K w mv es) : (es.map Prod.fst).Nodup := by
  cases mv with
  | none =>
    have h' : es = [] := h
    rw [h']
    simp
  | some mb => exact MapIs.keys h
/-- An iterator in block r is under way: these have come. -/
def IterIs (K : MKey κ) (w : World) (mv : Option Nat) (r : Nat) (es done : List (κ × Value)) (cnt : Nat) : Prop :=
  match mv with
  | none => es = [] ∧ done = [] ∧ cnt = 0 ∧ w.heap[r]? = some (.mapIter none 0 #[] 0)
  | some mb => ∃ (D : DataW Value) (n : Nat) (left : Lit → Bool), w.ranges Tryz.prog K.t anyV mb r n D left cnt ∧ MReads K D es ∧ (∀ e ∈ es, left (K.lit e.1) = true ↔ e ∉ done) ∧ done.Nodup ∧ ∀ e ∈ done, e ∈ es
set_option maxRecDepth 100000 in
theorem IterIs.left_eq {mv : Option Nat} {r : Nat} {done : List (κ × Value)} {cnt : Nat} (h : IterIs K w mv r es done cnt) : w.rangeLeft (mv.getD r) r = cnt := by
  cases mv with
  | none =>
    obtain ⟨_, _, rfl, h4⟩ := h
    unfold World.rangeLeft
    rw [Option.getD_none, h4]
  | some mb =>
    obtain ⟨D, n, left, h1, _⟩ := h
    exact h1.left_eq
set_option maxRecDepth 100000 in
theorem IterIs.lt {mv : Option Nat} {r : Nat} {done : List (κ × Value)} {cnt : Nat} (h : IterIs K w mv r es done cnt) : r < w.heap.size := by
  cases mv with
  | none => exact (Array.getElem?_eq_some_iff.1 h.2.2.2).1
  | some mb =>
    obtain ⟨D, n, left, h1, _⟩ := h
    exact h1.lt
set_option maxRecDepth 100000 in
theorem IterIs.sub {mv : Option Nat} {r : Nat} {done : List (κ × Value)} {cnt : Nat} (h : IterIs K w mv r es done cnt) : done.Nodup ∧ ∀ e ∈ done, e ∈ es := by
  cases mv with
  | none =>
    obtain ⟨rfl, rfl, _⟩ := h
    exact ⟨List.nodup_nil, fun e he => (by cases he)⟩
  | some mb =>
    obtain ⟨D, n, left, _, _, _, h4, h5⟩ := h
    exact ⟨h4, h5⟩
set_option maxRecDepth 100000 in
theorem IterIs.grown {mv : Option Nat} {r : Nat} {done : List (κ × Value)} {cnt : Nat} (h : IterIs K w mv r es done cnt) {row : Option Nat} (hg : w.grownBy w' row) (hne : ∀ mb, mv = some mb → some mb ≠ row) (hr : some r ≠ row) : IterIs K w' mv r es done cnt := by
  cases mv with
  | none =>
    obtain ⟨h1, h2, h3, h4⟩ := h
    exact ⟨h1, h2, h3, (hg.block r (Array.getElem?_eq_some_iff.1 h4).1 hr).trans h4⟩
  | some mb =>
    obtain ⟨D, n, left, h1, h2, h3, h4, h5⟩ := h
    exact ⟨D, n, left, h1.kept hg (hne mb rfl) hr, h2, h3, h4, h5⟩
set_option maxRecDepth 100000 in
theorem IterIs.call {mv : Option Nat} {r : Nat} {done : List (κ × Value)} {cnt : Nat} (h : IterIs K w mv r es done cnt) (hb : Below w.heap.size w w') : IterIs K w' mv r es done cnt := h.grown (only_below hb none) (by simp) (by simp)
set_option maxRecDepth 100000 in
theorem IterIs.step {D : DataW Value} {left : Lit → Bool} {done : List (κ × Value)} (h2 : MReads K D es) (h3 : ∀ e ∈ es, left (K.lit e.1) = true ↔ e ∉ done) (h4 : done.Nodup) (h5 : ∀ e ∈ done, e ∈ es)
    {x : κ} {v : Value} (hl : left (K.lit x) = true) (hat : ∀ z, D.atKey (K.lit x) z = .held v) :
    (x, v) ∈ es ∧ (x, v) ∉ done ∧ (∀ e ∈ es, (left (K.lit e.1) && !(K.lit e.1).sameKey (K.lit x)) = true ↔ e ∉ done ++ [(x, v)]) ∧ (done ++ [(x, v)]).Nodup ∧ ∀ e ∈ done ++ [(x, v)], e ∈ es := by
  obtain ⟨⟨y, u⟩, he, hl2⟩ := h2.has _ (has_true_of_atKey hat)
  obtain rfl := K.inj hl2
  have h6 := h2.at_ _ he (.held u)
  rw [hat] at h6
  injection h6 with h6
  subst h6
  have hn := (h3 _ he).1 hl
  refine ⟨he, hn, fun e hE => ?_, ?_, ?_⟩
  · rw [List.mem_append, List.mem_singleton, not_or, ← h3 e hE, Bool.and_eq_true]
    have h7 : (!(K.lit e.1).sameKey (K.lit y)) = true ↔ ¬ e = (y, v) := by
      constructor
      · rintro hs rfl
        rw [WideAt.sameKey_self (K.key y)] at hs
        cases hs
      · intro hne
        rw [sameKey_ne]
        · rfl
        · intro e2
          apply hne
          obtain ⟨a, b⟩ := e
          obtain rfl : a = y := K.inj e2
          rw [h2.uniq hE he]
    rw [h7]
  · rw [List.nodup_append]
    refine ⟨h4, by simp, ?_⟩
    rintro a ha b hb rfl
    rw [List.mem_singleton] at hb
    subst hb
    exact hn ha
  · intro e hE
    rcases List.mem_append.1 hE with hE | hE
    · exact h5 e hE
    · rw [List.mem_singleton.1 hE]; exact he
set_option maxRecDepth 100000 in
theorem IterIs.whole {left : Lit → Bool} {done : List (κ × Value)} (h1 : (es.map Prod.fst).Nodup) (h3 : ∀ e ∈ es, left (K.lit e.1) = true ↔ e ∉ done) (h4 : done.Nodup) (h5 : ∀ e ∈ done, e ∈ es) (hl : ∀ kl, left kl = false) : done.Perm es := by
  have hn : es.Nodup := by
    unfold List.Nodup at h1 ⊢
    rw [List.pairwise_map] at h1
    exact h1.imp fun {a b} hne e => hne (by rw [e])
  refine (List.perm_ext_iff_of_nodup h4 hn).2 fun e => ⟨h5 e, fun he => ?_⟩
  by_cases hd : e ∈ done
  · exact hd
  · have := (h3 e he).2 hd
    rw [hl] at this
    cases this
end

section
variable {κ : Type} (K : MKey κ) (w : World) {ops : Array Oper} {rest : List Oper} {o : Oper} {a : Act} {Q : Exit → Act → World → Prop}
set_option maxRecDepth 100000 in
/-- 'range m'. -/
theorem wpList_range_is (hg : o.guard = none) (m : Operand) (t : TypeId) (hop : o.op = Op.range t m) (e : TypeId) (ht : Tryz.prog.underlying t = some (.map K.t e)) (mv : Option Nat) (es : List (κ × Value))
    (hm : a.eval m = .map mv) (h : MapOr K w mv es)
    (hK : ∀ w' cnt, IterIs K w' mv w.heap.size es [] cnt → w.grownBy w' none → w'.heap.size = w.heap.size + 1 → wpList Tryz.prog ops Q rest (a.put o.dst (.pointer (some ⟨w.heap.size, 0, none⟩))) w') :
    wpList Tryz.prog ops Q (o :: rest) a w := by
  cases mv with
  | none =>
    obtain rfl : es = [] := h
    refine wpList_plain hg fun K' hK' => ?_
    have hrun := run_range_nilMap (P := Tryz.prog) w t K.t e ht
    unfold Oper.wp
    simp [execOp, hop, hm, hrun, Result.andThen]
    exact hK' _ _ (hK _ 0 ⟨rfl, rfl, rfl, (MapKept.heap_alloc w _).1⟩ (World.grownBy_alloc w _ none) (by simp))
  | some mb =>
    obtain ⟨D, n, h1, h2⟩ := h.own
    refine wpList_range_own w hg m t hop K.t e K.keyed ht anyV mb n D hm h1 fun w' h3 h4 h5 => hK w' _ ⟨D, n, _, h3, h2, fun e he => ?_, List.nodup_nil, fun e he => (by cases he)⟩ h4 h5
    rw [h2.has_iff]
    exact ⟨fun _ => by simp, fun _ => ⟨e, he, rfl⟩⟩
set_option maxRecDepth 100000 in
/-- The step. -/
theorem wpList_next_is (hg : o.guard = none) (it : Operand) (hop : o.op = Op.next it false) (mv : Option Nat) (r : Nat) (es done : List (κ × Value)) (cnt : Nat)
    (hit : a.eval it = .pointer (some ⟨r, 0, none⟩)) (h : IterIs K w mv r es done cnt)
    (hDone : done.Perm es → wpList Tryz.prog ops Q rest (a.put o.dst (.tuple #[.bool false])) w)
    (hMore : ∀ (x : κ) (v : Value) (w' : World) (cnt' : Nat), (x, v) ∈ es → (x, v) ∉ done → IterIs K w' mv r es (done ++ [(x, v)]) cnt' → cnt' < cnt →
      w.grownBy w' (some r) → w'.heap.size = w.heap.size → (Instr.entry (.pointer (some ⟨r, 0, none⟩))).run Tryz.prog w' = .ok (.tuple #[K.enc x, v]) w' → wpList Tryz.prog ops Q rest (a.put o.dst (.tuple #[.bool true, K.enc x, v])) w') :
    wpList Tryz.prog ops Q (o :: rest) a w := by
  cases mv with
  | none =>
    obtain ⟨rfl, rfl, rfl, h4⟩ := h
    refine wpList_plain hg fun K' hK' => ?_
    unfold Oper.wp
    have hrun : (Instr.next (.pointer (some ⟨r, 0, none⟩)) false o.type).run Tryz.prog w = .ok (.tuple #[.bool false]) w := by
      simp only [Instr.next, getObj, Sem.run_bind, Sem.run, h4, Result.andThen]
      rfl
    simp [execOp, hop, hit, hrun, Result.andThen]
    exact hK' _ _ (hDone (List.Perm.refl _))
  | some mb =>
    obtain ⟨D, n, left, h1, h2, h3, h4, h5⟩ := h
    refine wpList_next_ranges w hg it hop K.t K.keyed anyV K.enc id K.inv (fun v _ _ => ⟨v, rfl⟩) mb r n D left cnt hit h1 (fun _ hl => hDone (IterIs.whole h2.keys h3 h4 h5 hl)) fun x v kl y w' cnt' hkey hlk hv hat hrg hlt hgr hsz hen => ?_
    have e1 := K.of x
    rw [hkey] at e1
    injection e1 with e1
    subst e1
    have e2 : y.1 = .held v := by
      simp only [anyV, Option.some.injEq, id_eq] at hv
      rw [← hv]
    obtain ⟨s1, s2, s3, s4, s5⟩ := IterIs.step h2 h3 h4 h5 hlk (fun z => (hat z).trans e2)
    exact hMore x v w' cnt' s1 s2 ⟨D, n, _, hrg, h2, s3, s4, s5⟩ hlt hgr hsz hen
end
end Go.Proofs.YtejnfgcnifcpaaaGreatDoor

namespace Go.Proofs.YtejnfgcnifcpaaaGreatDoor
open Go.RowKit Go.Maps

set_option maxRecDepth 100000 in
theorem int_lits13 (d : Nat) (h : Int) (hw : (Lit.int .i64 h).wf = true) : ∃ L, Tryz.prog.keyLits (d + 1) 3 [.int .i64 h] = some L := by
  unfold Program.keyLits
  rw [Tryz.underlying3]
  simp [hw]
set_option maxRecDepth 100000 in
theorem int_inv13 {d : Nat} {v : Value} {L : List Lit} (h : Tryz.prog.keyLits (d + 1) 3 [v] = some L) : ∃ k : Int, v = .int .i64 k ∧ (Lit.int .i64 k).wf = true := by
  unfold Program.keyLits at h
  rw [Tryz.underlying3] at h
  cases v <;> simp at h
  rename_i q k
  obtain ⟨⟨rfl, hw⟩, _⟩ := h
  exact ⟨k, rfl, hw⟩

/-! ### Numbers -/
abbrev ZX := {i : Int // (Lit.int .i64 i).wf = true}
set_option maxRecDepth 100000 in
theorem zkeyed13 : Keyed Tryz.prog 3 := int_keyed Tryz.underlying3
noncomputable def zKey : MKey ZX where
  t := 3
  enc := fun i => .int .i64 i.1
  lit := fun i => .int .i64 i.1
  keyed := zkeyed13
  of := fun i => keyOf_int_mk Tryz.underlying3 i.2
  inv := fun key kl h => by
    obtain ⟨x, rfl, _, hw⟩ := Maps.keyOf_int_inv Tryz.underlying3 h
    exact ⟨⟨x, hw⟩, rfl⟩
  encinj := fun x y h => by
    injection h with _ h
    exact Subtype.ext h

/-! ### Places -/
abbrev plV (k r f : Int) : Array Value := #[.int .i64 k, .int .i64 r, .int .i64 f]
abbrev PlX := {p : Int × Int × Int // (Lit.int .i64 p.1).wf = true ∧ (Lit.int .i64 p.2.1).wf = true ∧ (Lit.int .i64 p.2.2).wf = true}
end Go.Proofs.YtejnfgcnifcpaaaGreatDoor

namespace Go.Proofs.YtejnfgcnifcpaaaGreatDoor
open Go.RowKit Go.Maps

/-- A vote. -/
structure VtX where
  kind : Int
  epoch : Int
  height : Int
  round : Int
  dig : List UInt8
  frm : Int
  leaf : Int
  opn : List (List UInt8)
  sht : List (List UInt8)
  pth : List (List UInt8)
  len : dig.length = 32
/-- A vote as memory has it: where its lists lie. -/
structure VtM where
  x : VtX
  A : Option Addr
  a : Nat
  B : Option Addr
  b : Nat
  C : Option Addr
  c : Nat
def vtL (k e h r : Int) (d : List UInt8) (f n : Int) (u v p : Value) : List Value := .int .i64 k :: .int .i64 e :: .int .i64 h :: .int .i64 r :: (d.map bv ++ [.int .i64 f, .int .i64 n, u, v, p])
set_option maxRecDepth 100000 in
theorem vtL_dig (k e h r : Int) (d : List UInt8) (f n : Int) (u v p : Value) : vtL k e h r d f n u v p = [.int .i64 k, .int .i64 e, .int .i64 h, .int .i64 r] ++ (d.map bv ++ [.int .i64 f, .int .i64 n, u, v, p]) := rfl
set_option maxRecDepth 100000 in
theorem vtL_tail (k e h r : Int) (d : List UInt8) (f n : Int) (u v p : Value) : vtL k e h r d f n u v p = (.int .i64 k :: .int .i64 e :: .int .i64 h :: .int .i64 r :: d.map bv) ++ [.int .i64 f, .int .i64 n, u, v, p] := rfl
section
variable {k e h r f n : Int} {d : List UInt8} {u v p : Value}
set_option maxRecDepth 100000 in
theorem vtL_len (hd : d.length = 32) (k e h r f n : Int) (u v p : Value) : (vtL k e h r d f n u v p).length = 41 := by
  unfold vtL
  simp [hd]
set_option maxRecDepth 100000 in
theorem vtL_one (k e h r f n : Int) (d : List UInt8) {u v p : Value} (hu : u.oneCell' = true) (hv : v.oneCell' = true) (hp : p.oneCell' = true) : ∀ z ∈ vtL k e h r d f n u v p, z.oneCell' = true := by
  intro z hz
  unfold vtL at hz
  rcases List.mem_cons.1 hz with rfl | hz
  · rfl
  rcases List.mem_cons.1 hz with rfl | hz
  · rfl
  rcases List.mem_cons.1 hz with rfl | hz
  · rfl
  rcases List.mem_cons.1 hz with rfl | hz
  · rfl
  rcases List.mem_append.1 hz with hz | hz
  · exact bv_one _ z hz
  simp only [List.mem_cons, List.not_mem_nil, or_false] at hz
  rcases hz with rfl | rfl | rfl | rfl | rfl
  · rfl
  · rfl
  · exact hu
  · exact hv
  · exact hp
set_option maxRecDepth 100000 in
theorem vtL_size (hd : d.length = 32) (k e h r f n : Int) (u v p : Value) : (Tryz.prog.info? 69).map (·.size) = some (vtL k e h r d f n u v p).length := by
  rw [vtL_len hd]
  kernel_rfl
end
def VtM.cells (m : VtM) : List Value := vtL m.x.kind m.x.epoch m.x.height m.x.round m.x.dig m.x.frm m.x.leaf (.slice m.A m.x.opn.length m.a) (.slice m.B m.x.sht.length m.b) (.slice m.C m.x.pth.length m.c)
set_option maxRecDepth 100000 in
theorem VtM.cells_len (m : VtM) : m.cells.length = 41 := vtL_len m.x.len _ _ _ _ _ _ _ _ _
set_option maxRecDepth 100000 in
theorem VtM.cells_one (m : VtM) : ∀ v ∈ m.cells, v.oneCell' = true := vtL_one _ _ _ _ _ _ _ rfl rfl rfl
set_option maxRecDepth 100000 in
theorem VtM.size (m : VtM) : (Tryz.prog.info? 69).map (·.size) = some m.cells.length := vtL_size m.x.len _ _ _ _ _ _ _ _ _
def zvtV : Array Value := #[.int .i64 0, .int .i64 0, .int .i64 0, .int .i64 0, .int .u8 0, .int .u8 0, .int .u8 0, .int .u8 0, .int .u8 0, .int .u8 0, .int .u8 0, .int .u8 0, .int .u8 0, .int .u8 0, .int .u8 0, .int .u8 0, .int .u8 0, .int .u8 0, .int .u8 0, .int .u8 0, .int .u8 0, .int .u8 0, .int .u8 0, .int .u8 0, .int .u8 0, .int .u8 0, .int .u8 0, .int .u8 0, .int .u8 0, .int .u8 0, .int .u8 0, .int .u8 0, .int .u8 0, .int .u8 0, .int .u8 0, .int .u8 0, .int .i64 0, .int .i64 0, .slice none 0 0, .slice none 0 0, .slice none 0 0]
def zvt : VtM := ⟨⟨0, 0, 0, 0, zeros, 0, 0, [], [], [], rfl⟩, none, 0, none, 0, none, 0⟩
set_option maxRecDepth 100000 in
theorem zvt_cells : zvt.cells.toArray = zvtV := rfl
set_option maxRecDepth 100000 in
theorem zvtV_size : zvtV.size = 41 := rfl
set_option maxRecDepth 100000 in
theorem zero_vt (w : World) : (zeroValue 69).run Tryz.prog w = .ok (.agg zvtV) w := by kernel_rfl

noncomputable def ldVt (v : Value) : Sem Value := Instr.loadAt 69 v
set_option maxRecDepth 100000 in
theorem ldVt_def (v : Value) : Instr.loadAt 69 v = ldVt v := rfl
noncomputable def stVt (p v : Value) : Sem Unit := Instr.storeAt 69 p v
set_option maxRecDepth 100000 in
theorem stVt_def (p v : Value) : Instr.storeAt 69 p v = stVt p v := rfl
/-! ### What a vote's cells are -/
section
variable {w : World} {g o : Nat} {t : TypeId} {k e h r f n : Int} {d : List UInt8} {u v p : Value}
set_option maxRecDepth 100000 in
theorem Box.vt_0 (hb : Box w g t (vtL k e h r d f n u v p).toArray) : w.cell? ⟨g, 0, none⟩ = some (.int .i64 k) := by rw [hb.cell, List.getElem?_toArray]; rfl
set_option maxRecDepth 100000 in
theorem Box.vt_1 (hb : Box w g t (vtL k e h r d f n u v p).toArray) : w.cell? ⟨g, 1, none⟩ = some (.int .i64 e) := by rw [hb.cell, List.getElem?_toArray]; rfl
set_option maxRecDepth 100000 in
theorem Box.vt_2 (hb : Box w g t (vtL k e h r d f n u v p).toArray) : w.cell? ⟨g, 2, none⟩ = some (.int .i64 h) := by rw [hb.cell, List.getElem?_toArray]; rfl
set_option maxRecDepth 100000 in
theorem Box.vt_3 (hb : Box w g t (vtL k e h r d f n u v p).toArray) : w.cell? ⟨g, 3, none⟩ = some (.int .i64 r) := by rw [hb.cell, List.getElem?_toArray]; rfl
set_option maxRecDepth 100000 in
theorem Box.vt_dig (hb : Box w g t (vtL k e h r d f n u v p).toArray) : w.rangeAt g 4 (d.map bv) := Box.range_mid (pre := [.int .i64 k, .int .i64 e, .int .i64 h, .int .i64 r]) (post := [.int .i64 f, .int .i64 n, u, v, p]) hb rfl
set_option maxRecDepth 100000 in
theorem Box.vt_tail (hd : d.length = 32) (hb : Box w g t (vtL k e h r d f n u v p).toArray) (j : Nat) : w.cell? ⟨g, 36 + j, none⟩ = [.int .i64 f, .int .i64 n, u, v, p][j]? := by
  rw [hb.cell, List.getElem?_toArray, vtL_tail, List.getElem?_append_right (by simp [hd])]
  congr 1
  simp [hd]
set_option maxRecDepth 100000 in
theorem Box.vt_36 (hd : d.length = 32) (hb : Box w g t (vtL k e h r d f n u v p).toArray) : w.cell? ⟨g, 36, none⟩ = some (.int .i64 f) := hb.vt_tail hd 0
set_option maxRecDepth 100000 in
theorem Box.vt_37 (hd : d.length = 32) (hb : Box w g t (vtL k e h r d f n u v p).toArray) : w.cell? ⟨g, 37, none⟩ = some (.int .i64 n) := hb.vt_tail hd 1
set_option maxRecDepth 100000 in
theorem Box.vt_38 (hd : d.length = 32) (hb : Box w g t (vtL k e h r d f n u v p).toArray) : w.cell? ⟨g, 38, none⟩ = some u := hb.vt_tail hd 2
set_option maxRecDepth 100000 in
theorem Box.vt_39 (hd : d.length = 32) (hb : Box w g t (vtL k e h r d f n u v p).toArray) : w.cell? ⟨g, 39, none⟩ = some v := hb.vt_tail hd 3
set_option maxRecDepth 100000 in
theorem Box.vt_40 (hd : d.length = 32) (hb : Box w g t (vtL k e h r d f n u v p).toArray) : w.cell? ⟨g, 40, none⟩ = some p := hb.vt_tail hd 4
set_option maxRecDepth 100000 in
theorem Box.vt_put38 (hd : d.length = 32) (hb : Box w g t (vtL k e h r d f n u v p).toArray) (z : Value) : Box (w.setCell ⟨g, 38, none⟩ z) g t (vtL k e h r d f n z v p).toArray := by
  have e1 : ∀ u, vtL k e h r d f n u v p = (.int .i64 k :: .int .i64 e :: .int .i64 h :: .int .i64 r :: (d.map bv ++ [.int .i64 f, .int .i64 n])) ++ (u :: [v, p]) := fun u => by unfold vtL; simp
  rw [e1] at hb ⊢
  exact Box.put_in hb (by simp [hd]) _
set_option maxRecDepth 100000 in
theorem Box.vt_put39 (hd : d.length = 32) (hb : Box w g t (vtL k e h r d f n u v p).toArray) (z : Value) : Box (w.setCell ⟨g, 39, none⟩ z) g t (vtL k e h r d f n u z p).toArray := by
  have e1 : ∀ v, vtL k e h r d f n u v p = (.int .i64 k :: .int .i64 e :: .int .i64 h :: .int .i64 r :: (d.map bv ++ [.int .i64 f, .int .i64 n, u])) ++ (v :: [p]) := fun u => by unfold vtL; simp
  rw [e1] at hb ⊢
  exact Box.put_in hb (by simp [hd]) _
set_option maxRecDepth 100000 in
theorem Box.vt_put40 (hd : d.length = 32) (hb : Box w g t (vtL k e h r d f n u v p).toArray) (z : Value) : Box (w.setCell ⟨g, 40, none⟩ z) g t (vtL k e h r d f n u v z).toArray := by
  have e1 : ∀ p, vtL k e h r d f n u v p = (.int .i64 k :: .int .i64 e :: .int .i64 h :: .int .i64 r :: (d.map bv ++ [.int .i64 f, .int .i64 n, u, v])) ++ (p :: []) := fun u => by unfold vtL; simp
  rw [e1] at hb ⊢
  exact Box.put_in hb (by simp [hd]) _
set_option maxRecDepth 100000 in
theorem range_vt (hd : d.length = 32) (hr : w.rangeAt g o (vtL k e h r d f n u v p)) : (ldVt (.pointer (some ⟨g, o, none⟩))).run Tryz.prog w = .ok (.agg (vtL k e h r d f n u v p).toArray) w :=
  run_loadAt_mid (P := Tryz.prog) w g o 69 (vtL k e h r d f n u v p) _ hr Tryz.underlying69 rfl (vtL_size hd k e h r f n u v p)
set_option maxRecDepth 100000 in
theorem Box.ld_vtl (hd : d.length = 32) (hb : Box w g t (vtL k e h r d f n u v p).toArray) : (ldVt (.pointer (some ⟨g, 0, none⟩))).run Tryz.prog w = .ok (.agg (vtL k e h r d f n u v p).toArray) w := range_vt hd hb.range
set_option maxRecDepth 100000 in
theorem Box.ld_vt {m : VtM} (hb : Box w g t m.cells.toArray) : (ldVt (.pointer (some ⟨g, 0, none⟩))).run Tryz.prog w = .ok (.agg m.cells.toArray) w := Box.ld_vtl m.x.len hb
set_option maxRecDepth 100000 in
theorem Box.st_vt {cs : Array Value} (hb : Box w g t cs) (hc : cs.size = 41) (m : VtM) :
    ∃ w', (stVt (.pointer (some ⟨g, 0, none⟩)) (.agg m.cells.toArray)).run Tryz.prog w = .ok () w' ∧ Box w' g t m.cells.toArray ∧ w.grownBy w' (some g) := by
  refine ⟨w.setCells g 0 m.cells, ?_, hb.cells_all m.cells.toArray (by rw [List.size_toArray, m.cells_len, hc]), only_cells (g := g) _ 0 _⟩
  exact run_storeAt_mid (P := Tryz.prog) _ g 0 69 m.cells.toArray (fun j hj => by
    rw [List.size_toArray, m.cells_len] at hj
    rw [hb.cell, hb.free, Array.getElem?_eq_getElem (by omega)]
    exact ⟨rfl, rfl⟩) (by rw [List.size_toArray]; exact m.size) (by have := all_oneCell_toArray m.cells_one; simpa using this)
set_option maxRecDepth 100000 in
theorem laid_vt (w : World) (m : VtM) : ∃ w', (stVt (.pointer (some ⟨w.heap.size, 0, none⟩)) (.agg m.cells.toArray)).run Tryz.prog (w.alloc (.cells zvtV 69)) = .ok () w' ∧ Box w' w.heap.size 69 m.cells.toArray ∧ Below w.heap.size w w' := by
  obtain ⟨w', h1, h2, h3⟩ := (Box.made w 69 zvtV).st_vt zvtV_size m
  exact ⟨w', h1, h2, ((Below.refl _ _).alloc (Nat.le_refl _) _).trans (below_only h3 (Nat.le_refl _) (by simp))⟩
set_option maxRecDepth 100000 in
theorem pl_one (k r f : Int) : ∀ v ∈ (plV k r f).toList, v.oneCell' = true := by
  intro v hv
  simp only [List.mem_cons, List.not_mem_nil, or_false] at hv
  rcases hv with rfl | rfl | rfl <;> rfl
end
set_option maxRecDepth 100000 in
theorem ret_vt {fn : Func} {q : Tmp} (hf : fn.results = #[.cell q 69]) {a : Act} {w : World} {g : Nat} (hq : a.tmps.getD q undef = .pointer (some ⟨g, 0, none⟩)) (hdf : a.defers = []) {t : TypeId} {m : VtM} (hb : Box w g t m.cells.toArray)
    {R : Ending → World → Prop} (hR : R (.returned (.agg m.cells.toArray)) w) : bodyPost Tryz.prog fn R .ret a w :=
  bodyPost_ret (results_cell_row hf _ w g t _ (0, 0) _ hq hb Tryz.underlying69 rfl (by rw [List.size_toArray]; exact m.size)) hdf hR

noncomputable def VtK : EK VtM where
  e := 69
  sl := 30
  k := 41
  bys := 152
  z := .agg zvtV
  enc := VtM.cells
  hk := by decide
  und := Tryz.underlying30
  els := by kernel_rfl
  info := by kernel_rfl
  hzs := rfl
  zone := zvt.cells_one
  len := VtM.cells_len
  one := VtM.cells_one
  hby := by decide

/-- A vote whose lists are seen. -/
structure VSee (w : World) (m : VtM) : Prop where
  opn : Digs w w.heap.size m.A m.x.opn
  sht : Digs w w.heap.size m.B m.x.sht
  pth : Digs w w.heap.size m.C m.x.pth
set_option maxRecDepth 100000 in
theorem VSee.call {w w' : World} {m : VtM} (h : VSee w m) (hb : Below w.heap.size w w') : VSee w' m := ⟨h.opn.far hb, h.sht.far hb, h.pth.far hb⟩
/-- A vote of few digests. -/
structure VFew (x : VtX) : Prop where
  opn : x.opn.length ≤ 200
  sht : x.sht.length ≤ 200
  pth : x.pth.length ≤ 200

/-- Digests that lie in a block of their own, from B on. -/
def DFresh (B : Nat) (A : Option Addr) (ds : List (List UInt8)) : Prop := ds = [] ∨ ∃ g, A = some ⟨g, 0, none⟩ ∧ B ≤ g
set_option maxRecDepth 100000 in
theorem Digs.fresh_aside {w w' : World} {B r : Nat} {A : Option Addr} {ds : List (List UInt8)} (h : Digs w w.heap.size A ds) (hf : DFresh B A ds) (hg : w.grownBy w' (some r)) (hr : r < B) : Digs w' w'.heap.size A ds := by
  refine ⟨h.1, ?_⟩
  rcases hf with rfl | ⟨g, rfl, hB⟩
  · exact .inl rfl
  · rcases h.2 with h0 | ⟨g', o, e, hlt, hc⟩
    · exact .inl h0
    · injection e with e
      injection e with e1 e2
      subst e1
      subst e2
      exact .inr ⟨g, 0, rfl, Nat.lt_of_lt_of_le hlt hg.size, fun j u hu => hg.cell (hc j u hu) (by intro e; injection e with e; have e' : g = r := e; omega)⟩

/-! ### slices.Clone of digests -/
set_option maxRecDepth 100000 in
theorem dgs_sub {w : World} {B : Nat} {A : Option Addr} {ds : List (List UInt8)} (h : Digs w B A ds) : ∃ xs : List {d : List UInt8 // d.length = 32}, xs.map (·.1) = ds ∧ DgK.See w B A xs := by
  have h1 : ∀ ds : List (List UInt8), (∀ d ∈ ds, d.length = 32) → ∃ xs : List {d : List UInt8 // d.length = 32}, xs.map (·.1) = ds := fun ds => by
    induction ds with
    | nil => exact fun _ => ⟨[], rfl⟩
    | cons d r ih =>
      intro hl
      obtain ⟨xs, rfl⟩ := ih fun y hy => hl y (List.mem_cons_of_mem _ hy)
      exact ⟨⟨d, hl d (List.mem_cons_self ..)⟩ :: xs, rfl⟩
  obtain ⟨xs, rfl⟩ := h1 ds h.1
  refine ⟨xs, rfl, ?_⟩
  show Sees w B A (DgK.flat xs)
  rw [dgk_flat]
  exact h.2
attribute [local go_sem ↓] bsT_def apAll_def
set_option maxRecDepth 100000 in
theorem clone_d (ds : List (List UInt8)) (A : Option Addr) (c : Nat) (hn : ds.length ≤ 200) (w : World) (hD : Digs w w.heap.size A ds) :
    Calls Tryz.prog 104 #[.slice A ds.length c] w fun e w' => ∃ A' c', e = .returned (.slice A' ds.length c') ∧ Digs w' w'.heap.size A' ds ∧ DFresh w.heap.size A' ds ∧ Below w.heap.size w w' := by
  obtain ⟨xs, rfl, hS⟩ := dgs_sub hD
  have hall : ∀ d ∈ xs.map (·.1), d.length = 32 := hD.1
  rw [List.length_map] at hn ⊢
  cases A with
  | none =>
    have hxs : xs = [] := hS.nil
    subst hxs
    have hq : ∀ w, (binOp .eql 63 (.slice none 0 c) (.slice none 0 0)).run Tryz.prog w = .ok (.bool true) w := fun w => Lib.run_eql_slice_nil w _ 26 none 0 c 0 0 Tryz.underlying63
    have HD := Lib.hid (hD.far (Below.refl _ _))
    clear hD hS hall
    go_enter Tryz.func104, Tryz.ntmps104
    go_wp2
    go_ret
    exact ⟨none, 0, rfl, HD.out, .inl rfl, Below.refl _ _⟩
  | some ad =>
    obtain ⟨w1, hw1⟩ : ∃ w1, w1 = w.alloc (.cells #[] 26) := ⟨_, rfl⟩
    have hF1 : Below w.heap.size w w1 := by
      rw [hw1]
      exact (Below.refl _ _).alloc (Nat.le_refl _) _
    have hb0 : (bsT 63 0 #[]).run Tryz.prog w = .ok (.slice (some ⟨w.heap.size, 0, none⟩) 0 0) w1 := by
      rw [hw1]
      exact DgK.build0 w
    have ho1 : DgK.Own w1 w.heap.size (.slice (some ⟨w.heap.size, 0, none⟩) 0 0) [] := by
      rw [hw1]
      exact DgK.own0 w (Nat.le_refl _)
    obtain ⟨v2, w2, hap0, ho2, hg2⟩ := DgK.append ho1 (A := some ad) (m := xs.length) (c := c) (es := xs) rfl (EK.See.far hS hF1) (by simp; omega) (by show (([] : List {d : List UInt8 // d.length = 32}).length + xs.length) * 32 ≤ _; simp; omega) hF1.size
    obtain ⟨A2, c2, rfl⟩ := ho2.slice
    have hap : (apAll #[63, 63] 63 #[.slice (some ⟨w.heap.size, 0, none⟩) 0 0, .slice (some ad) xs.length c]).run Tryz.prog w1 = .ok (.slice A2 xs.length c2) w2 := hap0
    have hsee : DgK.See w2 w2.heap.size A2 xs := EK.Own.see ho2
    have HO : Hid (Digs w2 w2.heap.size A2 (xs.map (·.1))) := Lib.hid ⟨hall, by
      have h6 : Sees w2 w2.heap.size A2 (DgK.flat xs) := hsee
      rw [dgk_flat] at h6
      exact h6⟩
    have HFR : Hid (DFresh w.heap.size A2 (xs.map (·.1))) := Lib.hid (by
      rcases Nat.eq_zero_or_pos xs.length with h0 | h0
      · exact .inl (by rw [List.eq_nil_of_length_eq_zero h0]; rfl)
      · obtain ⟨_, _, _, hp⟩ := ho2.bounds
        obtain ⟨g, e, hB, _⟩ := hp (by simpa using h0)
        exact .inr ⟨g, e, hB⟩)
    have HF : Hid (Below w.heap.size w w2) := Lib.hid (hF1.trans (below_own ho1 hg2 hF1.size))
    have hq : ∀ w, (binOp .eql 63 (.slice (some ad) xs.length c) (.slice none 0 0)).run Tryz.prog w = .ok (.bool false) w := fun w => Lib.run_eql_slice_nil w _ 26 (some ad) _ c 0 0 Tryz.underlying63
    clear hS hw1 hF1 ho1 ho2 hg2 hn hap0 hD hsee hall
    go_enter Tryz.func104, Tryz.ntmps104
    go_wp2
    go_ret
    exact ⟨A2, c2, rfl, HO.out, HFR.out, HF.out⟩
end Go.Proofs.YtejnfgcnifcpaaaGreatDoor

namespace Go.Proofs.YtejnfgcnifcpaaaGreatDoor
open Go.RowKit Go.Maps

/-- Numbers of a vote that can be. -/
structure VOk (x : VtX) : Prop where
  kind : (Lit.int .i64 x.kind).wf = true
  round : (Lit.int .i64 x.round).wf = true
  frm : (Lit.int .i64 x.frm).wf = true
  low : 0 ≤ x.round
  one : 1 ≤ x.frm
  most : x.frm ≤ 63
def plAt (k r f : Int) : PlX := if h : (Lit.int .i64 k).wf = true ∧ (Lit.int .i64 r).wf = true ∧ (Lit.int .i64 f).wf = true then ⟨(k, r, f), h⟩ else ⟨(0, 0, 0), by decide⟩
set_option maxRecDepth 100000 in
theorem plAt_val {k r f : Int} (h1 : (Lit.int .i64 k).wf = true) (h2 : (Lit.int .i64 r).wf = true) (h3 : (Lit.int .i64 f).wf = true) : (plAt k r f).1 = (k, r, f) := by
  unfold plAt
  rw [dif_pos ⟨h1, h2, h3⟩]
def VtX.at_ (x : VtX) : PlX := plAt x.kind x.round x.frm
set_option maxRecDepth 100000 in
theorem VOk.at_val {x : VtX} (h : VOk x) : x.at_.1 = (x.kind, x.round, x.frm) := plAt_val h.kind h.round h.frm
def VtM.ent (m : VtM) : PlX × Value := (m.x.at_, .agg m.cells.toArray)

/-- The lists of all votes are seen. -/
def BSee (w : World) (vs : List VtM) : Prop := ∀ m ∈ vs, VSee w m
set_option maxRecDepth 100000 in
theorem BSee.call {w w' : World} {vs : List VtM} (h : BSee w vs) (hb : Below w.heap.size w w') : BSee w' vs := fun m hm => (h m hm).call hb
set_option maxRecDepth 100000 in
/-- A block in which no list lies has turned. -/
theorem Sees.aside13 {w w' : World} {A : Option Addr} {xs : List Value} (h : Sees w w.heap.size A xs) {row : Option Nat} (hg : w.grownBy w' row) (hne : ∀ a v, w.cell? a = some v → some a.block ≠ row) : Sees w' w'.heap.size A xs := by
  rcases h with h0 | ⟨g, o, rfl, hlt, hc⟩
  · exact .inl h0
  · refine .inr ⟨g, o, rfl, Nat.lt_of_lt_of_le hlt hg.size, fun j u hu => ?_⟩
    have h1 := hc j u hu
    exact hg.cell h1 (hne _ _ h1)
set_option maxRecDepth 100000 in
theorem Digs.aside13 {w w' : World} {A : Option Addr} {ds : List (List UInt8)} (h : Digs w w.heap.size A ds) {row : Option Nat} (hg : w.grownBy w' row) (hne : ∀ a v, w.cell? a = some v → some a.block ≠ row) : Digs w' w'.heap.size A ds := ⟨h.1, Sees.aside13 h.2 hg hne⟩
set_option maxRecDepth 100000 in
theorem VSee.aside {w w' : World} {m : VtM} (h : VSee w m) {row : Option Nat} (hg : w.grownBy w' row) (hne : ∀ a v, w.cell? a = some v → some a.block ≠ row) : VSee w' m := ⟨h.opn.aside13 hg hne, h.sht.aside13 hg hne, h.pth.aside13 hg hne⟩
set_option maxRecDepth 100000 in
theorem MapIs.cell_ne {κ : Type} {K : MKey κ} {w : World} {mb : Nat} {es : List (κ × Value)} (h : MapIs K w mb es) (a : Addr) (v : Value) (ha : w.cell? a = some v) : some a.block ≠ some mb := by
  obtain ⟨D, n, ⟨es', clock, h1, _⟩, _⟩ := h.own
  intro e
  injection e with e
  unfold World.cell? at ha
  rw [e, h1] at ha
  cases ha

/-! ### vote.clone -/
attribute [local go_sem ↓] ldVt_def stVt_def
/-! ### A box made; its map -/
def ptrO (pv : Option Nat) : Value := .pointer (pv.map fun p => ⟨p, 0, none⟩)
end Go.Proofs.YtejnfgcnifcpaaaGreatDoor

namespace Go.Proofs.YtejnfgcnifcpaaaGreatDoor
open Go.RowKit Go.Maps

/-- Two votes of one place. -/
def samePl (a b : VtX) : Bool := decide (a.kind = b.kind) && decide (a.round = b.round) && decide (a.frm = b.frm)
set_option maxRecDepth 100000 in
theorem samePl_iff {a b : VtX} : samePl a b = true ↔ a.kind = b.kind ∧ a.round = b.round ∧ a.frm = b.frm := by
  unfold samePl
  simp only [Bool.and_eq_true, decide_eq_true_eq, and_assoc]
/-- Is there a vote of that place? -/
def hasPl (xs : List VtX) (x : VtX) : Bool := xs.any fun y => samePl y x
def addX (xs : List VtX) (x : VtX) : List VtX := if hasPl xs x then xs else xs ++ [x]
set_option maxRecDepth 100000 in
theorem at_eq {a b : VtX} (ha : VOk a) (hb : VOk b) : a.at_ = b.at_ ↔ samePl a b = true := by
  rw [samePl_iff, Subtype.ext_iff, ha.at_val, hb.at_val]
  simp only [Prod.mk.injEq]
set_option maxRecDepth 100000 in
theorem look_some13 {vs : List VtM} (hok : ∀ m ∈ vs, VOk m.x ∧ VFew m.x) {x : VtX} (hx : VOk x) (hh : hasPl (vs.map VtM.x) x = true) : ∃ m ∈ vs, lookL (vs.map VtM.ent) x.at_ = some (.agg m.cells.toArray) ∧ samePl m.x x = true := by
  cases e : lookL (vs.map VtM.ent) x.at_ with
  | some v =>
    obtain ⟨m, hm, he⟩ := List.mem_map.1 (lookL_mem e)
    unfold VtM.ent at he
    simp only [Prod.mk.injEq] at he
    exact ⟨m, hm, by rw [he.2], (at_eq (hok m hm).1 hx).1 he.1⟩
  | none =>
    unfold hasPl at hh
    rw [List.any_eq_true] at hh
    obtain ⟨y, hy, hs⟩ := hh
    obtain ⟨m, hm, rfl⟩ := List.mem_map.1 hy
    exact absurd ((at_eq (hok m hm).1 hx).2 hs) (lookL_none e _ (List.mem_map.2 ⟨m, hm, rfl⟩))
set_option maxRecDepth 100000 in
theorem look_none13 {vs : List VtM} (hok : ∀ m ∈ vs, VOk m.x ∧ VFew m.x) {x : VtX} (hx : VOk x) (hh : hasPl (vs.map VtM.x) x = false) : x.at_ ∉ (vs.map VtM.ent).map Prod.fst ∧ lookL (vs.map VtM.ent) x.at_ = none := by
  have h1 : ∀ m ∈ vs, m.x.at_ ≠ x.at_ := fun m hm e => by
    have h2 := (at_eq (hok m hm).1 hx).1 e
    unfold hasPl at hh
    rw [List.any_eq_false] at hh
    exact hh m.x (List.mem_map.2 ⟨m, hm, rfl⟩) h2
  constructor
  · intro hm
    obtain ⟨e, he, h2⟩ := List.mem_map.1 hm
    obtain ⟨m, hm', rfl⟩ := List.mem_map.1 he
    exact h1 m hm' h2
  · cases e : lookL (vs.map VtM.ent) x.at_ with
    | none => rfl
    | some v =>
      obtain ⟨m, hm, he⟩ := List.mem_map.1 (lookL_mem e)
      unfold VtM.ent at he
      simp only [Prod.mk.injEq] at he
      exact absurd he.1 (h1 m hm)

noncomputable def alVt (b : Bool) (v : Value) : Sem Value := Instr.alloc 69 b v
set_option maxRecDepth 100000 in
theorem alVt_def (b : Bool) (v : Value) : Instr.alloc 69 b v = alVt b v := rfl
set_option maxRecDepth 100000 in
theorem al_vt (w : World) : (alVt true (.tuple #[])).run Tryz.prog w = .ok (.pointer (some ⟨w.heap.size, 0, none⟩)) (w.alloc (.cells zvtV 69)) := by
  have h := zero_vt w
  unfold alVt Instr.alloc
  simp [Sem.run_bind, h, newVar, newRow, Value.cells]
attribute [local go_sem ↓] ldVt_def stVt_def alVt_def

end Go.Proofs.YtejnfgcnifcpaaaGreatDoor

namespace Go.Proofs.YtejnfgcnifcpaaaGreatDoor
open Go.RowKit Go.Maps Go.Sort

/-! ### Lists that lie in blocks of their own -/
set_option maxRecDepth 100000 in
theorem DFresh.low {B B' : Nat} {A : Option Addr} {ds : List (List UInt8)} (h : DFresh B A ds) (hb : B' ≤ B) : DFresh B' A ds := by
  rcases h with h | ⟨g, h1, h2⟩
  · exact .inl h
  · exact .inr ⟨g, h1, Nat.le_trans hb h2⟩
structure FreshM (B : Nat) (m : VtM) : Prop where
  opn : DFresh B m.A m.x.opn
  sht : DFresh B m.B m.x.sht
  pth : DFresh B m.C m.x.pth
/-- Not in that block. -/
def OffD (r : Option Nat) (A : Option Addr) (ds : List (List UInt8)) : Prop := ds = [] ∨ ∀ a, A = some a → some a.block ≠ r
set_option maxRecDepth 100000 in
theorem Digs.off {w w' : World} {r : Option Nat} {A : Option Addr} {ds : List (List UInt8)} (h : Digs w w.heap.size A ds) (ho : OffD r A ds) (hg : w.grownBy w' r) : Digs w' w'.heap.size A ds := by
  refine ⟨h.1, ?_⟩
  rcases ho with rfl | ho
  · exact .inl rfl
  · rcases h.2 with h0 | ⟨g, o, rfl, hlt, hc⟩
    · exact .inl h0
    · exact .inr ⟨g, o, rfl, Nat.lt_of_lt_of_le hlt hg.size, fun j u hu => hg.cell (hc j u hu) (fun e => ho ⟨g, o, none⟩ rfl e)⟩
set_option maxRecDepth 100000 in
theorem DFresh.off {B : Nat} {r : Option Nat} {A : Option Addr} {ds : List (List UInt8)} (h : DFresh B A ds) (hr : ∀ g, r = some g → g < B) : OffD r A ds := by
  rcases h with h | ⟨g, rfl, h2⟩
  · exact .inl h
  · refine .inr fun a ha e => ?_
    injection ha with ha
    subst ha
    have := hr _ e.symm
    simp at this
    omega
set_option maxRecDepth 100000 in
theorem Digs.off_new {w : World} {A : Option Addr} {ds : List (List UInt8)} (h : Digs w w.heap.size A ds) : OffD (some w.heap.size) A ds := by
  rcases h.2 with h0 | ⟨g, o, rfl, hlt, _⟩
  · left
    cases ds with
    | nil => rfl
    | cons d r =>
      have := h.1 d (List.mem_cons_self ..)
      have h1 := congrArg List.length h0
      simp [this] at h1
  · refine .inr fun a ha e => ?_
    injection ha with ha
    subst ha
    injection e with e
    have e2 : g = w.heap.size := e
    omega
structure OffM (r : Option Nat) (m : VtM) : Prop where
  opn : OffD r m.A m.x.opn
  sht : OffD r m.B m.x.sht
  pth : OffD r m.C m.x.pth
set_option maxRecDepth 100000 in
theorem VSee.off {w w' : World} {r : Option Nat} {m : VtM} (h : VSee w m) (ho : OffM r m) (hg : w.grownBy w' r) : VSee w' m := ⟨h.opn.off ho.opn hg, h.sht.off ho.sht hg, h.pth.off ho.pth hg⟩
set_option maxRecDepth 100000 in
theorem FreshM.off {B : Nat} {r : Option Nat} {m : VtM} (h : FreshM B m) (hr : ∀ g, r = some g → g < B) : OffM r m := ⟨h.opn.off hr, h.sht.off hr, h.pth.off hr⟩
set_option maxRecDepth 100000 in
theorem VSee.off_new {w : World} {m : VtM} (h : VSee w m) : OffM (some w.heap.size) m := ⟨h.opn.off_new, h.sht.off_new, h.pth.off_new⟩
set_option maxRecDepth 100000 in
/-- One vote more onto a row whose votes' lists lie elsewhere. -/
theorem vt_push {w : World} {base n c : Nat} {A : Option Addr} {ms : List VtM} (hown : VtK.Own w base (.slice A n c) ms) (hS : BSee w ms) (hO : ∀ m ∈ ms, OffM (Value.slice A n c).ownBlock m) {m : VtM} (hm : VSee w m) (hom : OffM (Value.slice A n c).ownBlock m) (hl : ms.length < 1000000) (hbase : base ≤ w.heap.size) :
    ∃ A' c' w', (bsT 30 1 #[(0, .agg m.cells.toArray)]).run Tryz.prog w = .ok (.slice (some ⟨w.heap.size, 0, none⟩) 1 1) (w.alloc (.cells m.cells.toArray 69)) ∧
      (apAll #[30, 30] 30 #[.slice A n c, .slice (some ⟨w.heap.size, 0, none⟩) 1 1]).run Tryz.prog (w.alloc (.cells m.cells.toArray 69)) = .ok (.slice A' (ms.length + 1) c') w' ∧
      VtK.Own w' base (.slice A' (ms.length + 1) c') (ms ++ [m]) ∧ BSee w' (ms ++ [m]) ∧ (∀ u ∈ ms ++ [m], OffM (Value.slice A' (ms.length + 1) c').ownBlock u) ∧ Below base w w' := by
  obtain ⟨w1, hw1⟩ : ∃ w1, w1 = w.alloc (.cells m.cells.toArray 69) := ⟨_, rfl⟩
  have hb1 : Below w.heap.size w w1 := by rw [hw1]; exact (Below.refl _ _).alloc (Nat.le_refl _) _
  have hs1 : VtK.See w1 w1.heap.size (some ⟨w.heap.size, 0, none⟩) [m] := by rw [hw1]; exact VtK.see_one w m
  have ho1 := EK.Own.keep hown hb1
  obtain ⟨i0, hi0, hz0, hz1, hz2⟩ := info_parts VtK.info
  have hfl : (VtK.flat [m]).length = 1 * 41 := by rw [VtK.flat_len]; rfl
  obtain ⟨v', w', hr, ho, hg, _, hat⟩ := run_append_own_at (P := Tryz.prog) w1 base 30 30 69 i0 _ 41 152 VtK.und hi0 hz0 hz1 hz2 rfl (by omega) _ ms.length _ ho1 ⟨w.heap.size, 0, none⟩ 1 1 (VtK.flat [m]) hfl (EK.See.add hs1) (VtK.flat_one [m]) (by unfold maxLen; omega) (by omega) (Nat.le_trans hbase hb1.size)
  have ho2 : VtK.Own w' base v' (ms ++ [m]) := by
    show w'.ownsRow base 69 41 v' (ms ++ [m]).length (VtK.flat (ms ++ [m]))
    rw [VtK.flat_app, List.length_append]
    exact ho
  obtain ⟨A', c', e⟩ := EK.Own.slice ho2
  have hn : (ms ++ [m]).length = ms.length + 1 := by simp
  rw [hn] at e
  subst e
  have hS1 : BSee w1 (ms ++ [m]) := fun u hu => by
    rcases List.mem_append.1 hu with hu | hu
    · exact (hS u hu).call hb1
    · rw [List.mem_singleton.1 hu]
      exact hm.call hb1
  have hO1 : ∀ u ∈ ms ++ [m], OffM (Value.slice A n c).ownBlock u := fun u hu => by
    rcases List.mem_append.1 hu with hu | hu
    · exact hO u hu
    · rw [List.mem_singleton.1 hu]
      exact hom
  refine ⟨A', c', w', VtK.build1 m (.agg m.cells.toArray) rfl (by decide) w, by rw [← hw1]; exact hr, ho2, fun u hu => (hS1 u hu).off (hO1 u hu) hg, fun u hu => ?_, (hb1.mono hbase).trans (below_own ho1 hg (Nat.le_trans hbase hb1.size))⟩
  rcases hat with e | e
  · rw [e]
    exact hO1 u hu
  · rw [e]
    exact (hS1 u hu).off_new

end Go.Proofs.YtejnfgcnifcpaaaGreatDoor
