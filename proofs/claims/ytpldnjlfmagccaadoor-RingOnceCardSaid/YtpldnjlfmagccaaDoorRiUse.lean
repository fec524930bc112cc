/-
  What a ring's calls leave of what was used: plain, and in memory.
-/
import Derived.Test.YtpldnjlfmagccaaDoorRiCall
import Derived.Test.YtpldnjlfmagccaaDoorRiSkip
import Derived.Maps.AppendAt
namespace Go.Proofs.YtpldnjlfmagccaaDoor
open Go.RowKit Go.Maps

set_option maxRecDepth 100000 in
theorem getD_set' (l : List Bool) (i : Nat) (b : Bool) (j : Nat) : (l.set i b).getD j false = if j = i ∧ i < l.length then b else l.getD j false := by
  rw [List.getD_eq_getElem?_getD, List.getElem?_set, List.getD_eq_getElem?_getD]
  by_cases h : i = j
  · subst h
    by_cases hl : i < l.length
    · simp [hl]
    · rw [if_pos rfl, if_neg hl, if_neg (fun e => hl e.2), List.getElem?_eq_none (by omega)]
  · rw [if_neg h, if_neg (fun e => h e.1.symm)]
/-- Each number that was used is told shut by the ring. -/
structure Use (es : List Ent) (ks : List KeyX) (U : Nat → List Int) : Prop where
  some_ : ∀ i (h : i < ks.length), ∀ m ∈ U i, ∃ e ∈ es, e.is (ks[i]'h).root (ks[i]'h).high = true ∧ ∃ j : Nat, m = (j : Int) ∧ j < e.next ∧ e.opens.getD j false = false
  none_ : ∀ i, ks.length ≤ i → U i = []
set_option maxRecDepth 100000 in
theorem Use.start : Use [] [] (fun _ => []) := ⟨fun i h => by simp at h, fun _ _ => rfl⟩
set_option maxRecDepth 100000 in
theorem Use.more {es : List Ent} {ks : List KeyX} {U : Nat → List Int} (u : Use es ks U) (e : Ent) : Use (es ++ [e]) ks U :=
  ⟨fun i h m hm => by
    obtain ⟨x, hx, h1, h2⟩ := u.some_ i h m hm
    exact ⟨x, List.mem_append_left _ hx, h1, h2⟩, u.none_⟩
set_option maxRecDepth 100000 in
theorem Use.key {es : List Ent} {ks : List KeyX} {U : Nat → List Int} (u : Use es ks U) (x : KeyX) : Use es (ks ++ [x]) U := by
  refine ⟨fun i h m hm => ?_, fun i hi => u.none_ i (by simp at hi; omega)⟩
  rcases Nat.lt_or_ge i ks.length with hlt | hge
  · rw [List.getElem_append_left hlt]
    exact u.some_ i hlt m hm
  · rw [u.none_ i hge] at hm
    cases hm
set_option maxRecDepth 100000 in
theorem Use.upd {w : World} {B rb mb n : Nat} {es : List Ent} (hr : RingW w B rb mb n es) {ks : List KeyX} {U : Nat → List Int} (u : Use es ks U) {e e' : Ent} (he : e ∈ es) (l : Like e e')
    (hm : ∀ j, j < e.next → e.opens.getD j false = false → j < e'.next ∧ e'.opens.getD j false = false) : Use (upd es e') ks U := by
  refine ⟨fun i h m hmm => ?_, u.none_⟩
  obtain ⟨x, hx, h1, j, rfl, h2, h3⟩ := u.some_ i h m hmm
  by_cases hs : x.sb = e.sb
  · obtain rfl := only_one hr.apart he hx hs
    obtain ⟨h4, h5⟩ := hm j h2 h3
    exact ⟨e', upd_mem he l.sb.symm, by rw [l.is]; exact h1, j, rfl, h4, h5⟩
  · exact ⟨x, List.mem_map.2 ⟨x, hx, by rw [if_neg (by rw [l.sb]; exact hs)]⟩, h1, j, rfl, h2, h3⟩
set_option maxRecDepth 100000 in
theorem one_key {w : World} {B rb mb n : Nat} {es : List Ent} (hr : RingW w B rb mb n es) {r : List UInt8} {h : Int} {a b : Ent} (ha : a ∈ es) (hb : b ∈ es) (h1 : a.is r h = true) (h2 : b.is r h = true) : a = b := by
  obtain ⟨e1, e2⟩ := Ent.is_iff.1 h1
  obtain ⟨e3, e4⟩ := Ent.is_iff.1 h2
  have hl : a.lit = b.lit := by
    unfold Ent.lit
    rw [e1, e2, e3, e4]
  have hk := hr.keys
  clear hr
  induction es with
  | nil => cases ha
  | cons y t ih =>
    obtain ⟨k1, k2⟩ := List.pairwise_cons.1 hk
    rcases List.mem_cons.1 ha with rfl | ha1 <;> rcases List.mem_cons.1 hb with rfl | hb1
    · rfl
    · exact absurd hl (k1 _ hb1)
    · exact absurd hl.symm (k1 _ ha1)
    · exact ih ha1 hb1 k2
set_option maxRecDepth 100000 in
/-- What is used up is not open. -/
theorem Use.fresh {w : World} {B rb mb n : Nat} {es : List Ent} (hr : RingW w B rb mb n es) {ks : List KeyX} {U : Nat → List Int} (u : Use es ks U) {e : Ent} (he : e ∈ es) {x : KeyX} (hk : e.is x.root x.high = true) {j : Nat} (hj : e.opens.getD j false = true) {i : Nat} (h : i < ks.length) (hx : ks[i]'h = x) : (j : Int) ∉ U i := by
  intro hm
  obtain ⟨y, hy, h1, j', e1, h2, h3⟩ := u.some_ i h _ hm
  rw [hx] at h1
  obtain rfl := one_key hr he hy hk h1
  have : j' = j := by omega
  subst this
  rw [hj] at h3
  cases h3
set_option maxRecDepth 100000 in
/-- One number more, where it is told shut. -/
theorem Use.put {es : List Ent} {ks : List KeyX} {U : Nat → List Int} (u : Use es ks U) {e : Ent} (he : e ∈ es) {x : KeyX} (hk : e.is x.root x.high = true) {j : Nat} (h1 : j < e.next) (h2 : e.opens.getD j false = false) {i : Nat} (h : i < ks.length) (hx : ks[i]'h = x) : Use es ks (fun q => if q = i then U i ++ [(j : Int)] else U q) := by
  refine ⟨fun q hq m hm => ?_, fun q hq => ?_⟩
  · by_cases e1 : q = i
    · subst e1
      simp only [if_pos] at hm
      rcases List.mem_append.1 hm with hm | hm
      · exact u.some_ q hq m hm
      · obtain rfl := List.mem_singleton.1 hm
        exact ⟨e, he, by rw [hx]; exact hk, j, rfl, h1, h2⟩
    · simp only [if_neg e1] at hm
      exact u.some_ q hq m hm
  · have : q ≠ i := by omega
    simp only [if_neg this]
    exact u.none_ q hq
set_option maxRecDepth 100000 in
/-- A tree is gone, and so is what was used of it. -/
theorem Use.gone {es : List Ent} {ks : List KeyX} {U U' : Nat → List Int} (u : Use es ks U) (x : KeyX) (h1 : ∀ i, U' i = [] ∨ (U' i = U i ∧ ∀ h : i < ks.length, ks[i]'h ≠ x)) : Use (es.filter fun e => !e.is x.root x.high) ks U' := by
  refine ⟨fun i h m hm => ?_, fun i hi => ?_⟩
  · rcases h1 i with e | ⟨e, hne⟩
    · rw [e] at hm
      cases hm
    · rw [e] at hm
      obtain ⟨y, hy, h2, h3⟩ := u.some_ i h m hm
      refine ⟨y, List.mem_filter.2 ⟨hy, ?_⟩, h2, h3⟩
      rw [Bool.not_eq_true', ← Bool.not_eq_true]
      intro h4
      obtain ⟨a1, a2⟩ := Ent.is_iff.1 h2
      obtain ⟨b1, b2⟩ := Ent.is_iff.1 h4
      exact hne h (KeyX.same (a1.symm.trans b1) (a2.symm.trans b2))
  · rcases h1 i with e | ⟨e, _⟩
    · exact e
    · rw [e, u.none_ i hi]

/-! ### A ring, and what was used -/
def RU (B rb mb k : Nat) (ks : List KeyX) (U : Nat → List Int) (es : List Ent) (w : World) : Prop := (∃ n, n ≤ k ∧ RingW w B rb mb n es) ∧ Use es ks U
variable {B rb mb k : Nat} {ks : List KeyX} {U : Nat → List Int} {es : List Ent} {w w' : World}
set_option maxRecDepth 100000 in
theorem RU.call (s : RU B rb mb k ks U es w) (hb : Below w.heap.size w w') : RU B rb mb k ks U es w' := by
  obtain ⟨⟨n, hn, h1⟩, h2⟩ := s
  exact ⟨⟨n, hn, h1.call hb⟩, h2⟩
set_option maxRecDepth 100000 in
theorem is_or (es : List Ent) (r : List UInt8) (h : Int) : (∃ e ∈ es, e.is r h = true) ∨ (∀ e ∈ es, e.is r h = false) := by
  by_cases q : ∃ e ∈ es, e.is r h = true
  · exact .inl q
  · exact .inr fun e he => by
      rw [← Bool.not_eq_true]
      exact fun h1 => q ⟨e, he, h1⟩
set_option maxRecDepth 100000 in
theorem ru_take (s : RU B rb mb k ks U es w) (x : KeyX) :
    Calls Tryd.prog 12 #[.pointer (some ⟨rb, 0, none⟩), x.enc] w fun e' w' => (∃ v, e' = .returned v) ∧ (∃ es', RU B rb mb k ks U es' w') ∧ RFrame B w w' := by
  obtain ⟨⟨n, hn, h1⟩, h2⟩ := s
  rcases is_or es x.root x.high with ⟨e, he, hk⟩ | hk
  · rcases Nat.lt_or_ge e.next (2 ^ e.h) with hlt | hge
    · refine (take_any h1 he hk hlt).mono ?_
      rintro e' w' ⟨rfl, h3, h4⟩
      refine ⟨⟨_, rfl⟩, ⟨_, ⟨n, hn, h3⟩, h2.upd h1 he ⟨rfl, rfl, rfl, rfl, rfl, rfl⟩ fun j hj ho => ⟨Nat.lt_succ_of_lt hj, ?_⟩⟩, h4⟩
      show (e.opens.set e.next true).getD j false = false
      rw [getD_set', if_neg (by omega)]
      exact ho
    · have := (h1.ents e he).next
      refine (take_spent h1 he hk (by omega)).mono ?_
      rintro e' w' ⟨rfl, hb⟩
      exact ⟨⟨_, rfl⟩, ⟨es, ⟨n, hn, h1.call hb⟩, h2⟩, RFrame.of_below hb⟩
  · refine (take_not h1 x.len x.wf hk).mono ?_
    rintro e' w' ⟨rfl, hb⟩
    exact ⟨⟨_, rfl⟩, ⟨es, ⟨n, hn, h1.call hb⟩, h2⟩, RFrame.of_below hb⟩
set_option maxRecDepth 100000 in
theorem ru_skip (s : RU B rb mb k ks U es w) (x : KeyX) (m : Int) :
    Calls Tryd.prog 15 #[.pointer (some ⟨rb, 0, none⟩), x.enc, .int .i64 m] w fun e' w' => (∃ v, e' = .returned v) ∧ (∃ es', RU B rb mb k ks U es' w') ∧ RFrame B w w' := by
  obtain ⟨⟨n, hn, h1⟩, h2⟩ := s
  rcases is_or es x.root x.high with ⟨e, he, hk⟩ | hk
  · obtain ⟨c, hc⟩ : ∃ c : Nat, (c : Int) = max 0 (min m ((2 ^ e.h : Nat) : Int)) := ⟨(max 0 (min m ((2 ^ e.h : Nat) : Int))).toNat, by omega⟩
    refine (skip_any h1 he hk m c hc).mono ?_
    rintro e' w' ⟨rfl, h3, h4⟩
    refine ⟨⟨_, rfl⟩, ⟨_, ⟨n, hn, h3⟩, h2.upd h1 he ⟨rfl, rfl, rfl, rfl, rfl, rfl⟩ fun j hj ho => ⟨Nat.lt_of_lt_of_le hj (Nat.le_max_left ..), ?_⟩⟩, h4⟩
    show (List.replicate c false ++ e.opens.drop c).getD j false = false
    rw [List.getD_eq_getElem?_getD]
    by_cases hcj : c ≤ j
    · rw [List.getElem?_append_right (by simpa using hcj), List.length_replicate, List.getElem?_drop, show c + (j - c) = j by omega, ← List.getD_eq_getElem?_getD]
      exact ho
    · rw [List.getElem?_append_left (by simp; omega), List.getElem?_replicate, if_pos (by omega)]
      rfl
  · refine (skip_not h1 x.len x.wf hk m).mono ?_
    rintro e' w' ⟨rfl, hb⟩
    exact ⟨⟨_, rfl⟩, ⟨es, ⟨n, hn, h1.call hb⟩, h2⟩, RFrame.of_below hb⟩
set_option maxRecDepth 100000 in
theorem ru_retire (s : RU B rb mb k ks U es w) (x : KeyX) :
    (Calls Tryd.prog 16 #[.pointer (some ⟨rb, 0, none⟩), x.enc] w fun e' w' => e' = .returned (.int .i64 7) ∧ RU B rb mb k ks U es w' ∧ RFrame B w w') ∨
    (Calls Tryd.prog 16 #[.pointer (some ⟨rb, 0, none⟩), x.enc] w fun e' w' => e' = .returned (.int .i64 0) ∧ (∃ es', (∃ n, n ≤ k ∧ RingW w' B rb mb n es') ∧ ∀ U' : Nat → List Int, (∀ i, U' i = [] ∨ (U' i = U i ∧ ∀ h : i < ks.length, ks[i]'h ≠ x)) → Use es' ks U') ∧ RFrame B w w') := by
  obtain ⟨⟨n, hn, h1⟩, h2⟩ := s
  rcases is_or es x.root x.high with ⟨e, he, hk⟩ | hk
  · refine .inr ((retire_any h1 he hk).mono ?_)
    rintro e' w' ⟨rfl, h3, h4⟩
    exact ⟨rfl, ⟨_, ⟨n, hn, h3⟩, fun U' hU => h2.gone x hU⟩, h4⟩
  · refine .inl ((retire_not h1 x.len x.wf hk).mono ?_)
    rintro e' w' ⟨rfl, hb⟩
    exact ⟨rfl, ⟨⟨n, hn, h1.call hb⟩, h2⟩, RFrame.of_below hb⟩
set_option maxRecDepth 100000 in
theorem zkey_x : (⟨List.replicate 32 0, 0, rfl, rfl⟩ : KeyX).enc = .agg zkey := rfl
set_option maxRecDepth 100000 in
theorem ru_add (s : RU B rb mb k ks U es w) (seed : List UInt8) (hs : seed.length = 32) (h : Int) (hk : k < 40) (hT : Roots w) (hB : B ≤ w.heap.size) :
    Calls Tryd.prog 11 #[.pointer (some ⟨rb, 0, none⟩), .agg (seed.map bv).toArray, .int .i64 h] w fun e' w' => RFrame B w w' ∧ (∃ es', RU B rb mb (k + 1) ks U es' w') ∧ ∃ (x : KeyX) (c : Int), e' = .returned (.tuple #[x.enc, .int .i64 c]) := by
  obtain ⟨⟨n, hn, h1⟩, h2⟩ := s
  by_cases hh : (decide (0 ≤ h) && decide (h ≤ 6)) = false
  · refine (radd_arg seed hs h hh rb w).mono ?_
    rintro e' w' ⟨rfl, hb⟩
    exact ⟨RFrame.of_below hb, ⟨es, ⟨n, by omega, h1.call hb⟩, h2⟩, ⟨List.replicate 32 0, 0, rfl, rfl⟩, _, rfl⟩
  · obtain ⟨q, rfl, hq⟩ : ∃ q : Nat, h = (q : Int) ∧ q ≤ 6 := by
      simp at hh
      exact ⟨h.toNat, by omega, by omega⟩
    rcases is_or es (keyT seed q) (q : Int) with ⟨e, he, hk'⟩ | hk'
    · refine (radd_other h1 seed hs q hq hT he hk').mono ?_
      rintro e' w' ⟨rfl, hb⟩
      exact ⟨RFrame.of_below hb, ⟨es, ⟨n, by omega, h1.call hb⟩, h2⟩, ⟨List.replicate 32 0, 0, rfl, rfl⟩, _, rfl⟩
    · refine (radd_any h1 seed hs q hq hT hk' (by simp [maxLen]; omega) hB).mono ?_
      rintro e' w' ⟨rfl, ⟨sb, ob, tb, gb, h3⟩, h4⟩
      exact ⟨h4, ⟨_, ⟨n + 1, by omega, h3⟩, h2.more _⟩, ⟨keyT seed q, (q : Int), keyT_len seed q, small_wf q (by omega)⟩, _, rfl⟩
/-- What a signature leaves: a number that was not used, shut now. -/
def RuSigned (B rb mb k : Nat) (ks : List KeyX) (U : Nat → List Int) (x : KeyX) (n : Int) (d : List UInt8) (cs : Array Value) (w' : World) : Prop :=
  ∃ (m : Nat) (seed : List UInt8) (h : Nat) (es' : List Ent) (e : Ent), n = (m : Int) ∧ x.root = keyT seed h ∧ x.high = (h : Int) ∧ h ≤ 6 ∧ m < 2 ^ h ∧ SigW w' cs seed h m d ∧ RU B rb mb k ks U es' w' ∧ (∀ i (hi : i < ks.length), ks[i]'hi = x → (m : Int) ∉ U i) ∧ e ∈ es' ∧ e.is x.root x.high = true ∧ m < e.next ∧ e.opens.getD m false = false
set_option maxRecDepth 100000 in
theorem ru_sign (s : RU B rb mb k ks U es w) (x : KeyX) (n : Int) (d : List UInt8) (hd : d.length = 32) (hT : Roots w) (hB : B ≤ w.heap.size) (hl : 1 < B) :
    (∃ c : Int, c ≠ 0 ∧ Calls Tryd.prog 13 #[.pointer (some ⟨rb, 0, none⟩), x.enc, .int .i64 n, .agg (d.map bv).toArray] w fun e' w' => e' = .returned (.tuple #[.agg zsig, .int .i64 c]) ∧ RU B rb mb k ks U es w' ∧ RFrame B w w') ∨
    (Calls Tryd.prog 13 #[.pointer (some ⟨rb, 0, none⟩), x.enc, .int .i64 n, .agg (d.map bv).toArray] w fun e' w' => (∃ cs, e' = .returned (.tuple #[.agg cs, .int .i64 0]) ∧ RuSigned B rb mb k ks U x n d cs w') ∧ RFrame B w w') := by
  obtain ⟨⟨q, hn, h1⟩, h2⟩ := s
  rcases is_or es x.root x.high with ⟨e, he, hk⟩ | hk
  · by_cases h0 : n < 0
    · refine .inl ⟨9, by decide, (sign_neg h1 he hk n h0 d).mono ?_⟩
      rintro e' w' ⟨rfl, hb⟩
      exact ⟨rfl, ⟨⟨q, hn, h1.call hb⟩, h2⟩, RFrame.of_below hb⟩
    · by_cases h3 : (e.next : Int) ≤ n
      · refine .inl ⟨9, by decide, (sign_past h1 he hk n (by omega) h3 d).mono ?_⟩
        rintro e' w' ⟨rfl, hb⟩
        exact ⟨rfl, ⟨⟨q, hn, h1.call hb⟩, h2⟩, RFrame.of_below hb⟩
      · obtain ⟨m, rfl⟩ : ∃ m : Nat, n = (m : Int) := ⟨n.toNat, by omega⟩
        by_cases h4 : e.opens.getD m false = true
        · refine .inr ((rsign_ok h1 he hk m (by omega) h4 d hd hT hB hl).mono ?_)
          rintro e' w' ⟨cs, rfl, hsg, h5, h6⟩
          have hm := (h1.ents e he).many
          have hx := (h1.ents e he).next
          obtain ⟨a1, a2⟩ := Ent.is_iff.1 hk
          have hsh : (e.opens.set m false).getD m false = false := by
            rw [getD_set', if_pos ⟨rfl, by rw [hm]; omega⟩]
          refine ⟨⟨cs, rfl, m, e.seed, e.h, _, e.opened m false, rfl, a1.symm, a2.symm, (h1.ents e he).high, by omega, hsg, ⟨⟨q, hn, h5⟩, h2.upd h1 he (like_opened e m false) fun j hj ho => ⟨hj, ?_⟩⟩, fun i hi hx => h2.fresh h1 he hk h4 hi hx, opened_mem he m false, by rw [(like_opened e m false).is]; exact hk, by show m < e.next; omega, hsh⟩, h6⟩
          show (e.opens.set m false).getD j false = false
          rw [getD_set']
          split
          · rfl
          · exact ho
        · refine .inl ⟨9, by decide, (sign_used h1 he hk (m : Int) (by omega) (by omega) (by rw [Int.toNat_natCast]; simpa using h4) d).mono ?_⟩
          rintro e' w' ⟨rfl, hb⟩
          exact ⟨rfl, ⟨⟨q, hn, h1.call hb⟩, h2⟩, RFrame.of_below hb⟩
  · refine .inl ⟨7, by decide, (sign_not h1 x.len x.wf hk n d).mono ?_⟩
    rintro e' w' ⟨rfl, hb⟩
    exact ⟨rfl, ⟨⟨q, hn, h1.call hb⟩, h2⟩, RFrame.of_below hb⟩
end Go.Proofs.YtpldnjlfmagccaaDoor
