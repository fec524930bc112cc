/-
  What the walk of RingOnce carries: a ring, the keys that were answered, and the numbers that were used.
-/
import Derived.Test.YtpldnjlfmagccaaDoorRiUsed
import Derived.Test.YtpldnjlfmagccaaDoorRiKeys
namespace Go.Proofs.YtpldnjlfmagccaaDoor
open Go.RowKit Go.Maps

/-- What lies in memory but the ring. -/
structure ListsW (B ub : Nat) (lv : Value) (ks : List KeyX) (vs : List Value) (U : Nat → List Int) (w : World) : Prop where
  used : UsedW w B ub vs U
  list : w.ownsRow B 34 33 lv ks.length (ks.flatMap KeyX.cells)
variable {B rb mb ub k : Nat} {lv : Value} {ks : List KeyX} {vs : List Value} {U : Nat → List Int} {es : List Ent} {x : KeyX} {w w' : World}
set_option maxRecDepth 100000 in
theorem own_call {w w' : World} {base size n : Nat} {e : TypeId} {v : Value} {xs : List Value} (h : w.ownsRow base e size v n xs) (hb : Below w.heap.size w w') : w'.ownsRow base e size v n xs := h.kept (only_below hb none) (by cases v.ownBlock <;> simp)
set_option maxRecDepth 100000 in
theorem ListsW.call (s : ListsW B ub lv ks vs U w) (hb : Below w.heap.size w w') : ListsW B ub lv ks vs U w' := ⟨s.used.call hb, own_call s.list hb⟩
set_option maxRecDepth 100000 in
theorem ListsW.ring (s : ListsW B ub lv ks vs U w) {B' : Nat} (f : RFrame B' w w') : ListsW B ub lv ks vs U w' := ⟨s.used.ring f, own_ring s.list f (by decide) (by decide)⟩

def OnW (B rb mb ub k : Nat) (lv : Value) (ks : List KeyX) (w : World) : Prop :=
  ∃ es vs U, RU B rb mb k ks U es w ∧ ListsW B ub lv ks vs U w ∧ (∀ i, (U i).length ≤ k) ∧ ks.length ≤ k
set_option maxRecDepth 100000 in
theorem OnW.call (s : OnW B rb mb ub k lv ks w) (hb : Below w.heap.size w w') : OnW B rb mb ub k lv ks w' := by
  obtain ⟨es, vs, U, h1, h2, h3⟩ := s
  exact ⟨es, vs, U, h1.call hb, h2.call hb, h3⟩
set_option maxRecDepth 100000 in
theorem RU.up (s : RU B rb mb k ks U es w) : RU B rb mb (k + 1) ks U es w := by
  obtain ⟨⟨n, hn, h1⟩, h2⟩ := s
  exact ⟨⟨n, by omega, h1⟩, h2⟩
set_option maxRecDepth 100000 in
theorem OnW.up (s : OnW B rb mb ub k lv ks w) : OnW B rb mb ub (k + 1) lv ks w := by
  obtain ⟨es, vs, U, h1, h2, h3, h4⟩ := s
  exact ⟨es, vs, U, h1.up, h2, fun i => Nat.le_succ_of_le (h3 i), Nat.le_succ_of_le h4⟩
set_option maxRecDepth 100000 in
theorem OnW.sees (s : OnW B rb mb ub k lv ks w) : ∃ A c, lv = .slice A ks.length c ∧ KeyS w w.heap.size A ks := by
  obtain ⟨es, vs, U, _, h2, _⟩ := s
  rcases h2.list.2 with ⟨rfl, h0⟩ | ⟨g, cap, cur, rfl, hbg, hh, hn, hm, hs, ht⟩
  · rw [h0]
    refine ⟨none, 0, rfl, .inl ?_⟩
    rw [List.eq_nil_of_length_eq_zero h0]
    rfl
  · refine ⟨some ⟨g, 0, none⟩, cap, rfl, ?_⟩
    have hb : Box w g 34 cur := hh
    have h := (Sees.of_box hb (B := w.heap.size) hb.lt).take (ks.length * 33)
    rw [ht] at h
    exact h
set_option maxRecDepth 100000 in
theorem OnW.few (s : OnW B rb mb ub k lv ks w) : ks.length ≤ k := by
  obtain ⟨es, vs, U, _, _, _, h⟩ := s
  exact h
set_option maxRecDepth 100000 in
theorem on_take (s : OnW B rb mb ub k lv ks w) (x : KeyX) :
    Calls Tryd.prog 12 #[.pointer (some ⟨rb, 0, none⟩), x.enc] w fun e' w' => (∃ v, e' = .returned v) ∧ OnW B rb mb ub (k + 1) lv ks w' ∧ RFrame B w w' := by
  obtain ⟨es, vs, U, h1, h2, h3⟩ := s
  refine (ru_take h1 x).mono ?_
  rintro e' w' ⟨he, ⟨es', h4⟩, hf⟩
  exact ⟨he, OnW.up ⟨es', vs, U, h4, h2.ring hf, h3⟩, hf⟩
set_option maxRecDepth 100000 in
theorem on_skip (s : OnW B rb mb ub k lv ks w) (x : KeyX) (m : Int) :
    Calls Tryd.prog 15 #[.pointer (some ⟨rb, 0, none⟩), x.enc, .int .i64 m] w fun e' w' => (∃ v, e' = .returned v) ∧ OnW B rb mb ub (k + 1) lv ks w' ∧ RFrame B w w' := by
  obtain ⟨es, vs, U, h1, h2, h3⟩ := s
  refine (ru_skip h1 x m).mono ?_
  rintro e' w' ⟨he, ⟨es', h4⟩, hf⟩
  exact ⟨he, OnW.up ⟨es', vs, U, h4, h2.ring hf, h3⟩, hf⟩
set_option maxRecDepth 100000 in
theorem on_add (s : OnW B rb mb ub k lv ks w) (seed : List UInt8) (hs : seed.length = 32) (h : Int) (hk : k < 40) (hT : Roots w) (hB : B ≤ w.heap.size) :
    Calls Tryd.prog 11 #[.pointer (some ⟨rb, 0, none⟩), .agg (seed.map bv).toArray, .int .i64 h] w fun e' w' => (∃ (x : KeyX) (c : Int), e' = .returned (.tuple #[x.enc, .int .i64 c])) ∧ OnW B rb mb ub (k + 1) lv ks w' ∧ ks.length ≤ k ∧ RFrame B w w' := by
  obtain ⟨es, vs, U, h1, h2, h3, h4⟩ := s
  refine (ru_add h1 seed hs h hk hT hB).mono ?_
  rintro e' w' ⟨hf, ⟨es', h5⟩, he⟩
  exact ⟨he, ⟨es', vs, U, h5, h2.ring hf, fun i => Nat.le_succ_of_le (h3 i), Nat.le_succ_of_le h4⟩, h4, hf⟩
set_option maxRecDepth 100000 in
/-- A key is answered. -/
theorem OnW.key {k : Nat} (s : OnW B rb mb ub k lv ks w) (hk : ks.length + 1 ≤ k) {lv' : Value} {row : Option Nat} (hg : w.grownBy w' row) (hr : ∀ g, row = some g → ∃ cs, Box w g 34 cs) (ho : w'.ownsRow B 34 33 lv' (ks.length + 1) (ks.flatMap KeyX.cells ++ x.cells)) : OnW B rb mb ub k lv' (ks ++ [x]) w' := by
  obtain ⟨es, vs, U, ⟨⟨n, hn, h1⟩, h2⟩, h3, h4, h5⟩ := s
  refine ⟨es, vs, U, ⟨⟨n, hn, h1.used hg fun g e => ?_⟩, h2.key x⟩, ⟨h3.used.other hg fun g e => ?_, by simpa using ho⟩, h4, by simpa using hk⟩
  · obtain ⟨cs, hb⟩ := hr g e
    exact ⟨_, cs, hb, .inr (.inr rfl)⟩
  · obtain ⟨cs, hb⟩ := hr g e
    exact ⟨_, cs, hb, by decide, by decide⟩

/-! ### Behind a signature: the number comes to each list of that key -/
def SgdW (B rb mb ub k : Nat) (lv : Value) (ks : List KeyX) (x : KeyX) (m i : Nat) (w : World) : Prop :=
  ∃ es vs U, RU B rb mb k ks U es w ∧ ListsW B ub lv ks vs U w ∧ (∀ j, (U j).length ≤ if j < i then k + 1 else k) ∧ ks.length ≤ k ∧ (∀ j, i ≤ j → ∀ h : j < ks.length, ks[j]'h = x → (m : Int) ∉ U j) ∧ ∃ e ∈ es, e.is x.root x.high = true ∧ m < e.next ∧ e.opens.getD m false = false
set_option maxRecDepth 100000 in
theorem SgdW.call {m i : Nat} (s : SgdW B rb mb ub k lv ks x m i w) (hb : Below w.heap.size w w') : SgdW B rb mb ub k lv ks x m i w' := by
  obtain ⟨es, vs, U, h1, h2, h3⟩ := s
  exact ⟨es, vs, U, h1.call hb, h2.call hb, h3⟩
set_option maxRecDepth 100000 in
theorem SgdW.skip {m i : Nat} (s : SgdW B rb mb ub k lv ks x m i w) : SgdW B rb mb ub k lv ks x m (i + 1) w := by
  obtain ⟨es, vs, U, h1, h2, h3, h4, h5, h6⟩ := s
  refine ⟨es, vs, U, h1, h2, fun j => ?_, h4, fun j hj => h5 j (by omega), h6⟩
  have := h3 j
  split at this <;> split <;> omega
set_option maxRecDepth 100000 in
theorem SgdW.done {m : Nat} (s : SgdW B rb mb ub k lv ks x m ks.length w) : OnW B rb mb ub (k + 1) lv ks w := by
  obtain ⟨es, vs, U, h1, h2, h3, h4, _⟩ := s
  refine ⟨es, vs, U, h1.up, h2, fun j => ?_, Nat.le_succ_of_le h4⟩
  have := h3 j
  split at this <;> omega
set_option maxRecDepth 100000 in
theorem SgdW.frame {m i : Nat} (s : SgdW B rb mb ub k lv ks x m i w) : ks.length ≤ k := by
  obtain ⟨es, vs, U, _, _, _, h, _⟩ := s
  exact h
set_option maxRecDepth 100000 in
/-- What the list of one place is, and what comes of it when the number is appended there. -/
theorem SgdW.at_ {m i : Nat} (s : SgdW B rb mb ub k lv ks x m i w) (hk : k < 40) (hi : i < ks.length) (hx : ks[i]'hi = x) (hB : B ≤ w.heap.size) :
    ∃ (A : Option Addr) (c : Nat) (l : List Int), w.cell? ⟨ub, i, none⟩ = some (.slice A l.length c) ∧ Sees w w.heap.size A (l.map iv) ∧ (m : Int) ∉ l ∧ l.length ≤ 40 ∧
      ∀ g c', w'.cell? ⟨g, 0, none⟩ = some (iv (m : Int)) → Below w.heap.size w w' → ∃ (A3 : Option Addr) (n3 c3 : Nat) (w1 : World), (apAll #[49, 49] 49 #[.slice A l.length c, .slice (some ⟨g, 0, none⟩) 1 c']).run Tryd.prog w' = .ok (.slice A3 n3 c3) w1 ∧ w1.cell? ⟨ub, i, none⟩ = some (.slice A l.length c) ∧ w1.frozen? ⟨ub, i, none⟩ = false ∧ UFrame B w' w1 ∧
        SgdW B rb mb ub k lv ks x m (i + 1) (w1.setCell ⟨ub, i, none⟩ (.slice A3 n3 c3)) ∧ UFrame B w' (w1.setCell ⟨ub, i, none⟩ (.slice A3 n3 c3)) := by
  obtain ⟨es, vs, U, h1, h2, h3, h4, h5, e, he, h6, h7, h8⟩ := s
  have ho := h2.used.own i
  obtain ⟨A, c, hv⟩ := own_slice_s ho
  have hc := h2.used.cell (i := i) (by omega)
  rw [hv] at hc ho
  have hl := h3 i
  rw [if_neg (by omega)] at hl
  refine ⟨A, c, U i, hc, Sees.of_own ho, h5 i (Nat.le_refl _) hi hx, by omega, fun g c' hg hb => ?_⟩
  have h2' := h2.call hb
  obtain ⟨⟨n, hn, hR⟩, hU⟩ := h1.call hb
  obtain ⟨v, w1, hr, hc1, hf1, f1, hu, f2, hR2⟩ := h2'.used.append (i := i) (by omega) (by omega) (m : Int) g c' hg (Nat.le_trans hB hb.size)
  rw [hv] at hr hc1
  have hvi := hu.own i
  rw [getD_setV _ _ _ _ (by rw [h2'.used.len]; omega), if_pos rfl] at hvi
  obtain ⟨A3, c3, rfl⟩ := own_slice_s hvi
  refine ⟨A3, _, c3, w1, hr, hc1, hf1, f1, ⟨es, vs.set i _, _, ⟨⟨n, hn, hR2 _ _ _ _ _ hR⟩, hU.put he h6 h7 h8 hi hx⟩, ⟨hu, own_used h2'.list f2 (by decide) (by decide)⟩, fun j => ?_, h4, fun j hj hj2 hjx => ?_, e, he, h6, h7, h8⟩, f2⟩
  · have := h3 j
    by_cases e1 : j = i
    · subst e1
      simp only [if_pos, List.length_append, List.length_singleton]
      rw [if_pos (by omega)]
      omega
    · simp only [if_neg e1]
      split at this <;> split <;> omega
  · simp only [if_neg (show j ≠ i by omega)]
    exact h5 j (by omega) hj2 hjx
set_option maxRecDepth 100000 in
theorem on_sign (s : OnW B rb mb ub k lv ks w) (x : KeyX) (n : Int) (d : List UInt8) (hd : d.length = 32) (hT : Roots w) (hB : B ≤ w.heap.size) (hl : 1 < B) :
    (∃ c : Int, c ≠ 0 ∧ Calls Tryd.prog 13 #[.pointer (some ⟨rb, 0, none⟩), x.enc, .int .i64 n, .agg (d.map bv).toArray] w fun e' w' => e' = .returned (.tuple #[.agg zsig, .int .i64 c]) ∧ OnW B rb mb ub (k + 1) lv ks w' ∧ RFrame B w w') ∨
    (Calls Tryd.prog 13 #[.pointer (some ⟨rb, 0, none⟩), x.enc, .int .i64 n, .agg (d.map bv).toArray] w fun e' w' => (∃ (cs : Array Value) (m : Nat) (seed : List UInt8) (h : Nat), e' = .returned (.tuple #[.agg cs, .int .i64 0]) ∧ n = (m : Int) ∧ x.enc = .agg (keyV (keyT seed h) (h : Int)) ∧ h ≤ 6 ∧ m < 2 ^ h ∧ SigW w' cs seed h m d ∧ SgdW B rb mb ub k lv ks x m 0 w') ∧ RFrame B w w') := by
  obtain ⟨es, vs, U, h1, h2, h3, h4⟩ := s
  rcases ru_sign h1 x n d hd hT hB hl with ⟨c, hc, hx⟩ | hx
  · refine .inl ⟨c, hc, hx.mono ?_⟩
    rintro e' w' ⟨rfl, h5, hf⟩
    exact ⟨rfl, OnW.up ⟨es, vs, U, h5, h2.ring hf, h3, h4⟩, hf⟩
  · refine .inr (hx.mono ?_)
    rintro e' w' ⟨⟨cs, rfl, m, seed, h, es', e, rfl, e1, e2, hh, hm, hsg, h5, h6, he, h7, h8, h9⟩, hf⟩
    refine ⟨⟨cs, m, seed, h, rfl, rfl, by unfold KeyX.enc; rw [e1, e2], hh, hm, hsg, es', vs, U, h5, h2.ring hf, fun j => ?_, h4, fun j _ hj hx => h6 j hj hx, e, he, h7, h8, h9⟩, hf⟩
    rw [if_neg (by omega)]
    exact h3 j

/-! ### Behind a retirement: each list of that key is emptied -/
def RtrW (B rb mb ub k : Nat) (lv : Value) (ks : List KeyX) (x : KeyX) (i : Nat) (w : World) : Prop :=
  ∃ es vs U, (∃ n, n ≤ k ∧ RingW w B rb mb n es) ∧ ListsW B ub lv ks vs U w ∧ (∀ j, (U j).length ≤ k) ∧ ks.length ≤ k ∧ (∀ U' : Nat → List Int, (∀ j, U' j = [] ∨ (U' j = U j ∧ ∀ h : j < ks.length, ks[j]'h ≠ x)) → Use es ks U') ∧ ∀ j, j < i → ∀ h : j < ks.length, ks[j]'h = x → U j = []
set_option maxRecDepth 100000 in
theorem RtrW.call {i : Nat} (s : RtrW B rb mb ub k lv ks x i w) (hb : Below w.heap.size w w') : RtrW B rb mb ub k lv ks x i w' := by
  obtain ⟨es, vs, U, ⟨n, hn, h1⟩, h2, h3⟩ := s
  exact ⟨es, vs, U, ⟨n, hn, h1.call hb⟩, h2.call hb, h3⟩
set_option maxRecDepth 100000 in
theorem RtrW.skip {i : Nat} (s : RtrW B rb mb ub k lv ks x i w) (hi : i < ks.length) (hx : ks[i]'hi ≠ x) : RtrW B rb mb ub k lv ks x (i + 1) w := by
  obtain ⟨es, vs, U, h1, h2, h3, h4, h5, h6⟩ := s
  refine ⟨es, vs, U, h1, h2, h3, h4, h5, fun j hj h hjx => ?_⟩
  by_cases e : j = i
  · subst e
    exact absurd hjx hx
  · exact h6 j (by omega) h hjx
set_option maxRecDepth 100000 in
theorem RtrW.clear {i : Nat} (s : RtrW B rb mb ub k lv ks x i w) (hk : k < 40) (hi : i < ks.length) : (∃ v, w.cell? ⟨ub, i, none⟩ = some v) ∧ w.frozen? ⟨ub, i, none⟩ = false ∧ RtrW B rb mb ub k lv ks x (i + 1) (w.setCell ⟨ub, i, none⟩ nilV) ∧ UFrame B w (w.setCell ⟨ub, i, none⟩ nilV) := by
  obtain ⟨es, vs, U, ⟨n, hn, h1⟩, h2, h3, h4, h5, h6⟩ := s
  have hf := h2.used.frame_put i nilV
  refine ⟨⟨_, h2.used.cell (by omega)⟩, h2.used.box.free i, ⟨es, vs.set i nilV, _, ⟨n, hn, h1.used (only_cell w ub i nilV) fun g e => ?_⟩, ⟨h2.used.clear (by omega), own_used h2.list hf (by decide) (by decide)⟩, fun j => ?_, h4, fun U' hU => h5 U' fun j => ?_, fun j hj h hjx => ?_⟩, hf⟩
  · injection e with e
    subst e
    exact ⟨_, _, h2.used.box, .inr (.inl rfl)⟩
  · have := h3 j
    split
    · simp
    · exact this
  · rcases hU j with e | ⟨e, hne⟩
    · exact .inl e
    · split at e
      · exact .inl e
      · exact .inr ⟨e, hne⟩
  · split
    · rfl
    · exact h6 j (by omega) h hjx
set_option maxRecDepth 100000 in
theorem RtrW.done (s : RtrW B rb mb ub k lv ks x ks.length w) : OnW B rb mb ub (k + 1) lv ks w := by
  obtain ⟨es, vs, U, h1, h2, h3, h4, h5, h6⟩ := s
  refine OnW.up ⟨es, vs, U, ⟨h1, h5 U fun j => ?_⟩, h2, h3, h4⟩
  by_cases e : ∃ h : j < ks.length, ks[j]'h = x
  · obtain ⟨h, hx⟩ := e
    exact .inl (h6 j h h hx)
  · exact .inr ⟨rfl, fun h hx => e ⟨h, hx⟩⟩
set_option maxRecDepth 100000 in
theorem on_retire (s : OnW B rb mb ub k lv ks w) (x : KeyX) :
    (Calls Tryd.prog 16 #[.pointer (some ⟨rb, 0, none⟩), x.enc] w fun e' w' => e' = .returned (.int .i64 7) ∧ OnW B rb mb ub (k + 1) lv ks w' ∧ RFrame B w w') ∨
    (Calls Tryd.prog 16 #[.pointer (some ⟨rb, 0, none⟩), x.enc] w fun e' w' => e' = .returned (.int .i64 0) ∧ RtrW B rb mb ub k lv ks x 0 w' ∧ RFrame B w w') := by
  obtain ⟨es, vs, U, h1, h2, h3, h4⟩ := s
  rcases ru_retire h1 x with hx | hx
  · refine .inl (hx.mono ?_)
    rintro e' w' ⟨rfl, h5, hf⟩
    exact ⟨rfl, OnW.up ⟨es, vs, U, h5, h2.ring hf, h3, h4⟩, hf⟩
  · refine .inr (hx.mono ?_)
    rintro e' w' ⟨rfl, ⟨es', h5, h6⟩, hf⟩
    exact ⟨rfl, ⟨es', vs, U, h5, h2.ring hf, h3, h4, h6, fun j hj => by omega⟩, hf⟩
set_option maxRecDepth 100000 in
theorem own_keys {A : Option Addr} {c : Nat} (h : w.ownsRow B 34 33 (.slice A ks.length c) ks.length (ks.flatMap KeyX.cells)) : KeyS w w.heap.size A ks := by
  rcases h.2 with ⟨_, h0⟩ | ⟨g, cap, cur, hv, hbg, hh, hn, hm, hs, ht⟩
  · refine .inl ?_
    rw [List.eq_nil_of_length_eq_zero h0]
    rfl
  · injection hv with h1 h2 h3
    subst h1
    have hb : Box w g 34 cur := hh
    have h := (Sees.of_box hb (B := w.heap.size) hb.lt).take (ks.length * 33)
    rw [ht] at h
    exact h
set_option maxRecDepth 100000 in
theorem SgdW.keys {m i : Nat} {A : Option Addr} {c : Nat} (s : SgdW B rb mb ub k (.slice A ks.length c) ks x m i w) : KeyS w w.heap.size A ks := by
  obtain ⟨es, vs, U, _, h2, _⟩ := s
  exact own_keys h2.list
set_option maxRecDepth 100000 in
theorem RtrW.keys {i : Nat} {A : Option Addr} {c : Nat} (s : RtrW B rb mb ub k (.slice A ks.length c) ks x i w) : KeyS w w.heap.size A ks := by
  obtain ⟨es, vs, U, _, h2, _⟩ := s
  exact own_keys h2.list
set_option maxRecDepth 100000 in
/-- A key comes to the list of keys. -/
theorem OnW.append (s : OnW B rb mb ub k lv ks w) (hk : ks.length + 1 ≤ k) (hk40 : k ≤ 40) (hB : B ≤ w.heap.size) (x : KeyX) :
    ∃ v w1, (apAll #[27, 27] 27 #[lv, .slice (some ⟨w.heap.size, 0, none⟩) 1 1]).run Tryd.prog (w.alloc (.cells x.cells.toArray 34)) = .ok v w1 ∧ OnW B rb mb ub k v (ks ++ [x]) w1 ∧ Below B w w1 := by
  have hb : Below w.heap.size w (w.alloc (.cells x.cells.toArray 34)) := (Below.refl _ _).alloc (Nat.le_refl _) _
  have hnb := Box.made w 34 x.cells.toArray
  have s' := s.call hb
  obtain ⟨es, vs, U, h1, h2, h3⟩ := s.call hb
  obtain ⟨i0, hi0, hz0, hz1, hz2⟩ := info_parts key_info3
  obtain ⟨v, w1, hr, ho, hg, _⟩ := run_append_own (P := Tryd.prog) (w.alloc (.cells x.cells.toArray 34)) B 27 27 34 i0 _ 33 40 Tryd.underlying27 hi0 hz0 hz1 hz2 rfl (by omega) lv ks.length _ h2.list ⟨w.heap.size, 0, none⟩ 1 1 x.cells (by rw [x.cells_len]) (fun j u hu => by
    rw [plain_add, Nat.zero_add, hnb.cell, List.getElem?_toArray]
    exact hu) (keyL_one x.root x.high) (by unfold maxLen; omega) (by omega) (Nat.le_trans hB hb.size)
  have hown : ∀ g, lv.ownBlock = some g → B ≤ g ∧ ∃ cs, Box (w.alloc (.cells x.cells.toArray 34)) g 34 cs := fun g e => by
    obtain ⟨a1, _, a3⟩ := own_box h2.list e
    exact ⟨a1, a3⟩
  refine ⟨v, w1, hr, s'.key hk hg (fun g e => (hown g e).2) ho, ?_⟩
  refine (hb.mono hB).trans ⟨hg.os, hg.tape, hg.output, hg.size, fun i hi => hg.block i (Nat.lt_of_lt_of_le hi (Nat.le_trans hB hb.size)) fun e => ?_⟩
  have := (hown i e.symm).1
  omega
set_option maxRecDepth 100000 in
theorem eq_keyx (x y : KeyX) (b : Bool) (h : b = true ↔ x = y) (w : World) : (eqKey x.enc y.enc).run Tryd.prog w = .ok b w := by
  have he := eq_key x.root y.root x.high y.high x.len y.len w
  have e : (decide (x.root = y.root) && decide (x.high = y.high)) = b := by
    rw [Bool.eq_iff_iff, h]
    simp only [Bool.and_eq_true, decide_eq_true_eq]
    exact ⟨fun ⟨h1, h2⟩ => KeyX.same h1 h2, fun e => by subst e; exact ⟨rfl, rfl⟩⟩
  rw [e] at he
  exact he
end Go.Proofs.YtpldnjlfmagccaaDoor
