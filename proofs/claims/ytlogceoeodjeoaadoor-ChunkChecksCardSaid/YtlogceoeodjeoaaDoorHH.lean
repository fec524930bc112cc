/-
  A row of digests, and the row above it: chunk.above.
  Each leaf's path: chunk.pathsOf (of one leaf: none; of more: what the statements ask of them is that they can be made).
  A state's pieces: chunk.Pieces.
-/
import Derived.Test.YtlogceoeodjeoaaDoorHC
import Derived.Test.YtlogceoeodjeoaaDoorHG
import Derived.Test.YtlogceoeodjeoaaDoorHF
import Derived.Deep.AppendSrc
import Derived.Maps.AppendAt
import Derived.Test.YtlogceoeodjeoaaDoorNC
namespace Go.Proofs.YtlogceoeodjeoaaDoor
open Go.RowKit Go.Maps Go.Shelf

def pairL (ds : List (List UInt8)) (k : Nat) : List (List UInt8) := (ds.drop (k * 2)).take 2
set_option maxRecDepth 100000 in
theorem pair_len (ds : List (List UInt8)) (k : Nat) : (pairL ds k).length = min 2 (ds.length - k * 2) := by
  unfold pairL
  rw [List.length_take, List.length_drop]
set_option maxRecDepth 100000 in
theorem pair_all {ds : List (List UInt8)} (h : AllD ds) (k : Nat) : AllD (pairL ds k) := (h.drop _).take _
set_option maxRecDepth 100000 in
theorem chkD_val (ds : List (List UInt8)) (g o k : Nat) : chkD g o ds.length k = .slice (some ⟨g, o + k * 2 * 32, none⟩) (pairL ds k).length (pairL ds k).length := by
  rw [pair_len]
  rfl
set_option maxRecDepth 100000 in
theorem pair_see {ds : List (List UInt8)} {g o c : Nat} {w : World} (h : Digs w w.heap.size (some ⟨g, o, none⟩) ds) (_hc : ds.length ≤ c) (k : Nat) : Digs w w.heap.size (some ⟨g, o + k * 2 * 32, none⟩) (pairL ds k) := by
  by_cases hk : k * 2 < ds.length
  · have h2 := (h.drop (k := k * 2) (cap := ds.length) (Nat.le_refl _) (by omega)).take 2
    have e : ((some ⟨g, o, none⟩ : Option Addr).map (·.add (k * 2 * 32))) = some ⟨g, o + k * 2 * 32, none⟩ := by simp [Addr.add]
    rw [if_neg (by omega), e] at h2
    exact h2
  · have e : pairL ds k = [] := List.eq_nil_of_length_eq_zero (by rw [pair_len]; omega)
    rw [e]
    exact Digs.empty _ _ _
set_option maxRecDepth 100000 in
theorem Boxed.same {w w' : World} {B : Nat} {t : TypeId} {v : Value} (h : Boxed w B t v) (h' : Boxed w' B t v) {p : Addr} (hp : p.block = B) : w'.cell? p = w.cell? p := by
  subst hp
  exact World.cell?_of_block (Eq.trans h' (Eq.symm h))
/-- The row above. -/
def aboveL (ds : List (List UInt8)) (pre : List Nat) : List (List UInt8) := pre.map (fun k => rootT (pairL ds k))
set_option maxRecDepth 100000 in
theorem above_all {ds : List (List UInt8)} (h : AllD ds) (pre : List Nat) : AllD (aboveL ds pre) := by
  intro x hx
  obtain ⟨i, _, rfl⟩ := List.mem_map.1 hx
  exact (pair_all h i).root

attribute [local go_sem] Oper.semAt_some
attribute [local go_sem ↓] ldDigest_def stDigest_def bsAll_def apAll_def
set_option maxRecDepth 100000 in
set_option maxHeartbeats 2000000 in
theorem cabove_any (ds : List (List UInt8)) (g o c : Nat) (hL : 0 < ds.length) (hLc : ds.length ≤ c) (hm : ds.length ≤ 1073741824) (w : World) (hD : Digs w w.heap.size (some ⟨g, o, none⟩) ds) (hR : Roots w) :
    Calls Tryd.prog 68 #[.slice (some ⟨g, o, none⟩) ds.length c] w fun e w' => ∃ A' c', e = .returned (.slice A' ((ds.length + 1) / 2) c') ∧ (ds.length + 1) / 2 ≤ c' ∧ (∃ g', A' = some ⟨g', 0, none⟩ ∧ w.heap.size ≤ g') ∧ Digs w' w'.heap.size A' (aboveL ds (List.range ((ds.length + 1) / 2))) ∧ Below w.heap.size w w' := by
  refine (callsIn_wide (n := 3)).1 ?_
  refine callsIn_of_wp_marks Tryd.func68 rfl trivial ?_ rfl
  simp only [Tryd.ntmps68, List.size_toArray, List.length_cons, List.length_nil, Nat.reduceAdd, Nat.reduceSub, Array.replicate_succ, Array.replicate_zero, List.push_toArray, List.append_toArray, List.nil_append, List.cons_append]
  gi_wp2_with (refine ⟨trivial, ?_⟩; gi_at_call 87; refine (callsIn_wide.2 (cmakeD _ _ _ _)).mono ?_; rintro e w' ⟨rfl, rfl⟩)
  have bO := ((Boxed.new w 27 (.slice none 0 0)).alloc (.cells #[.slice (some ⟨g, o, none⟩) ds.length c] 27)).alloc (.cells #[.int .i64 2] 3)
  have bS := (Boxed.new (w.alloc (.cells #[.slice none 0 0] 27)) 27 (.slice (some ⟨g, o, none⟩) ds.length c)).alloc (.cells #[.int .i64 2] 3)
  have bN := Boxed.new ((w.alloc (.cells #[.slice none 0 0] 27)).alloc (.cells #[.slice (some ⟨g, o, none⟩) ds.length c] 27)) 3 (.int .i64 2)
  have hB0 : Below w.heap.size w (((w.alloc (.cells #[.slice none 0 0] 27)).alloc (.cells #[.slice (some ⟨g, o, none⟩) ds.length c] 27)).alloc (.cells #[.int .i64 2] 3)) := (((Below.refl _ w).alloc (Nat.le_refl _) _).alloc (by simp) _).alloc (by simp; omega) _
  have hsz : (((w.alloc (.cells #[.slice none 0 0] 27)).alloc (.cells #[.slice (some ⟨g, o, none⟩) ds.length c] 27)).alloc (.cells #[.int .i64 2] 3)).heap.size = w.heap.size + 3 := by simp
  simp only [World.size_alloc] at bS bN
  obtain ⟨W0, hW0⟩ : ∃ W0, ((w.alloc (.cells #[.slice none 0 0] 27)).alloc (.cells #[.slice (some ⟨g, o, none⟩) ds.length c] 27)).alloc (.cells #[.int .i64 2] 3) = W0 := ⟨_, rfl⟩
  rw [hW0] at bO bS bN hB0 hsz ⊢
  clear hW0
  have HRT : Hid (∀ (W w' : World) (k : Nat), Below w.heap.size w W → Below W.heap.size W w' → Calls Tryd.prog 30 #[.slice (some ⟨g, o + k * 2 * 32, none⟩) (pairL ds k).length (pairL ds k).length] w' fun e w'' => e = .returned (.agg ((rootT (pairL ds k)).map bv).toArray) ∧ Below w'.heap.size w' w'') := Lib.hid (fun W w' k hW hb => root_any (pairL ds k) _ _ w' (pair_see ((hD.far hW).far hb) hLc k) (by rw [pair_len]; omega) (hR.of_below (hW.trans (hb.mono hW.size))))
  have HDA := Lib.hid hD.all
  have HLP := Lib.hid hL
  refine wpIn_rangeFunc_ownH (α := Nat) (encs := fun k => #[chkD g o ds.length k]) (Kp := KeepAt (fun b => b = w.heap.size + 1 ∨ b = w.heap.size + 1 + 1)) rfl (by decide) (gf := 93) (lb := #[.pointer (some ⟨w.heap.size + 1, 0, none⟩), .pointer (some ⟨w.heap.size + 1 + 1, 0, none⟩)]) rfl trivial (enters_of Tryd.func93 (by kernel_rfl) rfl)
    (cstopsD Fence.wide (3 - 1) trivial rfl (by decide) (w.heap.size + 1) (w.heap.size + 1 + 1) g o ds.length c hL hLc (by omega) W0 (by omega) (by omega) bS.cell bN.cell) KeepAt.trans (keepAt_b (n₀ := W0.heap.size) (Nat.le_refl _) (fun b hb => by rcases hb with rfl | rfl <;> omega)) (Below.refl _ _) (fun _ => rfl)
    (fun (pre : List Nat) W => ((∃ v, Boxed W w.heap.size 27 v ∧ W.ownsRow w.heap.size 23 32 v pre.length ((aboveL ds pre).flatten.map bv) ∧ True) ∧ (Boxed W (w.heap.size + 1) 27 (.slice (some ⟨g, o, none⟩) ds.length c) ∧ Boxed W (w.heap.size + 1 + 1) 3 (.int .i64 2))) ∧ Below w.heap.size w W)
    (fun _ _ _ => False)
    (OwnFrom.and (OwnFrom.and (Own.from (holdsRow_own w.heap.size w.heap.size 27 23 32 (fun (pre : List Nat) => pre.length) (fun (pre : List Nat) => (aboveL ds pre).flatten.map bv) (fun _ _ => True)) _) (OwnFrom.and (Own.from (boxed_own _ _ (fun _ => .slice (some ⟨g, o, none⟩) ds.length c)) _) (Own.from (boxed_own _ _ (fun _ => .int .i64 2)) _))) (ownFrom_below (Nat.le_refl _) (by omega)))
    (fun _ _ _ _ _ hs _ _ => hs)
    ⟨⟨⟨_, bO, World.ownsRow_nil _ _ _ _, trivial⟩, bS, bN⟩, hB0⟩
    (fun k a' W => a' = { tmps := #[.slice (some ⟨g, o, none⟩) ds.length c, undef, .slice none 0 0, .pointer (some ⟨w.heap.size, 0, none⟩), chkD g o ds.length k, .slice (some ⟨g, o, none⟩) ds.length c, .func (.func 93) #[] #[.pointer (some ⟨w.heap.size + 1, 0, none⟩), .pointer (some ⟨w.heap.size + 1 + 1, 0, none⟩)], chkD g o ds.length k, undef, undef, undef, undef, undef, undef], defers := [] })
    (fun x a' _ X Y row hs hg hr => hs)
    ?assign ?body ?done ?stop
  case assign =>
    rintro l pre x W K hi hK
    gi_wp2
    exact hK _ _ (KeepsFrom.refl _ _) (KeepAt.refl _ _) hi rfl
  case body =>
    rintro l pre x a' W hl ⟨r, hr1⟩ ⟨⟨⟨v, bv1, hrow, _⟩, b2, b3⟩, hB1⟩ rfl hlt
    rw [chkD_val]
    have hc := bv1.cell
    have HDL := Lib.hid (pair_all HDA.out x).root
    have HC := Lib.hid (fun w' hb => HRT.out W w' x hB1 hb)
    have HEQ : Hid (aboveL ds pre ++ [rootT (pairL ds x)] = aboveL ds (pre ++ [x])) := Lib.hid (by unfold aboveL; simp)
    have HLA : Hid ((aboveL ds pre).length = pre.length) := Lib.hid (by unfold aboveL; simp)
    generalize rootT (pairL ds x) = d at *
    have HST : Hid (∀ w4, Below W.heap.size W w4 → ∃ A6 c6 w6, (apAll #[27, 27] 27 #[v, .slice (some ⟨w4.heap.size, 0, none⟩) 1 1]).run Tryd.prog (w4.alloc (.cells (d.map bv).toArray 23)) = .ok (.slice A6 (pre.length + 1) c6) w6 ∧ Boxed w6 w.heap.size 27 v ∧ (KeepsFrom W0.heap.size W (w6.setCell ⟨w.heap.size, 0, none⟩ (.slice A6 (pre.length + 1) c6)) ∧ KeepAt (fun b => b = w.heap.size + 1 ∨ b = w.heap.size + 1 + 1) W (w6.setCell ⟨w.heap.size, 0, none⟩ (.slice A6 (pre.length + 1) c6)) ∧ ((∃ v, Boxed (w6.setCell ⟨w.heap.size, 0, none⟩ (.slice A6 (pre.length + 1) c6)) w.heap.size 27 v ∧ (w6.setCell ⟨w.heap.size, 0, none⟩ (.slice A6 (pre.length + 1) c6)).ownsRow w.heap.size 23 32 v (pre ++ [x]).length ((aboveL ds (pre ++ [x])).flatten.map bv) ∧ True) ∧ (Boxed (w6.setCell ⟨w.heap.size, 0, none⟩ (.slice A6 (pre.length + 1) c6)) (w.heap.size + 1) 27 (.slice (some ⟨g, o, none⟩) ds.length c) ∧ Boxed (w6.setCell ⟨w.heap.size, 0, none⟩ (.slice A6 (pre.length + 1) c6)) (w.heap.size + 1 + 1) 3 (.int .i64 2))) ∧ Below w.heap.size w (w6.setCell ⟨w.heap.size, 0, none⟩ (.slice A6 (pre.length + 1) c6)))) := Lib.hid (fun w4 hb => by
      have hg4 : W.grownBy w4 none := only_below hb none
      have bv4 := bv1.kept hg4 (by simp)
      have hrow4 := hrow.kept hg4 (by cases v.ownBlock <;> simp)
      have hB4 := hB1.trans (hb.mono hB1.size)
      obtain ⟨v6, w6, hap, hown6, hg6⟩ := append_digs (n := pre.length) (ds := aboveL ds pre) HLA.out.symm (hrow4.alloc (.cells (d.map bv).toArray 23)) (A := some ⟨w4.heap.size, 0, none⟩) (m := 1) (c := 1) (es := [d]) rfl (digs_one w4 HDL.out) (by omega) (by have := hB4.size; simp; omega)
      obtain ⟨A6, c6, rfl⟩ := own_slice_s hown6
      obtain ⟨hv1, hv2, hr2, hk2, hb2⟩ := bv4.appended (by decide) hrow4 hB4.size (Nat.le_refl _) hown6 hg6
      have e2 := ((b2.kept hg4 (by simp)).alloc (.cells (d.map bv).toArray 23))
      have e3 := ((b3.kept hg4 (by simp)).alloc (.cells (d.map bv).toArray 23))
      have b27 := (e2.kept hg6 (e2.not_row (by decide) (hrow4.alloc _))).other (B' := w.heap.size) (by omega) (.slice A6 (pre.length + 1) c6)
      have b37 := (e3.kept hg6 (e3.not_row (by decide) (hrow4.alloc _))).other (B' := w.heap.size) (by omega) (.slice A6 (pre.length + 1) c6)
      refine ⟨A6, c6, w6, hap, hv1, ((KeepsOthers.of_grownBy hg4 (fun j o e => by cases e)).trans hk2).from _, ?_, ⟨⟨_, hv2, ?_, trivial⟩, b27, b37⟩, hB4.trans hb2⟩
      · rintro p (hp | hp)
        · exact Boxed.same b2 b27 hp
        · exact Boxed.same b3 b37 hp
      · rw [← HEQ.out, List.length_append]
        exact hr2)
    have hbo := fun w' => build_one d HDL.out w'
    clear hB1 hrow hlt hr1 b2 b3 HDA HEQ HLA hD hR hL hLc hm bS bN bO hB0 hsz
    gi_wp2
    gi_region_with (refine ⟨trivial, ?_⟩; gi_at_call 30; refine (CallsIn.inRound l (callsIn_wide.2 (HC.out _ (Below.refl _ _).drew))).mono ?_; rintro e w4 ⟨rfl, hb4⟩; have hcw4 := (bv1.kept (only_below ((Below.refl _ _).drew.trans hb4) none) (by simp)).cell; have hcw5 := ((bv1.kept (only_below ((Below.refl _ _).drew.trans hb4) none) (by simp)).alloc (.cells (d.map bv).toArray 23)).cell; have hne4 := Nat.ne_of_lt (bv1.kept (only_below ((Below.refl _ _).drew.trans hb4) none) (by simp)).lt; obtain ⟨A6, c6, w6, hap, hv6, hfin⟩ := HST.out w4 ((Below.refl _ _).drew.trans hb4); have HFIN := Lib.hid hfin; have hc6 := hv6.cell; have hf6 := hv6.frozen; clear hfin hb4)
    all_goals (gi_wp2; exact HFIN.out)
  case done =>
    rintro D1 ys W hD1 rfl ⟨⟨⟨v, bv1, hrow, _⟩, b2, b3⟩, hB1⟩ hK
    have hc := bv1.cell
    have HROW := Lib.hid hrow
    have HB1 := Lib.hid hB1
    have H93 := Lib.hid hK
    have HD1 : Hid (w.heap.size ≤ D1) := Lib.hid (by omega)
    clear hrow hB1 hK hD1 b2 b3 hD hR hL hLc hm bS bN bO hB0
    gi_wp2
    refine ⟨by simp, .inl ⟨_, _, rfl, run_takeDeferred H93.out, ?_⟩⟩
    have ho := ownsRow_putObj HROW.out (.deferred none) H93.out rfl
    rw [List.length_range] at ho
    obtain ⟨A', c', rfl⟩ := own_slice_s ho
    have hcc : (ds.length + 1) / 2 ≤ c' ∧ ∃ g', A' = some ⟨g', 0, none⟩ ∧ w.heap.size ≤ g' := by
      rcases ho.2 with ⟨h1, h2⟩ | ⟨g', cap, _, h1, h4, _, h3, _⟩
      · injection h1 with _ e2 e3
        have := HLP.out
        omega
      · injection h1 with e1 e2 e3
        exact ⟨by omega, g', e1, h4⟩
    exact ⟨_, results_tmp rfl _ _ _, A', c', rfl, hcc.1, hcc.2, ⟨above_all HDA.out _, sees_own ho⟩, HB1.out.trans (belowK_b (w := w) (Nat.le_refl _) W D1 _ _ HD1.out H93.out rfl rfl)⟩
  case stop =>
    rintro D c pre W _ _ h _
    exact h.elim
end Go.Proofs.YtlogceoeodjeoaaDoor

namespace Go.Proofs.YtlogceoeodjeoaaDoor
open Go.RowKit Go.Maps Go.Shelf

abbrev nilP : Value := .slice none 0 0
set_option maxRecDepth 100000 in
theorem own_box11 {w : World} {base size n : Nat} {e : TypeId} {v : Value} {xs : List Value} (h : w.ownsRow base e size v n xs) {g : Nat} (hg : v.ownBlock = some g) : base ≤ g ∧ g < w.heap.size ∧ ∃ cs, Box w g e cs := by
  rcases h.2 with ⟨rfl, _⟩ | ⟨g', cap, cur, rfl, hb, hh, _⟩
  · cases hg
  · obtain rfl : g' = g := by simpa [Value.ownBlock] using hg
    exact ⟨hb, (Array.getElem?_eq_some_iff.1 hh).1, cur, hh⟩
/-- Rows of digests, each its own, in one row. -/
structure PthW (w : World) (B P n : Nat) (vs : List Value) (t : Nat) : Prop where
  box : Box w P 27 vs.toArray
  low : B ≤ P
  len : vs.length = n
  own : ∀ i, ∃ ps : List (List UInt8), w.ownsRow B 23 32 (vs.getD i nilP) ps.length (ps.flatten.map bv) ∧ ps.length ≤ t
  apart : ∀ i j, i ≠ j → ∀ g, (vs.getD i nilP).ownBlock = some g → (vs.getD j nilP).ownBlock ≠ some g
section
variable {w w' : World} {B P n t : Nat} {vs : List Value}
set_option maxRecDepth 100000 in
theorem PthW.grown (h : PthW w B P n vs t) (hg : w.grownBy w' none) : PthW w' B P n vs t :=
  ⟨h.box.grown hg (by simp), h.low, h.len, fun i => by
    obtain ⟨ps, h1, h2⟩ := h.own i
    exact ⟨ps, h1.kept hg (by cases (vs.getD i nilP).ownBlock <;> simp), h2⟩, h.apart⟩
set_option maxRecDepth 100000 in
theorem PthW.call (h : PthW w B P n vs t) (hb : Below w.heap.size w w') : PthW w' B P n vs t := h.grown (only_below hb none)
set_option maxRecDepth 100000 in
theorem PthW.more (h : PthW w B P n vs t) {t' : Nat} (ht : t ≤ t') : PthW w B P n vs t' :=
  ⟨h.box, h.low, h.len, fun i => by
    obtain ⟨ps, h1, h2⟩ := h.own i
    exact ⟨ps, h1, Nat.le_trans h2 ht⟩, h.apart⟩
set_option maxRecDepth 100000 in
theorem PthW.cell (h : PthW w B P n vs t) {i : Nat} (hi : i < n) : w.cell? ⟨P, i, none⟩ = some (vs.getD i nilP) := by
  rw [h.box.cell, List.getElem?_toArray, List.getD_eq_getElem?_getD, List.getElem?_eq_getElem (by rw [h.len]; exact hi)]
  rfl
set_option maxRecDepth 100000 in
theorem PthW.slice (h : PthW w B P n vs t) (i : Nat) : ∃ A m c, vs.getD i nilP = .slice A m c := by
  obtain ⟨ps, h1, _⟩ := h.own i
  obtain ⟨A, c, e⟩ := own_slice_s h1
  exact ⟨A, _, c, e⟩
set_option maxRecDepth 100000 in
theorem getD_setP (l : List Value) (i : Nat) (v : Value) (j : Nat) (hi : i < l.length) : (l.set i v).getD j nilP = if j = i then v else l.getD j nilP := by
  rw [List.getD_eq_getElem?_getD, List.getElem?_set, List.getD_eq_getElem?_getD]
  by_cases h : i = j
  · subst h
    simp [hi]
  · rw [if_neg h, if_neg (fun e => h e.symm)]
/-- A row of digests that is none of these. -/
def PthOff (A : Option Addr) (P : Nat) (vs : List Value) : Prop := ∀ g o, A = some ⟨g, o, none⟩ → g ≠ P ∧ ∀ j, (vs.getD j nilP).ownBlock ≠ some g
set_option maxRecDepth 100000 in
/-- A digest comes to one row. -/
theorem PthW.push (h0 : PthW w B P n vs t) {i : Nat} (hi : i < n) (ht : t < 1099511627776) (d : List UInt8) (hd : d.length = 32) (hB : B ≤ w.heap.size) :
    ∃ v w1, (apAll #[27, 27] 27 #[vs.getD i nilP, .slice (some ⟨w.heap.size, 0, none⟩) 1 1]).run Tryd.prog (w.alloc (.cells (d.map bv).toArray 23)) = .ok v w1 ∧ w1.cell? ⟨P, i, none⟩ = some (vs.getD i nilP) ∧ w1.frozen? ⟨P, i, none⟩ = false ∧ (∃ A m c, v = .slice A m c) ∧
      PthW (w1.setCell ⟨P, i, none⟩ v) B P n (vs.set i v) (t + 1) ∧ Below B w (w1.setCell ⟨P, i, none⟩ v) ∧
      ∀ A es, 0 < es.length → Digs w w.heap.size A es → PthOff A P vs → Digs (w1.setCell ⟨P, i, none⟩ v) (w1.setCell ⟨P, i, none⟩ v).heap.size A es ∧ PthOff A P (vs.set i v) := by
  have hg0 : w.grownBy (w.alloc (.cells (d.map bv).toArray 23)) none := World.grownBy_alloc w _ none
  have h := h0.grown hg0
  obtain ⟨i0, hi0, hz0, hz1, hz2⟩ := info_parts dig_info3
  obtain ⟨ps, hps, hpt⟩ := h.own i
  have hd1 := digs_one w hd
  obtain ⟨v, w1, hr, ho, hgr, _, hat⟩ := run_append_own_at (P := Tryd.prog) (w.alloc (.cells (d.map bv).toArray 23)) B 27 27 23 i0 _ 32 32 Tryd.underlying27 hi0 hz0 hz1 hz2 rfl (by omega) (vs.getD i nilP) ps.length _ hps ⟨w.heap.size, 0, none⟩ 1 1 (d.map bv) (by rw [List.length_map, hd]) (fun j u hu => by
    rw [plain_add, Nat.zero_add, (Box.made w 23 (d.map bv).toArray).cell, List.getElem?_toArray]
    exact hu) (bv_one _) (by unfold maxLen; omega) (by omega) (by simp; omega)
  have hub : (vs.getD i nilP).ownBlock ≠ some P := fun e => by
    obtain ⟨_, _, cs, hb⟩ := own_box11 hps e
    exact Box.apart h.box hb (by decide) rfl
  have hbox : Box w1 P 27 vs.toArray := h.box.grown hgr (Ne.symm hub)
  have hl : i < vs.length := by rw [h.len]; exact hi
  have ho' : w1.ownsRow B 23 32 v (ps ++ [d]).length ((ps ++ [d]).flatten.map bv) := by
    have e : (ps ++ [d]).flatten.map bv = ps.flatten.map bv ++ d.map bv := by simp
    rw [e, List.length_append]
    exact ho
  have hg1 : w1.grownBy (w1.setCell ⟨P, i, none⟩ v) (some P) := only_put (only_refl w1 _) i v
  have hk : ∀ {u : Value} {m : Nat} {xs : List Value}, w1.ownsRow B 23 32 u m xs → (w1.setCell ⟨P, i, none⟩ v).ownsRow B 23 32 u m xs := fun {u m xs} hu => by
    refine hu.kept hg1 ?_
    rcases hv : u.ownBlock with _ | g
    · exact .inl rfl
    · refine .inr fun e => ?_
      injection e with e
      subst e
      obtain ⟨_, _, cs', hb'⟩ := own_box11 hu hv
      exact Box.apart hbox hb' (by decide) rfl
  have hnot : ∀ j, j ≠ i → ∀ q, v.ownBlock = some q → (vs.getD j nilP).ownBlock ≠ some q := fun j hj q hq hq2 => by
    rcases hat with e | e
    · rw [e] at hq
      exact h.apart i j (Ne.symm hj) q hq hq2
    · rw [e] at hq
      injection hq with hq
      obtain ⟨ps2, h2, _⟩ := h.own j
      have := (own_box11 h2 hq2).2.1
      omega
  refine ⟨v, w1, hr, ?_, hbox.free i, (by obtain ⟨A, c, e⟩ := own_slice_s ho; exact ⟨A, _, c, e⟩), ⟨?_, h.low, by rw [List.length_set]; exact h.len, fun q => ?_, fun a b hab g hag => ?_⟩, ?_⟩
  · rw [hbox.cell, List.getElem?_toArray, List.getD_eq_getElem?_getD, List.getElem?_eq_getElem (by rw [h.len]; exact hi)]
    rfl
  · have hp := hbox.put i v
    simpa using hp
  · rw [getD_setP _ _ _ _ hl]
    by_cases e : q = i
    · simp only [if_pos e]
      exact ⟨ps ++ [d], hk ho', by rw [List.length_append, List.length_singleton]; omega⟩
    · simp only [if_neg e]
      obtain ⟨ps2, h2, h3⟩ := h.own q
      refine ⟨ps2, hk (h2.kept hgr ?_), by omega⟩
      rcases hv : (vs.getD q nilP).ownBlock with _ | g
      · exact .inl rfl
      · exact .inr fun e2 => h.apart q i e g hv e2.symm
  · rw [getD_setP _ _ _ _ hl] at hag ⊢
    by_cases e1 : a = i
    · rw [if_pos e1] at hag
      rw [if_neg (fun e2 => hab (e1.trans e2.symm))]
      exact hnot b (fun e2 => hab (e1.trans e2.symm)) g hag
    · rw [if_neg e1] at hag
      by_cases e2 : b = i
      · rw [if_pos e2]
        intro hb
        exact hnot a e1 g hb hag
      · rw [if_neg e2]
        exact h.apart a b hab g hag
  · refine ⟨?_, fun A es hep hes hoff => ⟨?_, fun g o hA => ⟨(hoff g o hA).1, fun j => ?_⟩⟩⟩
    rotate_left
    · have h1 := (hes.far ((Below.refl w.heap.size w).alloc (Nat.le_refl _) (.cells (d.map bv).toArray 23))).apart hgr (fun g o hA e => (hoff g o hA).2 i e)
      exact h1.apart hg1 (fun g o hA e => by injection e with e; exact (hoff g o hA).1 e.symm)
    · rw [getD_setP _ _ _ _ hl]
      by_cases e1 : j = i
      · rw [if_pos e1]
        intro e2
        rcases hat with e | e
        · rw [e] at e2
          exact (hoff g o hA).2 i e2
        · rw [e] at e2
          injection e2 with e2
          obtain ⟨g2, o2, hA2, hlt2, _⟩ := hes.some_ hep
          rw [hA] at hA2
          injection hA2 with hA2
          injection hA2 with hA2
          rw [World.size_alloc] at e2
          omega
      · rw [if_neg e1]
        exact (hoff g o hA).2 j
    have h1 : Below B w (w.alloc (.cells (d.map bv).toArray 23)) := (Below.refl _ _).alloc hB _
    have h2 := h1.grown hgr (Nat.le_trans hB h1.size) (fun k e => (own_box11 hps e).1)
    exact h2.grown hg1 (Nat.le_trans hB h2.size) (fun k e => by injection e with e; subst e; exact h.low)
end
set_option maxRecDepth 100000 in
theorem make_rows (n : Nat) (hn : n ≤ 1073741824) (w : World) :
    (Instr.makeSlice 72 (.int .i64 (n : Int)) (.int .i64 (n : Int))).run Tryd.prog w = .ok (.slice (some ⟨w.heap.size, 0, none⟩) n n) (w.alloc (.cells (List.replicate n nilP).toArray 27)) := by
  obtain ⟨i0, hi0, hz0, hz1, hz2⟩ := info_parts (show (Tryd.prog.info? 27).map (fun i => (i.zero, i.size, i.bytes)) = some (some nilP, 1, 24) by kernel_rfl)
  have hr := run_make (P := Tryd.prog) w 72 27 i0 _ Tryd.underlying72 hi0 hz0 .i64 .i64 n n (by omega) (Int.le_refl _) (by rw [hz2]; omega) (by omega)
  rw [hr, Int.toNat_natCast, hz1, Nat.mul_one]
  have e : madeCells (List.replicate (0 + 1) nilP).toArray n = (List.replicate n nilP).toArray := by
    apply Array.ext'
    rw [made_same 0 n nilP]
  show Result.ok _ (w.alloc (.cells (madeCells (List.replicate (0 + 1) nilP).toArray n) _)) = _
  rw [e]
set_option maxRecDepth 100000 in
theorem PthW.new (w : World) (n : Nat) : PthW (w.alloc (.cells (List.replicate n nilP).toArray 27)) w.heap.size w.heap.size n (List.replicate n nilP) 0 := by
  have e : ∀ i, (List.replicate n nilP).getD i nilP = nilP := fun i => by
    rw [List.getD_eq_getElem?_getD, List.getElem?_replicate]
    split <;> rfl
  refine ⟨Box.made _ _ _, Nat.le_refl _, List.length_replicate, fun i => ⟨[], ?_, Nat.le_refl _⟩, fun i j _ g hg => ?_⟩
  · rw [e i]
    exact World.ownsRow_nil _ _ _ _
  · rw [e i] at hg
    cases hg

attribute [local go_sem ↓] ldDigest_def stDigest_def bsAll_def apAll_def
set_option maxRecDepth 100000 in
set_option maxHeartbeats 4000000 in
theorem paths_any (ds : List (List UInt8)) (A : Option Addr) (c : Nat) (hL : 0 < ds.length) (hLc : ds.length ≤ c) (hm : ds.length ≤ 262144) (w : World) (hD : Digs w w.heap.size A ds) (hR : Roots w) :
    Calls Tryd.prog 31 #[.slice A ds.length c] w fun e w' => ∃ P vs t, e = .returned (.slice (some ⟨P, 0, none⟩) ds.length ds.length) ∧ PthW w' w.heap.size P ds.length vs t ∧ (ds.length = 1 → vs = [nilP]) ∧ Below w.heap.size w w' := by
  obtain ⟨n, hn⟩ : ∃ n, n = ds.length := ⟨_, rfl⟩
  have hmk : ∀ w' : World, (Instr.makeSlice 72 (.int .i64 (n : Int)) (.int .i64 (n : Int))).run Tryd.prog w' = .ok (.slice (some ⟨w'.heap.size, 0, none⟩) n n) (w'.alloc (.cells (List.replicate n nilP).toArray 27)) := fun w' => make_rows n (by omega) w'
  obtain ⟨w1, hw1⟩ : ∃ w1, w1 = w.alloc (.cells (List.replicate n nilP).toArray 27) := ⟨_, rfl⟩
  have HP1 : Hid (PthW w1 w.heap.size w.heap.size n (List.replicate n nilP) 0) := Lib.hid (by rw [hw1]; exact PthW.new w n)
  have HF1 : Hid (Below w.heap.size w w1) := by rw [hw1]; exact (Below.refl _ _).alloc (Nat.le_refl _) _
  have HD1 := Lib.hid (hD.far HF1.out)
  have HOF : Hid (PthOff A w.heap.size (List.replicate n nilP)) := Lib.hid (fun g o hA => by
    obtain ⟨g2, o2, hA2, hlt2, _⟩ := hD.some_ hL
    rw [hA] at hA2
    injection hA2 with hA2
    injection hA2 with hA2
    refine ⟨by omega, fun j => ?_⟩
    rw [List.getD_eq_getElem?_getD, List.getElem?_replicate]
    split <;> (intro h; cases h))
  have HR := Lib.hid hR
  have HN : Hid (0 < n ∧ n ≤ 262144 ∧ n ≤ c) := Lib.hid ⟨by omega, by omega, by omega⟩
  have HDN : Hid (ds.length = n) := Lib.hid hn.symm
  rw [← hn]
  clear hL hLc hm hD hR hn
  go_enter Tryd.func31, Tryd.ntmps31
  go_upto_region 2 with fail
  change Code.wp _ _ _ _ (w.alloc (.cells (List.replicate n nilP).toArray 27))
  rw [← hw1]
  clear hw1 hmk
  go_upto_region 3 with fail
  go_loopw [4, 5] (fun r wd wr => ∃ (A : Option Addr) (m c wi t : Nat) (vs : List Value) (es : List (List UInt8)), r = .slice A m c ∧ wd = .int .i64 (wi : Int) ∧ Hid (es.length = m ∧ 0 < m ∧ m ≤ c ∧ m ≤ n) ∧ Hid (0 < wi ∧ wi * (m - 1) < n) ∧ Hid (Digs wr wr.heap.size A es ∧ PthOff A w.heap.size vs) ∧ Hid (PthW wr w.heap.size w.heap.size n vs t ∧ t ≤ (n - m) * n) ∧ Hid (n = 1 → vs = [nilP]) ∧ Hid (Below w.heap.size w wr)) (fun r _ _ => lenOfV r)
  case atStart => exact ⟨_, _, _, 1, 0, _, ds, rfl, rfl, Lib.hid ⟨HDN.out, HN.out.1, HN.out.2.2, Nat.le_refl _⟩, Lib.hid ⟨by omega, by have := HN.out; omega⟩, Lib.hid ⟨HD1.out, HOF.out⟩, Lib.hid ⟨HP1.out, Nat.zero_le _⟩, Lib.hid (fun e => by rw [e]; rfl), HF1⟩
  case round =>
    clear HP1 HF1 HD1
    obtain ⟨A, m, c, wi, t, vs, es, rfl, rfl, HM, HWI, HDI, HPT, HV, HF⟩ := hrel
    by_cases hlt : 1 < m
    · have HLT := Lib.hid hlt
      have i1 : (1 : Int) < (m : Int) := by omega
      go_upto_region 6 with fail
      clear i1
      go_loopw [21] (fun i wr => ∃ (k t : Nat) (vs : List Value), k ≤ n ∧ i = .int .i64 (k : Int) ∧ Hid (Digs wr wr.heap.size A es ∧ PthOff A w.heap.size vs) ∧ Hid (PthW wr w.heap.size w.heap.size n vs t ∧ t ≤ (n - m) * n + k) ∧ Hid (Below w.heap.size w wr)) (fun i _ => n - (intOf i).toNat)
      case atStart => exact ⟨0, t, vs, Nat.zero_le _, rfl, HDI, HPT, HF⟩
      case round =>
        clear HDI HPT HV HF
        obtain ⟨k, t, vs, hk, rfl, HDI, HPT, HF⟩ := hrel
        by_cases hkl : k < n
        · have HKL := Lib.hid hkl
          have j1 : (k : Int) < (n : Int) := by omega
          have hw0 : ¬ wi = 0 := by have := HWI.out.1; omega
          obtain ⟨q, hq⟩ : ∃ q, q = k / wi := ⟨_, rfl⟩
          have hql : q ≤ k := by rw [hq]; exact Nat.div_le_self _ _
          have wq : wrap64 ((k : Int) / (wi : Int)) = (q : Int) := by
            have e : (k : Int) / (wi : Int) = (q : Int) := by rw [hq]; exact (Int.natCast_ediv k wi).symm
            rw [e]
            unfold wrap64
            have := HN.out
            omega
          have xq := xor_one q (by have := HN.out; omega)
          have wk : IntKind.i64.wrap ((k : Int) + 1) = ((k + 1 : Nat) : Int) := by rw [IntKind.wrap_i64]; have := HN.out; omega
          generalize sib q = ot at *
          clear hq hql hkl
          by_cases ho : ot < m
          · have o1 : (ot : Int) < (m : Int) := by omega
            obtain ⟨ga, oa, rfl, _, _⟩ := HDI.out.1.some_ (by have := HM.out; omega)
            have hol : ot < es.length := by have := HM.out; omega
            have lk : (ldDigest (.pointer (some ⟨ga, oa + ot * 32, none⟩))).run Tryd.prog wr.drew = .ok (.agg ((es.getD ot []).map bv).toArray) wr.drew := (HDI.out.1.far ((Below.refl _ _).drew)).load hol
            have hdl : (es.getD ot []).length = 32 := HDI.out.1.all.get hol []
            generalize es.getD ot [] = d at *
            have hbs := fun w' => build_one d hdl w'
            have HB := Lib.hid HF.out.size
            obtain ⟨v, w3, hap, hc3, hf3, ⟨A3, m3, c3, rfl⟩, hp3, hb3, hod3⟩ := (HPT.out.1.call (Below.refl _ _).drew).push HKL.out (by
              have h1 := HPT.out.2
              have h2 : (n - m) * n ≤ 262144 * 262144 := Nat.mul_le_mul (by have := HN.out; omega) HN.out.2.1
              have := HN.out
              omega) d hdl (by exact HF.out.size)
            have hcp : wr.cell? ⟨w.heap.size, k, none⟩ = some (vs.getD k nilP) := HPT.out.1.cell HKL.out
            have hne : w.heap.size ≠ wr.heap.size := Nat.ne_of_lt HPT.out.1.box.lt
            have HP3 := Lib.hid hp3
            have HB3 := Lib.hid hb3
            have HOD := Lib.hid (hod3 _ es (by have := HM.out; omega) (HDI.out.1.far ((Below.refl _ _).drew)) HDI.out.2)
            have hca : (wr.alloc (.cells (d.map bv).toArray 23)).cell? ⟨w.heap.size, k, none⟩ = some (vs.getD k nilP) := (HPT.out.1.grown (World.grownBy_alloc wr _ none)).cell HKL.out
            have hap2 : (apAll #[27, 27] 27 #[vs.getD k nilP, .slice (some ⟨wr.heap.size, 0, none⟩) 1 1]).run Tryd.prog (wr.alloc (.cells (d.map bv).toArray 23)).drew = .ok (.slice A3 m3 c3) w3 := hap
            have HPT0 := HPT
            obtain ⟨u, hu⟩ : ∃ u, u = vs.getD k nilP := ⟨_, rfl⟩
            rw [← hu] at hc3 hcp hca hap2
            clear hp3 hb3 hod3 hol ho hdl hap hu HPT
            go_wp2
            go_region
            all_goals go_wp2
            all_goals go_roundw
            case rel => exact ⟨k + 1, t + 1, _, HKL.out, by go_num, HOD, Lib.hid ⟨HP3.out, by have := HPT0.out.2; omega⟩, Lib.hid (HF.out.drew.trans HB3.out)⟩
            case measure => have := HKL.out; simp [intOf]; omega
          · have o1 : ¬ (ot : Int) < (m : Int) := by omega
            clear ho
            go_wp2
            go_roundw
            case rel => exact ⟨k + 1, t, vs, HKL.out, by go_num, HDI, Lib.hid ⟨HPT.out.1, by have := HPT.out.2; omega⟩, HF⟩
            case measure => have := HKL.out; simp [intOf]; omega
        · have j1 : ¬ (k : Int) < (n : Int) := by omega
          have hke : k = n := by omega
          subst hke
          obtain ⟨ga, oa, rfl, _, _⟩ := HDI.out.1.some_ (by have := HM.out; omega)
          have HCA := Lib.hid (cabove_any es ga oa c (by have := HM.out; omega) (by have := HM.out; omega) (by have := HM.out; have := HN.out; omega) wr HDI.out.1 (HR.out.of_below HF.out))
          rw [HM.out.1] at HCA
          have HWB : Hid (wi < k) := Lib.hid (by
            have h1 := Nat.le_mul_of_pos_right wi (show 0 < m - 1 by have := HLT.out; omega)
            have := HWI.out.2
            omega)
          have w2 : IntKind.i64.wrap (2 * (wi : Int)) = 2 * (wi : Int) := by rw [IntKind.wrap_i64]; have := HWB.out; have := HN.out; omega
          have HW2 : Hid (0 < 2 * wi ∧ 2 * wi * ((m + 1) / 2 - 1) < k) := Lib.hid ⟨by have := HWI.out.1; omega, by
            have h1 := Nat.mul_le_mul_left wi (show 2 * ((m + 1) / 2 - 1) ≤ m - 1 by omega)
            have h2 : 2 * wi * ((m + 1) / 2 - 1) = wi * (2 * ((m + 1) / 2 - 1)) := by rw [Nat.mul_comm 2 wi, Nat.mul_assoc]
            have := HWI.out.2
            omega⟩
          have HT2 : Hid (t ≤ (k - (m + 1) / 2) * k) := Lib.hid (by
            have h1 := Nat.mul_le_mul_right k (show k - m + 1 ≤ k - (m + 1) / 2 by have := HM.out; have := HLT.out; omega)
            rw [Nat.succ_mul] at h1
            have := HPT.out.2
            omega)
          have HOW : Hid (∀ g', wr.heap.size ≤ g' → PthOff (some ⟨g', 0, none⟩) w.heap.size vs) := Lib.hid (fun g' hg g o hA => by
            injection hA with hA
            injection hA with hA
            subst hA
            have h1 := HPT.out.1.box.lt
            refine ⟨by omega, fun j hj => ?_⟩
            obtain ⟨ps, h2, _⟩ := HPT.out.1.own j
            have := (own_box11 h2 hj).2.1
            omega)
          clear hk hkl hlt
          go_wp2_with (go_at_call 68; (with_reducible refine (HCA.out).mono ?_); rintro e w4 ⟨A4, c4, rfl, hcc, ⟨g', rfl, hg'⟩, hd4, hb4⟩; have HD4 := Lib.hid (And.intro hd4 (HOW.out g' hg')); have HC4 := Lib.hid hcc; have HP4 := Lib.hid (HPT.out.1.call hb4); have HF4 := Lib.hid (HF.out.trans (hb4.mono HF.out.size)); clear hcc hg' hd4 hb4)
          go_roundw
          case rel => exact ⟨_, _, _, 2 * wi, t, vs, aboveL es (List.range ((m + 1) / 2)), rfl, by go_num, Lib.hid ⟨by unfold aboveL; simp, by have := HLT.out; omega, HC4.out, by have := HM.out; omega⟩, HW2, HD4, Lib.hid ⟨HP4.out, HT2.out⟩, Lib.hid (fun e => by have := HM.out; have := HLT.out; omega), HF4⟩
          case measure => have := HLT.out; simp [lenOfV]; omega
    · have i1 : ¬ (1 : Int) < (m : Int) := by omega
      clear hlt
      go_wp2
      go_ret
      exact ⟨_, rfl, vs, ⟨t, HPT.out.1⟩, HV.out, HF.out⟩
end Go.Proofs.YtlogceoeodjeoaaDoor

namespace Go.Proofs.YtlogceoeodjeoaaDoor
open Go.RowKit Go.Maps Go.Shelf

noncomputable def mkP (l c : Value) : Sem Value := Instr.makeSlice 24 l c
set_option maxRecDepth 100000 in
theorem mkP_def (l c : Value) : Instr.makeSlice 24 l c = mkP l c := rfl
set_option maxRecDepth 100000 in
theorem make_pcs (n : Nat) (hn : n ≤ 262144) (w : World) :
    (mkP (.int .i64 (n : Int)) (.int .i64 (n : Int))).run Tryd.prog w = .ok (.slice (some ⟨w.heap.size, 0, none⟩) n n) (w.alloc (.cells (PcK.flat (List.replicate n zpc)).toArray 29)) := by
  obtain ⟨i0, hi0, hz0, hz1, hz2⟩ := info_parts PcK.info
  have hr := run_make (P := Tryd.prog) w 24 29 i0 _ Tryd.underlying24 hi0 hz0 .i64 .i64 n n (by omega) (Int.le_refl _) (by rw [hz2]; show (88 : Nat) * (n : Int) ≤ _; omega) (by omega)
  unfold mkP
  rw [hr, Int.toNat_natCast, hz1]
  have e : madeCells PcK.z.cells (n * PcK.k) = (PcK.flat (List.replicate n zpc)).toArray := by
    have h1 := PcK.zer_eq n
    have h2 : PcK.flat (List.replicate n zpc) = PcK.zer n := by
      unfold EK.zer
      show (List.replicate n zpc).flatMap PcM.cells = _
      rw [List.flatMap_def, List.map_replicate]
      rfl
    rw [h2, ← h1]
    rfl
  rw [e]
/-- A piece of a state. -/
def addrOfV : Value → Option Addr
  | .slice A _ _ => A
  | _ => none
def capOfV : Value → Nat
  | .slice _ _ c => c
  | _ => 0
def pieceM (bs : List UInt8) (rt : List UInt8) (hrt : rt.length = 32) (vs : List Value) (k : Nat) : PcM :=
  ⟨⟨(k : Int), (nCh bs : Int), rt, ⟨(chunkL bs k).toArray⟩, List.replicate (lenOfV (vs.getD k nilP)) [], hrt⟩, addrOfV (vs.getD k nilP), capOfV (vs.getD k nilP)⟩
set_option maxRecDepth 100000 in
theorem piece_cells (bs : List UInt8) (rt : List UInt8) (hrt : rt.length = 32) (vs : List Value) (k : Nat) {A : Option Addr} {m c : Nat} (h : vs.getD k nilP = .slice A m c) :
    (pieceM bs rt hrt vs k).cells = pcL (k : Int) (nCh bs : Int) rt ⟨(chunkL bs k).toArray⟩ A m c := by
  unfold pieceM PcM.cells
  rw [h]
  simp only [lenOfV, addrOfV, capOfV, List.length_replicate]
set_option maxRecDepth 100000 in
theorem fill_step11 {L : List PcM} {n k : Nat} {f : Nat → PcM} (h1 : L.length = n) (h2 : L.take k = (List.range k).map f) (hk : k < n) : (L.set k (f k)).length = n ∧ (L.set k (f k)).take (k + 1) = (List.range (k + 1)).map f := by
  refine ⟨by rw [List.length_set]; exact h1, ?_⟩
  have hl : k < (L.set k (f k)).length := by rw [List.length_set, h1]; exact hk
  have e1 : (L.set k (f k)).take k = L.take k := by rw [List.take_set, List.set_eq_of_length_le (by rw [List.length_take]; omega)]
  have e2 : (L.set k (f k))[k] = f k := by simp
  rw [List.take_succ_eq_append_getElem hl, e1, e2, h2, List.range_succ, List.map_append]
  rfl
/-- What Pieces answers. -/
def PcsIs2 (bs rt : List UInt8) (w : World) (e : Ending) (w' : World) : Prop :=
  ∃ (G : Nat) (ps : List PcM) (vs : List Value) (hrt : rt.length = 32), e = .returned (.slice (some ⟨G, 0, none⟩) ps.length ps.length) ∧ ps = (List.range (nCh bs)).map (pieceM bs rt hrt vs) ∧ (nCh bs = 1 → vs = [nilP]) ∧ PcK.See w' w'.heap.size (some ⟨G, 0, none⟩) ps ∧ Below w.heap.size w w'

attribute [local go_sem ↓] ldSt_def stSt_def ldDigest_def stDigest_def ldPc_def stPc_def bdPc_def mkP_def
set_option maxRecDepth 100000 in
set_option maxHeartbeats 4000000 in
theorem pieces_any (s : StM) (w : World) (hS : s.See w w.heap.size) (hl : (stB s.pl).length ≤ 67108864) (hR : Roots w) :
    Calls Tryd.prog 13 #[.agg s.cells] w (PcsIs2 (stB s.pl) (rootT (leafL (stB s.pl))) w) := by
  obtain ⟨w1, hw1⟩ : ∃ w1, w1 = w.alloc (.cells s.cells 37) := ⟨_, rfl⟩
  have HB1 : Hid (Box w1 w.heap.size 37 s.cells) := by rw [hw1]; exact Box.made _ _ _
  have HF1 : Hid (Below w.heap.size w w1) := by rw [hw1]; exact (Below.refl _ _).alloc (Nat.le_refl _) _
  have HPA := Lib.hid (parts_any s w1 (hS.far HF1.out) (by omega))
  have HR := Lib.hid hR
  have ls : (ldSt (.pointer (some ⟨w.heap.size, 0, none⟩))).run Tryd.prog w1 = .ok (.agg s.cells) w1 := HB1.out.l_st
  have HL := Lib.hid hl
  have HPO := Lib.hid (nCh_pos (stB_pos s.pl))
  generalize stB s.pl = bs at *
  have HN : Hid (nCh bs ≤ 262144) := Lib.hid (by have := HL.out; unfold nCh; omega)
  have HLV : Hid (∀ (A : Option Addr) (g o c : Nat) (w' : World), PartsW bs A g o w' → Roots w' → Calls Tryd.prog 29 #[.slice A (nCh bs) c] w' fun e w'' => ∃ A' c', e = .returned (.slice A' (nCh bs) c') ∧ Digs w'' w''.heap.size A' (leafL bs) ∧ nCh bs ≤ c' ∧ Below w'.heap.size w' w'') := Lib.hid (fun A g o c w' h hr => leaves_any bs A g o c w' h (by have := HL.out; omega) hr)
  have HRT : Hid (∀ (A : Option Addr) (c : Nat) (w' : World), Digs w' w'.heap.size A (leafL bs) → Roots w' → Calls Tryd.prog 30 #[.slice A (nCh bs) c] w' fun e w'' => e = .returned (.agg ((rootT (leafL bs)).map bv).toArray) ∧ Below w'.heap.size w' w'') := Lib.hid (fun A c w' h hr => by
    have h2 := root_any (leafL bs) A c w' h (by rw [leaf_len]; have := HN.out; omega) hr
    rwa [leaf_len] at h2)
  have HPT : Hid (∀ (A : Option Addr) (c : Nat) (w' : World), Digs w' w'.heap.size A (leafL bs) → nCh bs ≤ c → Roots w' → Calls Tryd.prog 31 #[.slice A (nCh bs) c] w' fun e w'' => ∃ P vs t, e = .returned (.slice (some ⟨P, 0, none⟩) (nCh bs) (nCh bs)) ∧ PthW w'' w'.heap.size P (nCh bs) vs t ∧ (nCh bs = 1 → vs = [nilP]) ∧ Below w'.heap.size w' w'') := Lib.hid (fun A c w' h hc hr => by
    have h2 := paths_any (leafL bs) A c (by rw [leaf_len]; exact HPO.out) (by rw [leaf_len]; exact hc) (by rw [leaf_len]; exact HN.out) w' h hr
    rwa [leaf_len] at h2)
  have HRL : Hid ((rootT (leafL bs)).length = 32) := Lib.hid (leaf_all bs).root
  generalize rootT (leafL bs) = rt at *
  clear hS hl HB1 HL hR
  go_enter Tryd.func13, Tryd.ntmps13
  go_upto_region 1 with fail
  change Code.wp _ _ _ _ (w.alloc (.cells s.cells 37))
  rw [← hw1]
  clear hw1
  go_upto_region 4 with (first
    | (go_at_call 28; (with_reducible refine (HPA.out).mono ?_); rintro e w2 ⟨A, c, g, o, rfl, hpw, hc, hb2⟩; have HPW := Lib.hid hpw; have HF2 := Lib.hid (HF1.out.trans (hb2.mono HF1.out.size)); have HC2 := Lib.hid (HLV.out A g o c w2 hpw (HR.out.of_below HF2.out)); clear hpw hc hb2)
    | (go_at_call 29; (with_reducible refine (HC2.out).mono ?_); rintro e w3 ⟨A3, c3, rfl, hdg, hc3, hb3⟩; have HPW3 := Lib.hid (HPW.out.far hb3); have HF3 := Lib.hid (HF2.out.trans (hb3.mono HF2.out.size)); have HD3 := Lib.hid hdg; have HC3 := Lib.hid (HRT.out A3 c3 w3 hdg (HR.out.of_below HF3.out)); have HCC := Lib.hid hc3; clear hdg hc3 hb3)
    | (go_at_call 30; (with_reducible refine (HC3.out).mono ?_); rintro e w4 ⟨rfl, hb4⟩; have HPW4 := Lib.hid (HPW3.out.far hb4); have HF4 := Lib.hid (HF3.out.trans (hb4.mono HF3.out.size)); have HC4 := Lib.hid (HPT.out A3 c3 w4 (HD3.out.far hb4) HCC.out (HR.out.of_below HF4.out)); clear hb4)
    | (go_at_call 31; (with_reducible refine (HC4.out).mono ?_); rintro e w5 ⟨P, vs, t, rfl, hpt, hv, hb5⟩; have HPW5 := Lib.hid (HPW4.out.far hb5); have HF5 := Lib.hid (HF4.out.trans (hb5.mono HF4.out.size)); have HP5 := Lib.hid hpt; have HV := Lib.hid hv; obtain ⟨w6, hst, hB6, hb6⟩ : ∃ w6, (stDigest (.pointer (some ⟨w5.heap.size, 0, none⟩)) (.agg (rt.map bv).toArray)).run Tryd.prog (w5.alloc (.cells #[.int .u8 0, .int .u8 0, .int .u8 0, .int .u8 0, .int .u8 0, .int .u8 0, .int .u8 0, .int .u8 0, .int .u8 0, .int .u8 0, .int .u8 0, .int .u8 0, .int .u8 0, .int .u8 0, .int .u8 0, .int .u8 0, .int .u8 0, .int .u8 0, .int .u8 0, .int .u8 0, .int .u8 0, .int .u8 0, .int .u8 0, .int .u8 0, .int .u8 0, .int .u8 0, .int .u8 0, .int .u8 0, .int .u8 0, .int .u8 0, .int .u8 0, .int .u8 0] 23)) = .ok () w6 ∧ Box w6 w5.heap.size 23 (rt.map bv).toArray ∧ Below w5.heap.size w5 w6 := ⟨_, (Box.made w5 23 (zerosD 32).toArray).store_digest rfl rt HRL.out, (Box.made w5 23 (zerosD 32).toArray).cells_dig rfl HRL.out, below_cells ((Below.refl _ _).alloc (Nat.le_refl _) _) (Nat.le_refl _) (by simp) 0 (rt.map bv)⟩; have HRB := Lib.hid hB6; have HB56 := Lib.hid hb6; clear hB6 hb6; clear hpt hv hb5))
  clear hst ls HPA HC2 HC3 HC4 HLV HRT HPT HPW HPW3 HPW4 HD3 HCC
  have HPW6 := Lib.hid (HPW5.out.far HB56.out)
  have HP6 := Lib.hid (HP5.out.call HB56.out)
  have HF6 := Lib.hid (HF5.out.trans (HB56.out.mono HF5.out.size))
  clear HPW5 HP5 HB56 HF1 HF2 HF3 HF4 HF5
  generalize w5.heap.size = rb at *
  obtain ⟨n, hn⟩ : ∃ n, n = nCh bs := ⟨_, rfl⟩
  have HNN := Lib.hid hn
  rw [← hn] at HN HPO HV HP6 ⊢
  have hmk := fun w' => make_pcs n HN.out w'
  have HSE : Hid (∀ w', Below w6.heap.size w6 w' → ∀ k, k < n → ∃ ga oa, A = some ⟨ga, oa, none⟩ ∧ w'.cell? ⟨ga, oa + k, none⟩ = some (chkB g o bs.length k)) := Lib.hid (fun w' hb k hk => by
    rcases (HPW6.out.far hb).see with h | ⟨ga, oa, e, _, hc⟩
    · rw [List.map_eq_nil_iff, List.range_eq_nil] at h
      omega
    · exact ⟨ga, oa, e, hc k _ (by rw [List.getElem?_map, List.getElem?_range (by omega)]; rfl)⟩)
  have HWN : Hid (Below w6.heap.size w6 (w6.alloc (.cells (PcK.flat (List.replicate n zpc)).toArray 29))) := (Below.refl _ _).alloc (Nat.le_refl _) _
  have HON : Hid (PcK.Own (w6.alloc (.cells (PcK.flat (List.replicate n zpc)).toArray 29)) w6.heap.size (.slice (some ⟨w6.heap.size, 0, none⟩) n n) (List.replicate n zpc)) := Lib.hid (by
    have h := PcK.own_lit w6 (Nat.le_refl _) (List.replicate n zpc) (by rw [List.length_replicate]; have := HN.out; unfold maxLen; omega)
    rw [List.length_replicate] at h
    exact h)
  clear hn
  go_upto_region 5 with fail
  clear hmk
  generalize w6.alloc (.cells (PcK.flat (List.replicate n zpc)).toArray 29) = w7 at *
  go_upto_region 6 with fail
  have hrt : rt.length = 32 := HRL.out
  go_loopw [23] (fun i wr => ∃ (k : Nat) (L : List PcM), k ≤ n ∧ i = .int .i64 (k : Int) ∧ Hid (L.length = n ∧ L.take k = (List.range k).map (pieceM bs rt hrt vs)) ∧ Hid (PcK.Own wr w6.heap.size (.slice (some ⟨w6.heap.size, 0, none⟩) n n) L) ∧ Hid (Below w6.heap.size w6 wr)) (fun i _ => n - (intOf i).toNat)
  case atStart => exact ⟨0, _, Nat.zero_le _, rfl, Lib.hid ⟨List.length_replicate, rfl⟩, HON, HWN⟩
  case round =>
    clear HON HWN
    obtain ⟨k, L, hk, rfl, HLL, HO, HB⟩ := hrel
    by_cases hlt : k < n
    · have HLT := Lib.hid hlt
      obtain ⟨ga, oa, rfl, hc⟩ := HSE.out wr HB.out k hlt
      rw [PartsW.val] at hc
      have i1 : (k : Int) < (n : Int) := by omega
      have i0 : (0 : Int) ≤ (k : Int) := by omega
      have wk : IntKind.i64.wrap ((k : Int) + 1) = ((k + 1 : Nat) : Int) := by rw [IntKind.wrap_i64]; have := HN.out; omega
      have hbd : Below w6.heap.size w6 wr.drew := HB.out.drew
      have lr : (ldDigest (.pointer (some ⟨rb, 0, none⟩))).run Tryd.prog wr.drew = .ok (.agg (rt.map bv).toArray) wr.drew := range_load (HRB.out.below hbd HRB.out.lt).range hrt
      have cv : (convert 46 9 (.slice (some ⟨g, o + k * 256, none⟩) (chunkL bs k).length (chunkL bs k).length)).run Tryd.prog wr.drew = .ok (.string ⟨(chunkL bs k).toArray⟩) wr.drew := convert_sees (P := Tryd.prog) 46 5 9 Tryd.underlying46 Tryd.underlying5 Tryd.underlying9 ((HPW6.out.far hbd).part k) _
      obtain ⟨Au, mu, cu, hu⟩ := HP6.out.slice k
      have cp : wr.cell? ⟨P, k, none⟩ = some (.slice Au mu cu) := by rw [← hu]; exact (HP6.out.call HB.out).cell hlt
      have hbp := fun w' => bd_pc (k : Int) (n : Int) hrt ⟨(chunkL bs k).toArray⟩ Au mu cu w'
      have hpe : (pieceM bs rt hrt vs k).cells = pcL (k : Int) (n : Int) rt ⟨(chunkL bs k).toArray⟩ Au mu cu := by rw [HNN.out]; exact piece_cells bs rt hrt vs k hu
      have HOD : Hid (PcK.Own wr.drew w6.heap.size (.slice (some ⟨w6.heap.size, 0, none⟩) n n) L) := HO
      obtain ⟨hs1, hs2, hs3⟩ := HOD.out.put (i := k) (by have := HLL.out; omega) (pieceM bs rt hrt vs k)
      obtain ⟨w9, hst, HO9, HG9⟩ : ∃ w9, (stPc (.pointer (some ⟨w6.heap.size, k * 36, none⟩)) (.agg (pcL (k : Int) (n : Int) rt ⟨(chunkL bs k).toArray⟩ Au mu cu).toArray)).run Tryd.prog wr.drew = .ok () w9 ∧ Hid (PcK.Own w9 w6.heap.size (.slice (some ⟨w6.heap.size, 0, none⟩) n n) (L.set k (pieceM bs rt hrt vs k))) ∧ Hid (Below w6.heap.size w6 w9) := ⟨_, by rw [← hpe]; exact hs1, Lib.hid hs2, Lib.hid (hbd.trans (below_only hs3 (Nat.le_refl _) hbd.size))⟩
      have HL2 : Hid ((L.set k (pieceM bs rt hrt vs k)).length = n ∧ (L.set k (pieceM bs rt hrt vs k)).take (k + 1) = (List.range (k + 1)).map (pieceM bs rt hrt vs)) := Lib.hid (fill_step11 HLL.out.1 HLL.out.2 HLT.out)
      generalize pieceM bs rt hrt vs k = pk at *
      generalize hcl : chunkL bs k = ck at *
      clear hs1 hs2 hs3 hpe hu hbd HSE hlt hcl
      go_upto_region 8 with fail
      go_region
      all_goals go_wp2
      all_goals go_roundw
      case rel => exact ⟨k + 1, _, HLT.out, by go_num, HL2, HO9, HG9⟩
      case measure => have := HLT.out; simp [intOf]; omega
    · have i1 : ¬ (k : Int) < (n : Int) := by omega
      have hke : k = n := by omega
      subst hke
      clear hk hlt HSE
      have HLE : Hid (L = (List.range (nCh bs)).map (pieceM bs rt hrt vs)) := Lib.hid (by
        have h := HLL.out.2
        rw [List.take_of_length_le (by have := HLL.out.1; omega)] at h
        rw [← HNN.out]
        exact h)
      have HLN : Hid (L.length = k) := Lib.hid HLL.out.1
      have HVV : Hid (nCh bs = 1 → vs = [nilP]) := Lib.hid (by rw [← HNN.out]; exact HV.out)
      have HSEE : Hid (PcK.See wr wr.heap.size (some ⟨w6.heap.size, 0, none⟩) L) := Lib.hid (EK.Own.see HO.out)
      have HFF : Hid (Below w.heap.size w wr) := Lib.hid (HF6.out.trans (HB.out.mono HF6.out.size))
      go_wp2
      have hG : PcsIs2 bs rt w (.returned (.slice (some ⟨w6.heap.size, 0, none⟩) k k)) wr := ⟨w6.heap.size, L, vs, hrt, by rw [HLN.out], HLE.out, HVV.out, HSEE.out, HFF.out⟩
      go_ret
      exact hG
end Go.Proofs.YtlogceoeodjeoaaDoor
