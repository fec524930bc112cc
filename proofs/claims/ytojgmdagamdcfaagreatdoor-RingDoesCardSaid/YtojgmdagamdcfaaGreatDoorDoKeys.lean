/-
  The document's ring: Before, Keys.
-/
import Derived.Test.YtojgmdagamdcfaaGreatDoorDB
import Derived.Test.YtojgmdagamdcfaaGreatDoorRiKeys
import Derived.Test.YtojgmdagamdcfaaGreatDoorRiCall
namespace Go.Proofs.YtojgmdagamdcfaaGreatDoor
open Go.RowKit Go.Maps

def bef (a b : List UInt8) : Bool := decide (Lib.compareBytes a b < 0)
set_option maxRecDepth 100000 in
theorem bef_at : ∀ (k : Nat) {a b : List UInt8} (ha : k < a.length) (hb : k < b.length), a.take k = b.take k → a[k]'ha ≠ b[k]'hb → bef a b = decide (a[k]'ha < b[k]'hb)
  | 0, x :: r, y :: s, _, _, _, hne => by
    simp only [List.getElem_cons_zero] at hne ⊢
    unfold bef Lib.compareBytes
    by_cases h1 : x < y
    · simp [h1]
    · have h2 : y < x := by
        rcases UInt8.lt_or_lt_of_ne hne with h | h
        · exact absurd h h1
        · exact h
      simp [h1, h2]
  | k + 1, x :: r, y :: s, ha, hb, ht, hne => by
    simp only [List.take_succ_cons, List.cons.injEq] at ht
    obtain ⟨rfl, ht⟩ := ht
    have h := bef_at k (a := r) (b := s) (by simpa using ha) (by simpa using hb) ht (by simpa using hne)
    have e : bef (x :: r) (x :: s) = bef r s := by
      unfold bef
      rw [show Lib.compareBytes (x :: r) (x :: s) = Lib.compareBytes r s from by
        conv => lhs; unfold Lib.compareBytes
        rw [if_neg (UInt8.lt_irrefl x), if_neg (UInt8.lt_irrefl x)]]
    rw [e, h]
    rfl
  | _, [], _, ha, _, _, _ => by simp at ha
  | _, _ :: _, [], _, hb, _, _ => by simp at hb
set_option maxRecDepth 100000 in
theorem bef_same (a : List UInt8) : bef a a = false := by
  unfold bef
  rw [compareBytes_self]
  decide

set_option maxRecDepth 100000 in
set_option maxHeartbeats 2000000 in
theorem before_any (a b : List UInt8) (ha : a.length = 32) (hb : b.length = 32) (w : World) :
    Calls Tryz.prog 38 #[.agg (a.map bv).toArray, .agg (b.map bv).toArray] w fun e w' => e = .returned (.bool (bef a b)) ∧ Below w.heap.size w w' := by
  obtain ⟨w1, hw1⟩ : ∃ w1, w1 = (w.alloc (.cells (a.map bv).toArray 33)).alloc (.cells (b.map bv).toArray 33) := ⟨_, rfl⟩
  have HA : Hid (Box w1 w.heap.size 33 (a.map bv).toArray) := by
    rw [hw1]
    exact (Box.made w _ _).alloc _
  have HB : Hid (Box w1 (w.heap.size + 1) 33 (b.map bv).toArray) := by
    rw [hw1]
    exact Box.made_at (by simp) _ _
  have HF : Hid (Below w.heap.size w w1) := by
    rw [hw1]
    exact ((Below.refl _ _).alloc (Nat.le_refl _) _).alloc (by simp) _
  have HLA := Lib.hid ha
  have HLB := Lib.hid hb
  clear ha hb
  go_enter Tryz.func38, Tryz.ntmps38
  go_upto_region 1 with fail
  change Code.wp _ _ _ _ ((w.alloc (.cells (a.map bv).toArray 33)).alloc (.cells (b.map bv).toArray 33))
  rw [← hw1]
  clear hw1
  go_wp2
  go_loopw [4, 5, 6] (fun z _ i wr => ∃ k : Nat, k ≤ 32 ∧ i = .int .i64 (k : Int) ∧ z = .bool false ∧ Hid (a.take k = b.take k) ∧ Hid (Below w1.heap.size w1 wr)) (fun _ _ i _ => 32 - (intOf i).toNat)
  case atStart => exact ⟨0, Nat.zero_le _, rfl, rfl, Lib.hid (by simp), Lib.hid (Below.refl _ _)⟩
  case round =>
    obtain ⟨k, hk, rfl, rfl, HT, HW⟩ := hrel
    by_cases hlt : k < 32
    · have la : k < a.length := by rw [HLA.out]; exact hlt
      have lb : k < b.length := by rw [HLB.out]; exact hlt
      have hA : wr.cell? ⟨w.heap.size, k, none⟩ = some (.int .u8 ((a[k]'la).toNat : Int)) := by
        rw [(HA.out.below HW.out HA.out.lt).cell, List.getElem?_toArray, List.getElem?_map, List.getElem?_eq_getElem la]
        rfl
      have hB : wr.cell? ⟨w.heap.size + 1, k, none⟩ = some (.int .u8 ((b[k]'lb).toNat : Int)) := by
        rw [(HB.out.below HW.out HB.out.lt).cell, List.getElem?_toArray, List.getElem?_map, List.getElem?_eq_getElem lb]
        rfl
      have hk2 : (k : Int) < 32 := by omega
      by_cases hne : a[k]'la = b[k]'lb
      · have HT2 : Hid (a.take (k + 1) = b.take (k + 1)) := Lib.hid (by
          rw [List.take_succ_eq_append_getElem la, List.take_succ_eq_append_getElem lb, HT.out, hne])
        have e1 : (((a[k]'la).toNat : Int) != ((b[k]'lb).toNat : Int)) = false := by simp [hne]
        generalize (a[k]'la).toNat = x at *
        generalize (b[k]'lb).toNat = y at *
        clear hne
        go_wp2
        go_quiet (fail)
        have HW2 := Lib.hid (below_drewN HW.out nq)
        clear hA hB
        generalize wr.drewN nq = wn at *
        go_wp2
        go_roundw
        case rel => exact ⟨k + 1, hlt, by go_num, rfl, HT2, HW2⟩
        case measure => simp [intOf]; omega
      · have HBF := Lib.hid (bef_at k la lb HT.out hne)
        have hnn : (a[k]'la).toNat ≠ (b[k]'lb).toNat := fun e => hne (UInt8.toNat_inj.1 e)
        have e1 : (((a[k]'la).toNat : Int) != ((b[k]'lb).toNat : Int)) = true := by
          have : ¬ (((a[k]'la).toNat : Int) = ((b[k]'lb).toNat : Int)) := by omega
          simpa using this
        have HRS : Hid (decide (a[k]'la < b[k]'lb) = decide ((a[k]'la).toNat < (b[k]'lb).toNat)) := Lib.hid (by
          rw [decide_eq_decide]
          exact UInt8.lt_iff_toNat_lt)
        rw [HRS.out] at HBF
        generalize (a[k]'la).toNat = x at *
        generalize (b[k]'lb).toNat = y at *
        clear hne HRS hnn
        go_wp2
        go_quiet (fail)
        go_wp2
        go_quiet (fail)
        go_wp2
        go_ret
        rw [HBF.out]
        exact ⟨rfl, below_drewN (below_drewN (HF.out.trans (HW.out.mono HF.out.size)) _) _⟩
    · have HE : Hid (bef a b = false) := Lib.hid (by
        have : k = 32 := by omega
        subst this
        have h := HT.out
        rw [List.take_of_length_le (by rw [HLA.out]; exact Nat.le_refl _), List.take_of_length_le (by rw [HLB.out]; exact Nat.le_refl _)] at h
        rw [h]
        exact bef_same b)
      go_wp2
      go_ret
      rw [HE.out]
      exact ⟨rfl, HF.out.trans (HW.out.mono HF.out.size)⟩

/-- Which place each entry's key has among the keys in order. -/
structure Ranks (es : List Ent) (xs : List KeyX) (ρ : Nat → Nat) : Prop where
  len : xs.length = es.length
  lt : ∀ j, j < es.length → ρ j < xs.length
  root : ∀ j (hj : j < es.length) (h : ρ j < xs.length), (xs[ρ j]'h).root = (es[j]'hj).root ∧ (xs[ρ j]'h).high = ((es[j]'hj).h : Int)
  onto : ∀ t, t < xs.length → ∃ j, j < es.length ∧ ρ j = t
  order : ∀ s t (h : t < xs.length) (hst : s < t), Lib.compareBytes (xs[s]'(Nat.lt_trans hst h)).root (xs[t]'h).root < 0
set_option maxRecDepth 100000 in
theorem Ranks.bef_xs {es : List Ent} {xs : List KeyX} {ρ : Nat → Nat} (h : Ranks es xs ρ) {s t : Nat} (hs : s < xs.length) (ht : t < xs.length) : bef (xs[s]'hs).root (xs[t]'ht).root = decide (s < t) := by
  unfold bef
  rw [decide_eq_decide]
  constructor
  · intro hc
    rcases Nat.lt_trichotomy s t with h1 | h1 | h1
    · exact h1
    · subst h1
      rw [compareBytes_self] at hc
      omega
    · have h2 := h.order t s hs h1
      rw [compareBytes_swap] at h2
      omega
  · exact fun h1 => h.order s t ht h1
set_option maxRecDepth 100000 in
theorem Ranks.bef_es {es : List Ent} {xs : List KeyX} {ρ : Nat → Nat} (h : Ranks es xs ρ) {i j : Nat} (hi : i < es.length) (hj : j < es.length) : bef (es[i]'hi).root (es[j]'hj).root = decide (ρ i < ρ j) := by
  rw [← (h.root i hi (h.lt i hi)).1, ← (h.root j hj (h.lt j hj)).1]
  exact h.bef_xs _ _
set_option maxRecDepth 100000 in
theorem Ranks.bef_mid {es : List Ent} {xs : List KeyX} {ρ : Nat → Nat} (h : Ranks es xs ρ) {t j : Nat} (ht : t < xs.length) (hj : j < es.length) : bef (xs[t]'ht).root (es[j]'hj).root = decide (t < ρ j) := by
  rw [← (h.root j hj (h.lt j hj)).1]
  exact h.bef_xs _ _
/-- The best one so far among those that aren't out yet. -/
def BestI (ρ : Nat → Nat) (t q : Nat) (b : Int) : Prop := (b = -1 ∧ ∀ j, j < q → ρ j < t) ∨ ∃ j : Nat, j < q ∧ b = (j : Int) ∧ t ≤ ρ j ∧ ∀ j', j' < q → t ≤ ρ j' → ρ j ≤ ρ j'
set_option maxRecDepth 100000 in
theorem BestI.start (ρ : Nat → Nat) (t : Nat) : BestI ρ t 0 (-1) := .inl ⟨rfl, fun j h => by omega⟩
set_option maxRecDepth 100000 in
theorem BestI.skip {ρ : Nat → Nat} {t q : Nat} {b : Int} (h : BestI ρ t q b) (hq : ρ q < t) : BestI ρ t (q + 1) b := by
  rcases h with ⟨h1, h2⟩ | ⟨j, h1, h2, h3, h4⟩
  · refine .inl ⟨h1, fun j hj => ?_⟩
    by_cases e : j = q
    · rw [e]
      exact hq
    · exact h2 j (by omega)
  · refine .inr ⟨j, by omega, h2, h3, fun j' hj' ht => ?_⟩
    by_cases e : j' = q
    · rw [e] at ht
      omega
    · exact h4 j' (by omega) ht
set_option maxRecDepth 100000 in
theorem BestI.worse {ρ : Nat → Nat} {t q j : Nat} (h : BestI ρ t q (j : Int)) (hq : ¬ ρ q < ρ j) : BestI ρ t (q + 1) (j : Int) := by
  rcases h with ⟨h1, _⟩ | ⟨i, h1, h2, h3, h4⟩
  · omega
  · obtain rfl : j = i := by omega
    refine .inr ⟨j, by omega, h2, h3, fun j' hj' ht => ?_⟩
    by_cases e : j' = q
    · rw [e]
      omega
    · exact h4 j' (by omega) ht
set_option maxRecDepth 100000 in
theorem BestI.first {ρ : Nat → Nat} {t q : Nat} (h : BestI ρ t q (-1)) (hq : t ≤ ρ q) : BestI ρ t (q + 1) (q : Int) := by
  rcases h with ⟨_, h2⟩ | ⟨i, h1, h2, _⟩
  · refine .inr ⟨q, by omega, rfl, hq, fun j' hj' ht => ?_⟩
    by_cases e : j' = q
    · rw [e]
      exact Nat.le_refl _
    · have := h2 j' (by omega)
      omega
  · omega
set_option maxRecDepth 100000 in
theorem BestI.better {ρ : Nat → Nat} {t q j : Nat} (h : BestI ρ t q (j : Int)) (hq : t ≤ ρ q) (hb : ρ q < ρ j) : BestI ρ t (q + 1) (q : Int) := by
  rcases h with ⟨h1, _⟩ | ⟨i, h1, h2, h3, h4⟩
  · omega
  · obtain rfl : j = i := by omega
    refine .inr ⟨q, by omega, rfl, hq, fun j' hj' ht => ?_⟩
    by_cases e : j' = q
    · rw [e]
      exact Nat.le_refl _
    · have := h4 j' (by omega) ht
      omega
set_option maxRecDepth 100000 in
theorem BestI.done {es : List Ent} {xs : List KeyX} {ρ : Nat → Nat} (h : Ranks es xs ρ) {t : Nat} {b : Int} (ht : t < xs.length) (hb : BestI ρ t es.length b) : ∃ j : Nat, j < es.length ∧ b = (j : Int) ∧ ρ j = t := by
  obtain ⟨j0, hj0, e0⟩ := h.onto t ht
  rcases hb with ⟨_, h2⟩ | ⟨i, h1, h2, h3, h4⟩
  · have := h2 j0 hj0
    omega
  · refine ⟨i, h1, h2, ?_⟩
    have := h4 j0 hj0 (by omega)
    omega
set_option maxRecDepth 100000 in
theorem BestI.form {ρ : Nat → Nat} {t q : Nat} {b : Int} (h : BestI ρ t q b) : b = -1 ∨ ∃ j : Nat, j < q ∧ b = (j : Int) ∧ t ≤ ρ j := by
  rcases h with ⟨h1, _⟩ | ⟨i, h1, h2, h3, _⟩
  · exact .inl h1
  · exact .inr ⟨i, h1, h2, h3⟩

/-- What the walk of Keys carries: the keys that are out. -/
structure DKeysW (w0 : World) (xs : List KeyX) (t : Nat) (A : Option Addr) (c : Nat) (w : World) : Prop where
  own : w.ownsRow w0.heap.size 37 33 (.slice A t c) t ((xs.take t).flatMap KeyX.cells)
  far : Below w0.heap.size w0 w
set_option maxRecDepth 100000 in
theorem DKeysW.call {w0 w w' : World} {xs : List KeyX} {t c : Nat} {A : Option Addr} (h : DKeysW w0 xs t A c w) (hb : Below w.heap.size w w') : DKeysW w0 xs t A c w' := ⟨own_below h.own hb, h.far.trans (hb.mono h.far.size)⟩
set_option maxRecDepth 100000 in
theorem DKeysW.last {w0 w : World} {xs : List KeyX} {t c : Nat} {A : Option Addr} (h : DKeysW w0 xs (t + 1) A c w) (ht : t < xs.length) : ∃ g, A = some ⟨g, 0, none⟩ ∧ g < w.heap.size ∧ w.rangeAt g (t * 33) ((xs[t]'ht).root.map bv) := by
  rcases h.own.2 with ⟨_, h0⟩ | ⟨g, cap, cur, hv, _, hh, hn, _, _, htk⟩
  · omega
  · injection hv with h1 h2 h3
    have hbx : Box w g 37 cur := hh
    refine ⟨g, h1, (Array.getElem?_eq_some_iff.1 hh).1, ?_⟩
    have hs := (Sees.of_box hbx (B := w.heap.size) hbx.lt).take ((t + 1) * 33)
    rw [htk] at hs
    have hlen : (xs.take (t + 1)).length = t + 1 := by
      rw [List.length_take]
      omega
    obtain ⟨g2, o2, e2, _, hr⟩ := Sees.flat KeyX.cells 33 (by decide) KeyX.cells_len hs (i := t) (by omega)
    injection e2 with e2
    injection e2 with e2 e3
    subst e2 e3
    have hr2 := hr t (by omega)
    rw [Nat.zero_add] at hr2
    intro j v hv
    apply hr2 j v
    have e4 : (xs.take (t + 1))[t]'(by omega) = xs[t]'ht := List.getElem_take
    rw [e4]
    unfold KeyX.cells keyL
    rw [List.getElem?_append_left (by have := (List.getElem?_eq_some_iff.1 hv).1; exact this)]
    exact hv
set_option maxRecDepth 100000 in
theorem DEnt.root_range {w : World} {B p : Nat} {e : Ent} {A O : Option Addr} {ca co : Nat} (h : DEnt w B p e A ca O co) : w.rangeAt p 0 (e.root.map bv) := by
  refine Box.range_mid (t := 74) (pre := []) (post := [.int .i64 (e.h : Int)] ++ (e.seed.map bv ++ [.slice A (2 ^ e.h) ca, .int .i64 (e.next : Int), .slice O (openL e).length co])) ?_ rfl
  have hb := h.box
  unfold entL keyL at hb
  rw [List.append_assoc] at hb
  exact hb

set_option maxRecDepth 100000 in
theorem take_at {P : Program} {md : Region.Mode} {ops : Array Oper} {Q : Exit → Act → World → Prop} {S : World → Prop} {i : Nat} {oi : Oper} {v : Value} {d : Tmp} {fuel : Nat} {listed : Array Bool} {ts : Array Value} {w : World} (hi : ops[i]? = some oi)
    (hs : Region.noSelect ops = true) (hf : Region.free md ops listed i = true) (hr : (Region.ready md ops listed).contains i = true)
    (hQ : ∀ c a w, Q (.panic c) (a.put oi.dst v) w → Q (.panic c) a w) (hd : oi.dst = some d) (hy : YieldsIf P ops S oi v { tmps := ts, defers := [] }) (hS : S w)
    (h : wpAnyH P md ops Q S fuel (listed.setIfInBounds i true) { tmps := ts.setIfInBounds d v, defers := [] } w) : wpAnyH P md ops Q S (fuel + 1) listed { tmps := ts, defers := [] } w :=
  wpAnyH_take hi hs hf hr hQ hy hS (by rw [hd]; exact h)
set_option maxRecDepth 100000 in
theorem range_below {w w' : World} {g o : Nat} {cs : List Value} (h : w.rangeAt g o cs) (hg : g < w.heap.size) (hb : Below w.heap.size w w') : w'.rangeAt g o cs := fun j v hv => (hb.cell (p := ⟨g, o + j, none⟩) hg).trans (h j v hv)
set_option maxRecDepth 100000 in
theorem DKeysW.more {w0 w : World} {xs : List KeyX} {t c : Nat} {A : Option Addr} (h : DKeysW w0 xs t A c w) (ht : t < xs.length) (few : xs.length ≤ 1000) : ∃ A' c' w', (apAll #[31, 31] 31 #[.slice A t c, .slice (some ⟨w.heap.size, 0, none⟩) 1 1]).run Tryz.prog (w.alloc (.cells (xs[t]'ht).cells.toArray 37)) = .ok (.slice A' (t + 1) c') w' ∧ DKeysW w0 xs (t + 1) A' c' w' := by
  have b1 : Below w0.heap.size w0 (w.alloc (.cells (xs[t]'ht).cells.toArray 37)) := h.far.alloc h.far.size _
  have hnb := Box.made w 37 (xs[t]'ht).cells.toArray
  obtain ⟨i0, hi0, hz0, hz1, hz2⟩ := info_parts key_info3
  obtain ⟨v, w1, hr, ho, hg, _⟩ := run_append_own (P := Tryz.prog) (w.alloc (.cells (xs[t]'ht).cells.toArray 37)) w0.heap.size 31 31 37 i0 _ 33 40 Tryz.underlying31 hi0 hz0 hz1 hz2 rfl (by omega) (.slice A t c) t _ (h.own.alloc _) ⟨w.heap.size, 0, none⟩ 1 1 (xs[t]'ht).cells (by rw [(xs[t]'ht).cells_len]) (fun j u hu => by
    rw [plain_add, Nat.zero_add, hnb.cell, List.getElem?_toArray]
    exact hu) (keyL_one (xs[t]'ht).root (xs[t]'ht).high) (by unfold maxLen; omega) (by omega) b1.size
  obtain ⟨A', c', rfl⟩ := own_slice_s ho
  refine ⟨A', c', w1, hr, ?_, b1.trans (below_own (h.own.alloc _) hg b1.size)⟩
  rw [List.take_succ_eq_append_getElem ht, List.flatMap_append, List.flatMap_singleton]
  exact ho

attribute [local go_sem ↓] ldKey_def eqKey_def apAll_def bsKeys_def ldDigest_def

set_option maxRecDepth 100000 in
set_option maxHeartbeats 8000000 in
theorem dkeys_any {w : World} {B db : Nat} {es : List Ent} (hD : DocW w B db es) {xs : List KeyX} {ρ : Nat → Nat} (hR : Ranks es xs ρ) (hn : es.length ≤ 1000) :
    Calls Tryz.prog 20 #[.pointer (some ⟨db, 0, none⟩)] w fun e w' => ∃ v, e = .returned v ∧ w'.ownsRow w.heap.size 37 33 v xs.length (xs.flatMap KeyX.cells) ∧ Below w.heap.size w w' := by
  obtain ⟨A0, c0, ps, hP⟩ := hD
  have HP := Lib.hid hP
  have HR := Lib.hid hR
  have HXL := Lib.hid hR.len
  have hc := hP.ring.cell 0
  clear hP hR
  have hcell0 : w.cell? ⟨db, 0, none⟩ = some (.slice A0 es.length c0) := hc
  clear hc
  have HOUT0 : Hid (DKeysW w xs 0 none 0 w) := Lib.hid ⟨World.ownsRow_nil _ _ _ _, Below.refl _ _⟩
  go_enter Tryz.func20, Tryz.ntmps20
  go_wp2
  clear hcell0
  go_loopw [3, 12] (fun v i wr => ∃ (t : Nat) (A : Option Addr) (c : Nat), t ≤ es.length ∧ i = .int .i64 (t : Int) ∧ v = .slice A t c ∧ Hid (DKeysW w xs t A c wr)) (fun _ i _ => es.length - (intOf i).toNat)
  case atStart => exact ⟨0, none, 0, Nat.zero_le _, rfl, rfl, HOUT0⟩
  case round =>
    clear HOUT0
    obtain ⟨t, A, c, ht, rfl, rfl, HO⟩ := hrel
    obtain ⟨wo, hwo⟩ : ∃ wo, wo = wr := ⟨_, rfl⟩
    subst hwo
    by_cases hlt : t < es.length
    · have HPO := Lib.hid (HP.out.call HO.out.far)
      have cdb : wo.cell? ⟨db, 0, none⟩ = some (.slice A0 es.length c0) := HPO.out.ring.cell 0
      have HTL := Lib.hid hlt
      have HTX : Hid (t < xs.length) := Lib.hid (by rw [HXL.out]; exact hlt)
      have i0 : (t : Int) < (es.length : Int) := by omega
      clear hlt
      go_wp2
      clear cdb
      have HB0 := Lib.hid (BestI.start ρ t)
      go_loopw [4, 5, 6, 19] (fun b _ _ i wr => ∃ (q : Nat) (b' : Int), q ≤ es.length ∧ i = .int .i64 (q : Int) ∧ b = .int .i64 b' ∧ Hid (BestI ρ t q b') ∧ Hid (Below wo.heap.size wo wr)) (fun _ _ _ i _ => es.length - (intOf i).toNat)
      case atStart => exact ⟨0, -1, Nat.zero_le _, rfl, rfl, HB0, Lib.hid (Below.refl _ _)⟩
      case round =>
        clear HB0
        obtain ⟨q, b, hq, rfl, rfl, HB, HW⟩ := hrel
        by_cases hlq : q < es.length
        · have HPI := Lib.hid (HPO.out.call HW.out)
          obtain ⟨g, rfl, hgs, hgc, hcell⟩ := HPI.out.cells hlq
          have HCL := Lib.hid hcell
          have hcq := hcell q hlq
          unfold ptrV at hcq
          have i2 : (q : Int) < (es.length : Int) := by omega
          have HLQ := Lib.hid hlq
          obtain ⟨hq1, a1, ca1, O1, co1, hE1⟩ := HPI.out.ents q hlq
          have HE1r := Lib.hid hE1.root_range
          have HPLT := Lib.hid hE1.box.lt
          have HRL := Lib.hid (es[q]'hlq).root_len
          have HBM : Hid (∀ s (hs : s < xs.length), bef (xs[s]'hs).root (es[q]'hlq).root = decide (s < ρ q)) := Lib.hid (fun s hs => HR.out.bef_mid hs hlq)
          have HBE : Hid (∀ j (hj : j < es.length), bef (es[q]'hlq).root (es[j]'hj).root = decide (ρ q < ρ j)) := Lib.hid (fun j hj => HR.out.bef_es hlq hj)
          have HGS := Lib.hid hgs
          generalize (es[q]'hlq).root = rq at *
          generalize ps.getD q 0 = p at *
          clear hcell hE1 hq1 hlq hgs
          go_upto_region 8 with fail
          clear hcq
          have hund := Tryz.underlying33
          have hq32 := dig_list rq HRL.out
          by_cases ht0 : t = 0
          · have e0 : ((t : Int) == 0) = true := by rw [ht0]; rfl
            have HTQ : Hid (t ≤ ρ q) := Lib.hid (by omega)
            clear ht0
            rcases HB.out.form with hbf | hbf
            · subst hbf
              have HSS : Hid (∀ w', Below wr.heap.size wr w' → w'.rangeAt p 0 (rq.map bv)) := Lib.hid (fun w' hb => range_below HE1r.out HPLT.out hb)
              refine wp_region_held_drew (S := fun w' => w'.rangeAt p 0 (rq.map bv)) (by kernel_rfl) (HSS.out _ (Below.refl _ _).drew) (fun hS => ?_)
              (refine take_at (i := 0) (d := 24) (v := .slice A t c) rfl (by kernel_rfl) (by kernel_rfl) (by kernel_rfl) (fun _ _ _ h => h) rfl (Or.inl ⟨by kernel_rfl, fun w hSw => by go_simp⟩) hS ?_)
              (refine take_at (i := 1) (d := 25) (v := .int .i64 (t : Int)) rfl (by kernel_rfl) (by kernel_rfl) (by kernel_rfl) (fun _ _ _ h => h) rfl (Or.inl ⟨by kernel_rfl, fun w hSw => by go_simp⟩) hS ?_)
              (refine take_at (i := 2) (d := 26) (v := .bool true) rfl (by kernel_rfl) (by kernel_rfl) (by kernel_rfl) (fun _ _ _ h => h) rfl (Or.inl ⟨by kernel_rfl, fun w hSw => by go_simp⟩) hS ?_)
              (refine take_at (i := 3) (d := 27) (v := .bool true) rfl (by kernel_rfl) (by kernel_rfl) (by kernel_rfl) (fun _ _ _ h => h) rfl (Or.inl ⟨by kernel_rfl, fun w hSw => by go_simp⟩) hS ?_)
              (refine take_at (i := 4) (d := 28) (v := undef) rfl (by kernel_rfl) (by kernel_rfl) (by kernel_rfl) (fun _ _ _ h => h) rfl (Or.inr ⟨by kernel_rfl, rfl⟩) hS ?_)
              (refine take_at (i := 5) (d := 29) (v := undef) rfl (by kernel_rfl) (by kernel_rfl) (by kernel_rfl) (fun _ _ _ h => h) rfl (Or.inr ⟨by kernel_rfl, rfl⟩) hS ?_)
              (refine take_at (i := 6) (d := 30) (v := undef) rfl (by kernel_rfl) (by kernel_rfl) (by kernel_rfl) (fun _ _ _ h => h) rfl (Or.inr ⟨by kernel_rfl, rfl⟩) hS ?_)
              (refine take_at (i := 7) (d := 31) (v := undef) rfl (by kernel_rfl) (by kernel_rfl) (by kernel_rfl) (fun _ _ _ h => h) rfl (Or.inr ⟨by kernel_rfl, rfl⟩) hS ?_)
              (refine take_at (i := 8) (d := 32) (v := undef) rfl (by kernel_rfl) (by kernel_rfl) (by kernel_rfl) (fun _ _ _ h => h) rfl (Or.inr ⟨by kernel_rfl, rfl⟩) hS ?_)
              (refine take_at (i := 9) (d := 33) (v := undef) rfl (by kernel_rfl) (by kernel_rfl) (by kernel_rfl) (fun _ _ _ h => h) rfl (Or.inr ⟨by kernel_rfl, rfl⟩) hS ?_)
              (refine take_at (i := 10) (d := 34) (v := undef) rfl (by kernel_rfl) (by kernel_rfl) (by kernel_rfl) (fun _ _ _ h => h) rfl (Or.inr ⟨by kernel_rfl, rfl⟩) hS ?_)
              (refine take_at (i := 11) (d := 35) (v := undef) rfl (by kernel_rfl) (by kernel_rfl) (by kernel_rfl) (fun _ _ _ h => h) rfl (Or.inr ⟨by kernel_rfl, rfl⟩) hS ?_)
              (refine take_at (i := 12) (d := 36) (v := undef) rfl (by kernel_rfl) (by kernel_rfl) (by kernel_rfl) (fun _ _ _ h => h) rfl (Or.inr ⟨by kernel_rfl, rfl⟩) hS ?_)
              (refine take_at (i := 13) (d := 37) (v := undef) rfl (by kernel_rfl) (by kernel_rfl) (by kernel_rfl) (fun _ _ _ h => h) rfl (Or.inr ⟨by kernel_rfl, rfl⟩) hS ?_)
              (refine take_at (i := 14) (d := 38) (v := undef) rfl (by kernel_rfl) (by kernel_rfl) (by kernel_rfl) (fun _ _ _ h => h) rfl (Or.inr ⟨by kernel_rfl, rfl⟩) hS ?_)
              (refine take_at (i := 15) (d := 39) (v := undef) rfl (by kernel_rfl) (by kernel_rfl) (by kernel_rfl) (fun _ _ _ h => h) rfl (Or.inr ⟨by kernel_rfl, rfl⟩) hS ?_)
              (refine take_at (i := 16) (d := 40) (v := undef) rfl (by kernel_rfl) (by kernel_rfl) (by kernel_rfl) (fun _ _ _ h => h) rfl (Or.inr ⟨by kernel_rfl, rfl⟩) hS ?_)
              (refine take_at (i := 17) (d := 41) (v := .bool true) rfl (by kernel_rfl) (by kernel_rfl) (by kernel_rfl) (fun _ _ _ h => h) rfl (Or.inl ⟨by kernel_rfl, fun w hSw => by go_simp⟩) hS ?_)
              (refine take_at (i := 18) (d := 42) (v := .bool true) rfl (by kernel_rfl) (by kernel_rfl) (by kernel_rfl) (fun _ _ _ h => h) rfl (Or.inl ⟨by kernel_rfl, fun w hSw => by go_simp⟩) hS ?_)
              (refine take_at (i := 19) (d := 43) (v := .int .i64 (-1)) rfl (by kernel_rfl) (by kernel_rfl) (by kernel_rfl) (fun _ _ _ h => h) rfl (Or.inl ⟨by kernel_rfl, fun w hSw => by go_simp⟩) hS ?_)
              (refine take_at (i := 20) (d := 44) (v := .bool true) rfl (by kernel_rfl) (by kernel_rfl) (by kernel_rfl) (fun _ _ _ h => h) rfl (Or.inl ⟨by kernel_rfl, fun w hSw => by go_simp⟩) hS ?_)
              (refine take_at (i := 21) (d := 45) (v := .bool true) rfl (by kernel_rfl) (by kernel_rfl) (by kernel_rfl) (fun _ _ _ h => h) rfl (Or.inl ⟨by kernel_rfl, fun w hSw => by go_simp⟩) hS ?_)
              (refine take_at (i := 22) (d := 46) (v := undef) rfl (by kernel_rfl) (by kernel_rfl) (by kernel_rfl) (fun _ _ _ h => h) rfl (Or.inr ⟨by kernel_rfl, rfl⟩) hS ?_)
              (refine take_at (i := 23) (d := 47) (v := undef) rfl (by kernel_rfl) (by kernel_rfl) (by kernel_rfl) (fun _ _ _ h => h) rfl (Or.inr ⟨by kernel_rfl, rfl⟩) hS ?_)
              (refine take_at (i := 24) (d := 48) (v := undef) rfl (by kernel_rfl) (by kernel_rfl) (by kernel_rfl) (fun _ _ _ h => h) rfl (Or.inr ⟨by kernel_rfl, rfl⟩) hS ?_)
              (refine take_at (i := 25) (d := 49) (v := undef) rfl (by kernel_rfl) (by kernel_rfl) (by kernel_rfl) (fun _ _ _ h => h) rfl (Or.inr ⟨by kernel_rfl, rfl⟩) hS ?_)
              (refine take_at (i := 26) (d := 50) (v := undef) rfl (by kernel_rfl) (by kernel_rfl) (by kernel_rfl) (fun _ _ _ h => h) rfl (Or.inr ⟨by kernel_rfl, rfl⟩) hS ?_)
              (refine take_at (i := 27) (d := 51) (v := undef) rfl (by kernel_rfl) (by kernel_rfl) (by kernel_rfl) (fun _ _ _ h => h) rfl (Or.inr ⟨by kernel_rfl, rfl⟩) hS ?_)
              (refine take_at (i := 28) (d := 52) (v := undef) rfl (by kernel_rfl) (by kernel_rfl) (by kernel_rfl) (fun _ _ _ h => h) rfl (Or.inr ⟨by kernel_rfl, rfl⟩) hS ?_)
              (refine take_at (i := 29) (d := 53) (v := undef) rfl (by kernel_rfl) (by kernel_rfl) (by kernel_rfl) (fun _ _ _ h => h) rfl (Or.inr ⟨by kernel_rfl, rfl⟩) hS ?_)
              (refine take_at (i := 30) (d := 54) (v := undef) rfl (by kernel_rfl) (by kernel_rfl) (by kernel_rfl) (fun _ _ _ h => h) rfl (Or.inr ⟨by kernel_rfl, rfl⟩) hS ?_)
              (refine take_at (i := 31) (d := 55) (v := undef) rfl (by kernel_rfl) (by kernel_rfl) (by kernel_rfl) (fun _ _ _ h => h) rfl (Or.inr ⟨by kernel_rfl, rfl⟩) hS ?_)
              (refine take_at (i := 32) (d := 56) (v := undef) rfl (by kernel_rfl) (by kernel_rfl) (by kernel_rfl) (fun _ _ _ h => h) rfl (Or.inr ⟨by kernel_rfl, rfl⟩) hS ?_)
              (refine take_at (i := 33) (d := 57) (v := undef) rfl (by kernel_rfl) (by kernel_rfl) (by kernel_rfl) (fun _ _ _ h => h) rfl (Or.inr ⟨by kernel_rfl, rfl⟩) hS ?_)
              (refine take_at (i := 34) (d := 58) (v := undef) rfl (by kernel_rfl) (by kernel_rfl) (by kernel_rfl) (fun _ _ _ h => h) rfl (Or.inr ⟨by kernel_rfl, rfl⟩) hS ?_)
              (refine take_at (i := 35) (d := 59) (v := undef) rfl (by kernel_rfl) (by kernel_rfl) (by kernel_rfl) (fun _ _ _ h => h) rfl (Or.inr ⟨by kernel_rfl, rfl⟩) hS ?_)
              (refine take_at (i := 36) (d := 60) (v := undef) rfl (by kernel_rfl) (by kernel_rfl) (by kernel_rfl) (fun _ _ _ h => h) rfl (Or.inr ⟨by kernel_rfl, rfl⟩) hS ?_)
              (refine take_at (i := 37) (d := 61) (v := undef) rfl (by kernel_rfl) (by kernel_rfl) (by kernel_rfl) (fun _ _ _ h => h) rfl (Or.inr ⟨by kernel_rfl, rfl⟩) hS ?_)
              (refine take_at (i := 38) (d := 62) (v := undef) rfl (by kernel_rfl) (by kernel_rfl) (by kernel_rfl) (fun _ _ _ h => h) rfl (Or.inr ⟨by kernel_rfl, rfl⟩) hS ?_)
              (refine take_at (i := 39) (d := 63) (v := .bool true) rfl (by kernel_rfl) (by kernel_rfl) (by kernel_rfl) (fun _ _ _ h => h) rfl (Or.inl ⟨by kernel_rfl, fun w hSw => by go_simp⟩) hS ?_)
              (refine take_at (i := 40) (d := 64) (v := .bool true) rfl (by kernel_rfl) (by kernel_rfl) (by kernel_rfl) (fun _ _ _ h => h) rfl (Or.inl ⟨by kernel_rfl, fun w hSw => by go_simp⟩) hS ?_)
              refine wpAnyH_done (by kernel_rfl) ?_ _
              clear hS
              go_simp
              clear hund hq32 e0
              have HWZ := Lib.hid (HW.out.trans (((Below.refl wr.heap.size wr).drew).mono HW.out.size))
              have HBN := Lib.hid (HB.out.first (by have := HTQ.out; omega))
              go_wp2
              go_roundw
              case rel => exact ⟨q + 1, (q : Int), HLQ.out, by go_num, rfl, HBN, HWZ⟩
              case measure => have := HLQ.out; simp [intOf]; omega
            · obtain ⟨j, hj, rfl, htj⟩ := hbf
              have hjl : j < es.length := by omega
              obtain ⟨hj1, a2, ca2, O2, co2, hE2⟩ := HPI.out.ents j hjl
              have HRJ := Lib.hid (es[j]'hjl).root_len
              have HEJ := Lib.hid (And.intro hE2.box.lt hE2.root_range)
              have HCJ : Hid (wr.cell? ⟨g, j, none⟩ = some (.pointer (some ⟨ps.getD j 0, 0, none⟩))) := Lib.hid (HCL.out j hjl)
              have HBJ0 := Lib.hid (HBE.out j hjl)
              have i3 : (j : Int) < (es.length : Int) := by omega
              generalize (es[j]'hjl).root = rj at *
              generalize ps.getD j 0 = pj at *
              have hj32 := dig_list rj HRJ.out
              clear hE2 hj1 hj htj hjl
              by_cases hlj : ρ q < ρ j
              · have HBJ : Hid (∀ w', Calls Tryz.prog 38 #[.agg (rq.map bv).toArray, .agg (rj.map bv).toArray] w' fun e w'' => e = .returned (.bool true) ∧ Below w'.heap.size w' w'') := Lib.hid (fun w' => by
                  have h := before_any rq rj HRL.out HRJ.out w'
                  rw [HBJ0.out, decide_eq_true hlj] at h
                  exact h)
                have HLJ := Lib.hid hlj
                clear hlj
                have HSS : Hid (∀ w', Below wr.heap.size wr w' → w'.rangeAt p 0 (rq.map bv) ∧ w'.cell? ⟨db, 0, none⟩ = some (.slice (some ⟨g, 0, none⟩) es.length c0) ∧ w'.cell? ⟨g, j, none⟩ = some (.pointer (some ⟨pj, 0, none⟩)) ∧ w'.rangeAt pj 0 (rj.map bv)) := Lib.hid (fun w' hb => ⟨range_below HE1r.out HPLT.out hb, (hb.cell (p := ⟨db, 0, none⟩) HPI.out.ring.lt).trans (HPI.out.ring.cell 0), (hb.cell (p := ⟨g, j, none⟩) HGS.out).trans HCJ.out, range_below HEJ.out.2 HEJ.out.1 hb⟩)
                refine wp_region_held_drew (S := fun w' => w'.rangeAt p 0 (rq.map bv) ∧ w'.cell? ⟨db, 0, none⟩ = some (.slice (some ⟨g, 0, none⟩) es.length c0) ∧ w'.cell? ⟨g, j, none⟩ = some (.pointer (some ⟨pj, 0, none⟩)) ∧ w'.rangeAt pj 0 (rj.map bv)) (by kernel_rfl) (HSS.out _ (Below.refl _ _).drew) (fun hS => ?_)
                (refine take_at (i := 0) (d := 24) (v := .slice A t c) rfl (by kernel_rfl) (by kernel_rfl) (by kernel_rfl) (fun _ _ _ h => h) rfl (Or.inl ⟨by kernel_rfl, fun w hSw => by go_simp⟩) hS ?_)
                (refine take_at (i := 1) (d := 25) (v := .int .i64 (t : Int)) rfl (by kernel_rfl) (by kernel_rfl) (by kernel_rfl) (fun _ _ _ h => h) rfl (Or.inl ⟨by kernel_rfl, fun w hSw => by go_simp⟩) hS ?_)
                (refine take_at (i := 2) (d := 26) (v := .bool true) rfl (by kernel_rfl) (by kernel_rfl) (by kernel_rfl) (fun _ _ _ h => h) rfl (Or.inl ⟨by kernel_rfl, fun w hSw => by go_simp⟩) hS ?_)
                (refine take_at (i := 3) (d := 27) (v := .bool true) rfl (by kernel_rfl) (by kernel_rfl) (by kernel_rfl) (fun _ _ _ h => h) rfl (Or.inl ⟨by kernel_rfl, fun w hSw => by go_simp⟩) hS ?_)
                (refine take_at (i := 4) (d := 28) (v := undef) rfl (by kernel_rfl) (by kernel_rfl) (by kernel_rfl) (fun _ _ _ h => h) rfl (Or.inr ⟨by kernel_rfl, rfl⟩) hS ?_)
                (refine take_at (i := 5) (d := 29) (v := undef) rfl (by kernel_rfl) (by kernel_rfl) (by kernel_rfl) (fun _ _ _ h => h) rfl (Or.inr ⟨by kernel_rfl, rfl⟩) hS ?_)
                (refine take_at (i := 6) (d := 30) (v := undef) rfl (by kernel_rfl) (by kernel_rfl) (by kernel_rfl) (fun _ _ _ h => h) rfl (Or.inr ⟨by kernel_rfl, rfl⟩) hS ?_)
                (refine take_at (i := 7) (d := 31) (v := undef) rfl (by kernel_rfl) (by kernel_rfl) (by kernel_rfl) (fun _ _ _ h => h) rfl (Or.inr ⟨by kernel_rfl, rfl⟩) hS ?_)
                (refine take_at (i := 8) (d := 32) (v := undef) rfl (by kernel_rfl) (by kernel_rfl) (by kernel_rfl) (fun _ _ _ h => h) rfl (Or.inr ⟨by kernel_rfl, rfl⟩) hS ?_)
                (refine take_at (i := 9) (d := 33) (v := undef) rfl (by kernel_rfl) (by kernel_rfl) (by kernel_rfl) (fun _ _ _ h => h) rfl (Or.inr ⟨by kernel_rfl, rfl⟩) hS ?_)
                (refine take_at (i := 10) (d := 34) (v := undef) rfl (by kernel_rfl) (by kernel_rfl) (by kernel_rfl) (fun _ _ _ h => h) rfl (Or.inr ⟨by kernel_rfl, rfl⟩) hS ?_)
                (refine take_at (i := 11) (d := 35) (v := undef) rfl (by kernel_rfl) (by kernel_rfl) (by kernel_rfl) (fun _ _ _ h => h) rfl (Or.inr ⟨by kernel_rfl, rfl⟩) hS ?_)
                (refine take_at (i := 12) (d := 36) (v := undef) rfl (by kernel_rfl) (by kernel_rfl) (by kernel_rfl) (fun _ _ _ h => h) rfl (Or.inr ⟨by kernel_rfl, rfl⟩) hS ?_)
                (refine take_at (i := 13) (d := 37) (v := undef) rfl (by kernel_rfl) (by kernel_rfl) (by kernel_rfl) (fun _ _ _ h => h) rfl (Or.inr ⟨by kernel_rfl, rfl⟩) hS ?_)
                (refine take_at (i := 14) (d := 38) (v := undef) rfl (by kernel_rfl) (by kernel_rfl) (by kernel_rfl) (fun _ _ _ h => h) rfl (Or.inr ⟨by kernel_rfl, rfl⟩) hS ?_)
                (refine take_at (i := 15) (d := 39) (v := undef) rfl (by kernel_rfl) (by kernel_rfl) (by kernel_rfl) (fun _ _ _ h => h) rfl (Or.inr ⟨by kernel_rfl, rfl⟩) hS ?_)
                (refine take_at (i := 16) (d := 40) (v := undef) rfl (by kernel_rfl) (by kernel_rfl) (by kernel_rfl) (fun _ _ _ h => h) rfl (Or.inr ⟨by kernel_rfl, rfl⟩) hS ?_)
                (refine take_at (i := 17) (d := 41) (v := .bool true) rfl (by kernel_rfl) (by kernel_rfl) (by kernel_rfl) (fun _ _ _ h => h) rfl (Or.inl ⟨by kernel_rfl, fun w hSw => by go_simp⟩) hS ?_)
                (refine take_at (i := 18) (d := 42) (v := .bool true) rfl (by kernel_rfl) (by kernel_rfl) (by kernel_rfl) (fun _ _ _ h => h) rfl (Or.inl ⟨by kernel_rfl, fun w hSw => by go_simp⟩) hS ?_)
                (refine take_at (i := 19) (d := 43) (v := .int .i64 (j : Int)) rfl (by kernel_rfl) (by kernel_rfl) (by kernel_rfl) (fun _ _ _ h => h) rfl (Or.inl ⟨by kernel_rfl, fun w hSw => by go_simp⟩) hS ?_)
                (refine take_at (i := 20) (d := 44) (v := .bool false) rfl (by kernel_rfl) (by kernel_rfl) (by kernel_rfl) (fun _ _ _ h => h) rfl (Or.inl ⟨by kernel_rfl, fun w hSw => by go_simp⟩) hS ?_)
                (refine take_at (i := 21) (d := 45) (v := .bool false) rfl (by kernel_rfl) (by kernel_rfl) (by kernel_rfl) (fun _ _ _ h => h) rfl (Or.inl ⟨by kernel_rfl, fun w hSw => by go_simp⟩) hS ?_)
                (refine take_at (i := 22) (d := 46) (v := .pointer (some ⟨p, 0, none⟩)) rfl (by kernel_rfl) (by kernel_rfl) (by kernel_rfl) (fun _ _ _ h => h) rfl (Or.inl ⟨by kernel_rfl, fun w hSw => by go_simp⟩) hS ?_)
                (refine take_at (i := 23) (d := 47) (v := .pointer (some ⟨p, 0, none⟩)) rfl (by kernel_rfl) (by kernel_rfl) (by kernel_rfl) (fun _ _ _ h => h) rfl (Or.inl ⟨by kernel_rfl, fun w hSw => by go_simp⟩) hS ?_)
                (refine take_at (i := 24) (d := 48) (v := .pointer (some ⟨p, 0, none⟩)) rfl (by kernel_rfl) (by kernel_rfl) (by kernel_rfl) (fun _ _ _ h => h) rfl (Or.inl ⟨by kernel_rfl, fun w hSw => by go_simp⟩) hS ?_)
                (refine take_at (i := 25) (d := 49) (v := .pointer (some ⟨p, 0, none⟩)) rfl (by kernel_rfl) (by kernel_rfl) (by kernel_rfl) (fun _ _ _ h => h) rfl (Or.inl ⟨by kernel_rfl, fun w hSw => by go_simp⟩) hS ?_)
                (refine take_at (i := 26) (d := 50) (v := .agg (rq.map bv).toArray) rfl (by kernel_rfl) (by kernel_rfl) (by kernel_rfl) (fun _ _ _ h => h) rfl (yieldsIf_load_mid (by kernel_rfl) 33 (.tmp 49) rfl p (0) (by kernel_rfl) (rq.map bv) _ (fun w h => h.1) hund rfl hq32) hS ?_)
                (refine take_at (i := 27) (d := 51) (v := .pointer (some ⟨db, 0, none⟩)) rfl (by kernel_rfl) (by kernel_rfl) (by kernel_rfl) (fun _ _ _ h => h) rfl (Or.inl ⟨by kernel_rfl, fun w hSw => by go_simp⟩) hS ?_)
                (refine take_at (i := 28) (d := 52) (v := .pointer (some ⟨db, 0, none⟩)) rfl (by kernel_rfl) (by kernel_rfl) (by kernel_rfl) (fun _ _ _ h => h) rfl (Or.inl ⟨by kernel_rfl, fun w hSw => by go_simp⟩) hS ?_)
                (refine take_at (i := 29) (d := 53) (v := .pointer (some ⟨db, 0, none⟩)) rfl (by kernel_rfl) (by kernel_rfl) (by kernel_rfl) (fun _ _ _ h => h) rfl (Or.inl ⟨by kernel_rfl, fun w hSw => by go_simp⟩) hS ?_)
                (refine take_at (i := 30) (d := 54) (v := .slice (some ⟨g, 0, none⟩) es.length c0) rfl (by kernel_rfl) (by kernel_rfl) (by kernel_rfl) (fun _ _ _ h => h) rfl (Or.inl ⟨by kernel_rfl, fun w hSw => by have hc := hSw.2.1; go_simp⟩) hS ?_)
                (refine take_at (i := 31) (d := 55) (v := .int .i64 (j : Int)) rfl (by kernel_rfl) (by kernel_rfl) (by kernel_rfl) (fun _ _ _ h => h) rfl (Or.inl ⟨by kernel_rfl, fun w hSw => by go_simp⟩) hS ?_)
                (refine take_at (i := 32) (d := 56) (v := .pointer (some ⟨g, j, none⟩)) rfl (by kernel_rfl) (by kernel_rfl) (by kernel_rfl) (fun _ _ _ h => h) rfl (Or.inl ⟨by kernel_rfl, fun w hSw => by go_simp⟩) hS ?_)
                (refine take_at (i := 33) (d := 57) (v := .pointer (some ⟨pj, 0, none⟩)) rfl (by kernel_rfl) (by kernel_rfl) (by kernel_rfl) (fun _ _ _ h => h) rfl (Or.inl ⟨by kernel_rfl, fun w hSw => by have hc := hSw.2.2.1; go_simp⟩) hS ?_)
                (refine take_at (i := 34) (d := 58) (v := .pointer (some ⟨pj, 0, none⟩)) rfl (by kernel_rfl) (by kernel_rfl) (by kernel_rfl) (fun _ _ _ h => h) rfl (Or.inl ⟨by kernel_rfl, fun w hSw => by go_simp⟩) hS ?_)
                (refine take_at (i := 35) (d := 59) (v := .pointer (some ⟨pj, 0, none⟩)) rfl (by kernel_rfl) (by kernel_rfl) (by kernel_rfl) (fun _ _ _ h => h) rfl (Or.inl ⟨by kernel_rfl, fun w hSw => by go_simp⟩) hS ?_)
                (refine take_at (i := 36) (d := 60) (v := .pointer (some ⟨pj, 0, none⟩)) rfl (by kernel_rfl) (by kernel_rfl) (by kernel_rfl) (fun _ _ _ h => h) rfl (Or.inl ⟨by kernel_rfl, fun w hSw => by go_simp⟩) hS ?_)
                (refine take_at (i := 37) (d := 61) (v := .agg (rj.map bv).toArray) rfl (by kernel_rfl) (by kernel_rfl) (by kernel_rfl) (fun _ _ _ h => h) rfl (yieldsIf_load_mid (by kernel_rfl) 33 (.tmp 60) rfl pj (0) (by kernel_rfl) (rj.map bv) _ (fun w h => h.2.2.2) hund rfl hj32) hS ?_)
                refine wpAnyH_ready (rs := [38]) (by decide +kernel) (by simp) (AllReadyH.cons rfl (fun K hK => ?_) AllReadyH.nil)
                go_simp
                (go_at_call 38; (with_reducible refine (HBJ.out _).mono ?_); rintro e1 wb ⟨rfl, hbb⟩)
                have HWB : Hid (Below wr.heap.size wr wb) := Lib.hid (((Below.refl wr.heap.size wr).drew).trans (hbb.mono ((Below.refl wr.heap.size wr).drew).size))
                clear hbb
                refine hK.out _ _ (HSS.out _ HWB.out) (fun hS => ?_)
                clear hK K
                (try simp only [Act.put])
                (refine take_at (i := 39) (d := 63) (v := .bool true) rfl (by kernel_rfl) (by kernel_rfl) (by kernel_rfl) (fun _ _ _ h => h) rfl (Or.inl ⟨by kernel_rfl, fun w hSw => by go_simp⟩) hS ?_)
                (refine take_at (i := 40) (d := 64) (v := .bool true) rfl (by kernel_rfl) (by kernel_rfl) (by kernel_rfl) (fun _ _ _ h => h) rfl (Or.inl ⟨by kernel_rfl, fun w hSw => by go_simp⟩) hS ?_)
                refine wpAnyH_done (by kernel_rfl) ?_ _
                clear hS
                go_simp
                clear hund hq32 e0
                have HWZ := Lib.hid (HW.out.trans ((HWB.out).mono HW.out.size))
                have HBN := Lib.hid (HB.out.better (by have := HTQ.out; omega) HLJ.out)
                go_wp2
                go_roundw
                case rel => exact ⟨q + 1, (q : Int), HLQ.out, by go_num, rfl, HBN, HWZ⟩
                case measure => have := HLQ.out; simp [intOf]; omega
              · have HBJ : Hid (∀ w', Calls Tryz.prog 38 #[.agg (rq.map bv).toArray, .agg (rj.map bv).toArray] w' fun e w'' => e = .returned (.bool false) ∧ Below w'.heap.size w' w'') := Lib.hid (fun w' => by
                  have h := before_any rq rj HRL.out HRJ.out w'
                  rw [HBJ0.out, decide_eq_false hlj] at h
                  exact h)
                have HLJ := Lib.hid hlj
                clear hlj
                have HSS : Hid (∀ w', Below wr.heap.size wr w' → w'.rangeAt p 0 (rq.map bv) ∧ w'.cell? ⟨db, 0, none⟩ = some (.slice (some ⟨g, 0, none⟩) es.length c0) ∧ w'.cell? ⟨g, j, none⟩ = some (.pointer (some ⟨pj, 0, none⟩)) ∧ w'.rangeAt pj 0 (rj.map bv)) := Lib.hid (fun w' hb => ⟨range_below HE1r.out HPLT.out hb, (hb.cell (p := ⟨db, 0, none⟩) HPI.out.ring.lt).trans (HPI.out.ring.cell 0), (hb.cell (p := ⟨g, j, none⟩) HGS.out).trans HCJ.out, range_below HEJ.out.2 HEJ.out.1 hb⟩)
                refine wp_region_held_drew (S := fun w' => w'.rangeAt p 0 (rq.map bv) ∧ w'.cell? ⟨db, 0, none⟩ = some (.slice (some ⟨g, 0, none⟩) es.length c0) ∧ w'.cell? ⟨g, j, none⟩ = some (.pointer (some ⟨pj, 0, none⟩)) ∧ w'.rangeAt pj 0 (rj.map bv)) (by kernel_rfl) (HSS.out _ (Below.refl _ _).drew) (fun hS => ?_)
                (refine take_at (i := 0) (d := 24) (v := .slice A t c) rfl (by kernel_rfl) (by kernel_rfl) (by kernel_rfl) (fun _ _ _ h => h) rfl (Or.inl ⟨by kernel_rfl, fun w hSw => by go_simp⟩) hS ?_)
                (refine take_at (i := 1) (d := 25) (v := .int .i64 (t : Int)) rfl (by kernel_rfl) (by kernel_rfl) (by kernel_rfl) (fun _ _ _ h => h) rfl (Or.inl ⟨by kernel_rfl, fun w hSw => by go_simp⟩) hS ?_)
                (refine take_at (i := 2) (d := 26) (v := .bool true) rfl (by kernel_rfl) (by kernel_rfl) (by kernel_rfl) (fun _ _ _ h => h) rfl (Or.inl ⟨by kernel_rfl, fun w hSw => by go_simp⟩) hS ?_)
                (refine take_at (i := 3) (d := 27) (v := .bool true) rfl (by kernel_rfl) (by kernel_rfl) (by kernel_rfl) (fun _ _ _ h => h) rfl (Or.inl ⟨by kernel_rfl, fun w hSw => by go_simp⟩) hS ?_)
                (refine take_at (i := 4) (d := 28) (v := undef) rfl (by kernel_rfl) (by kernel_rfl) (by kernel_rfl) (fun _ _ _ h => h) rfl (Or.inr ⟨by kernel_rfl, rfl⟩) hS ?_)
                (refine take_at (i := 5) (d := 29) (v := undef) rfl (by kernel_rfl) (by kernel_rfl) (by kernel_rfl) (fun _ _ _ h => h) rfl (Or.inr ⟨by kernel_rfl, rfl⟩) hS ?_)
                (refine take_at (i := 6) (d := 30) (v := undef) rfl (by kernel_rfl) (by kernel_rfl) (by kernel_rfl) (fun _ _ _ h => h) rfl (Or.inr ⟨by kernel_rfl, rfl⟩) hS ?_)
                (refine take_at (i := 7) (d := 31) (v := undef) rfl (by kernel_rfl) (by kernel_rfl) (by kernel_rfl) (fun _ _ _ h => h) rfl (Or.inr ⟨by kernel_rfl, rfl⟩) hS ?_)
                (refine take_at (i := 8) (d := 32) (v := undef) rfl (by kernel_rfl) (by kernel_rfl) (by kernel_rfl) (fun _ _ _ h => h) rfl (Or.inr ⟨by kernel_rfl, rfl⟩) hS ?_)
                (refine take_at (i := 9) (d := 33) (v := undef) rfl (by kernel_rfl) (by kernel_rfl) (by kernel_rfl) (fun _ _ _ h => h) rfl (Or.inr ⟨by kernel_rfl, rfl⟩) hS ?_)
                (refine take_at (i := 10) (d := 34) (v := undef) rfl (by kernel_rfl) (by kernel_rfl) (by kernel_rfl) (fun _ _ _ h => h) rfl (Or.inr ⟨by kernel_rfl, rfl⟩) hS ?_)
                (refine take_at (i := 11) (d := 35) (v := undef) rfl (by kernel_rfl) (by kernel_rfl) (by kernel_rfl) (fun _ _ _ h => h) rfl (Or.inr ⟨by kernel_rfl, rfl⟩) hS ?_)
                (refine take_at (i := 12) (d := 36) (v := undef) rfl (by kernel_rfl) (by kernel_rfl) (by kernel_rfl) (fun _ _ _ h => h) rfl (Or.inr ⟨by kernel_rfl, rfl⟩) hS ?_)
                (refine take_at (i := 13) (d := 37) (v := undef) rfl (by kernel_rfl) (by kernel_rfl) (by kernel_rfl) (fun _ _ _ h => h) rfl (Or.inr ⟨by kernel_rfl, rfl⟩) hS ?_)
                (refine take_at (i := 14) (d := 38) (v := undef) rfl (by kernel_rfl) (by kernel_rfl) (by kernel_rfl) (fun _ _ _ h => h) rfl (Or.inr ⟨by kernel_rfl, rfl⟩) hS ?_)
                (refine take_at (i := 15) (d := 39) (v := undef) rfl (by kernel_rfl) (by kernel_rfl) (by kernel_rfl) (fun _ _ _ h => h) rfl (Or.inr ⟨by kernel_rfl, rfl⟩) hS ?_)
                (refine take_at (i := 16) (d := 40) (v := undef) rfl (by kernel_rfl) (by kernel_rfl) (by kernel_rfl) (fun _ _ _ h => h) rfl (Or.inr ⟨by kernel_rfl, rfl⟩) hS ?_)
                (refine take_at (i := 17) (d := 41) (v := .bool true) rfl (by kernel_rfl) (by kernel_rfl) (by kernel_rfl) (fun _ _ _ h => h) rfl (Or.inl ⟨by kernel_rfl, fun w hSw => by go_simp⟩) hS ?_)
                (refine take_at (i := 18) (d := 42) (v := .bool true) rfl (by kernel_rfl) (by kernel_rfl) (by kernel_rfl) (fun _ _ _ h => h) rfl (Or.inl ⟨by kernel_rfl, fun w hSw => by go_simp⟩) hS ?_)
                (refine take_at (i := 19) (d := 43) (v := .int .i64 (j : Int)) rfl (by kernel_rfl) (by kernel_rfl) (by kernel_rfl) (fun _ _ _ h => h) rfl (Or.inl ⟨by kernel_rfl, fun w hSw => by go_simp⟩) hS ?_)
                (refine take_at (i := 20) (d := 44) (v := .bool false) rfl (by kernel_rfl) (by kernel_rfl) (by kernel_rfl) (fun _ _ _ h => h) rfl (Or.inl ⟨by kernel_rfl, fun w hSw => by go_simp⟩) hS ?_)
                (refine take_at (i := 21) (d := 45) (v := .bool false) rfl (by kernel_rfl) (by kernel_rfl) (by kernel_rfl) (fun _ _ _ h => h) rfl (Or.inl ⟨by kernel_rfl, fun w hSw => by go_simp⟩) hS ?_)
                (refine take_at (i := 22) (d := 46) (v := .pointer (some ⟨p, 0, none⟩)) rfl (by kernel_rfl) (by kernel_rfl) (by kernel_rfl) (fun _ _ _ h => h) rfl (Or.inl ⟨by kernel_rfl, fun w hSw => by go_simp⟩) hS ?_)
                (refine take_at (i := 23) (d := 47) (v := .pointer (some ⟨p, 0, none⟩)) rfl (by kernel_rfl) (by kernel_rfl) (by kernel_rfl) (fun _ _ _ h => h) rfl (Or.inl ⟨by kernel_rfl, fun w hSw => by go_simp⟩) hS ?_)
                (refine take_at (i := 24) (d := 48) (v := .pointer (some ⟨p, 0, none⟩)) rfl (by kernel_rfl) (by kernel_rfl) (by kernel_rfl) (fun _ _ _ h => h) rfl (Or.inl ⟨by kernel_rfl, fun w hSw => by go_simp⟩) hS ?_)
                (refine take_at (i := 25) (d := 49) (v := .pointer (some ⟨p, 0, none⟩)) rfl (by kernel_rfl) (by kernel_rfl) (by kernel_rfl) (fun _ _ _ h => h) rfl (Or.inl ⟨by kernel_rfl, fun w hSw => by go_simp⟩) hS ?_)
                (refine take_at (i := 26) (d := 50) (v := .agg (rq.map bv).toArray) rfl (by kernel_rfl) (by kernel_rfl) (by kernel_rfl) (fun _ _ _ h => h) rfl (yieldsIf_load_mid (by kernel_rfl) 33 (.tmp 49) rfl p (0) (by kernel_rfl) (rq.map bv) _ (fun w h => h.1) hund rfl hq32) hS ?_)
                (refine take_at (i := 27) (d := 51) (v := .pointer (some ⟨db, 0, none⟩)) rfl (by kernel_rfl) (by kernel_rfl) (by kernel_rfl) (fun _ _ _ h => h) rfl (Or.inl ⟨by kernel_rfl, fun w hSw => by go_simp⟩) hS ?_)
                (refine take_at (i := 28) (d := 52) (v := .pointer (some ⟨db, 0, none⟩)) rfl (by kernel_rfl) (by kernel_rfl) (by kernel_rfl) (fun _ _ _ h => h) rfl (Or.inl ⟨by kernel_rfl, fun w hSw => by go_simp⟩) hS ?_)
                (refine take_at (i := 29) (d := 53) (v := .pointer (some ⟨db, 0, none⟩)) rfl (by kernel_rfl) (by kernel_rfl) (by kernel_rfl) (fun _ _ _ h => h) rfl (Or.inl ⟨by kernel_rfl, fun w hSw => by go_simp⟩) hS ?_)
                (refine take_at (i := 30) (d := 54) (v := .slice (some ⟨g, 0, none⟩) es.length c0) rfl (by kernel_rfl) (by kernel_rfl) (by kernel_rfl) (fun _ _ _ h => h) rfl (Or.inl ⟨by kernel_rfl, fun w hSw => by have hc := hSw.2.1; go_simp⟩) hS ?_)
                (refine take_at (i := 31) (d := 55) (v := .int .i64 (j : Int)) rfl (by kernel_rfl) (by kernel_rfl) (by kernel_rfl) (fun _ _ _ h => h) rfl (Or.inl ⟨by kernel_rfl, fun w hSw => by go_simp⟩) hS ?_)
                (refine take_at (i := 32) (d := 56) (v := .pointer (some ⟨g, j, none⟩)) rfl (by kernel_rfl) (by kernel_rfl) (by kernel_rfl) (fun _ _ _ h => h) rfl (Or.inl ⟨by kernel_rfl, fun w hSw => by go_simp⟩) hS ?_)
                (refine take_at (i := 33) (d := 57) (v := .pointer (some ⟨pj, 0, none⟩)) rfl (by kernel_rfl) (by kernel_rfl) (by kernel_rfl) (fun _ _ _ h => h) rfl (Or.inl ⟨by kernel_rfl, fun w hSw => by have hc := hSw.2.2.1; go_simp⟩) hS ?_)
                (refine take_at (i := 34) (d := 58) (v := .pointer (some ⟨pj, 0, none⟩)) rfl (by kernel_rfl) (by kernel_rfl) (by kernel_rfl) (fun _ _ _ h => h) rfl (Or.inl ⟨by kernel_rfl, fun w hSw => by go_simp⟩) hS ?_)
                (refine take_at (i := 35) (d := 59) (v := .pointer (some ⟨pj, 0, none⟩)) rfl (by kernel_rfl) (by kernel_rfl) (by kernel_rfl) (fun _ _ _ h => h) rfl (Or.inl ⟨by kernel_rfl, fun w hSw => by go_simp⟩) hS ?_)
                (refine take_at (i := 36) (d := 60) (v := .pointer (some ⟨pj, 0, none⟩)) rfl (by kernel_rfl) (by kernel_rfl) (by kernel_rfl) (fun _ _ _ h => h) rfl (Or.inl ⟨by kernel_rfl, fun w hSw => by go_simp⟩) hS ?_)
                (refine take_at (i := 37) (d := 61) (v := .agg (rj.map bv).toArray) rfl (by kernel_rfl) (by kernel_rfl) (by kernel_rfl) (fun _ _ _ h => h) rfl (yieldsIf_load_mid (by kernel_rfl) 33 (.tmp 60) rfl pj (0) (by kernel_rfl) (rj.map bv) _ (fun w h => h.2.2.2) hund rfl hj32) hS ?_)
                refine wpAnyH_ready (rs := [38]) (by decide +kernel) (by simp) (AllReadyH.cons rfl (fun K hK => ?_) AllReadyH.nil)
                go_simp
                (go_at_call 38; (with_reducible refine (HBJ.out _).mono ?_); rintro e1 wb ⟨rfl, hbb⟩)
                have HWB : Hid (Below wr.heap.size wr wb) := Lib.hid (((Below.refl wr.heap.size wr).drew).trans (hbb.mono ((Below.refl wr.heap.size wr).drew).size))
                clear hbb
                refine hK.out _ _ (HSS.out _ HWB.out) (fun hS => ?_)
                clear hK K
                (try simp only [Act.put])
                (refine take_at (i := 39) (d := 63) (v := .bool false) rfl (by kernel_rfl) (by kernel_rfl) (by kernel_rfl) (fun _ _ _ h => h) rfl (Or.inl ⟨by kernel_rfl, fun w hSw => by go_simp⟩) hS ?_)
                (refine take_at (i := 40) (d := 64) (v := .bool false) rfl (by kernel_rfl) (by kernel_rfl) (by kernel_rfl) (fun _ _ _ h => h) rfl (Or.inl ⟨by kernel_rfl, fun w hSw => by go_simp⟩) hS ?_)
                refine wpAnyH_done (by kernel_rfl) ?_ _
                clear hS
                go_simp
                clear hund hq32 e0
                have HWZ := Lib.hid (HW.out.trans ((HWB.out).mono HW.out.size))
                have HBN := Lib.hid (HB.out.worse HLJ.out)
                go_wp2
                go_roundw
                case rel => exact ⟨q + 1, (j : Int), HLQ.out, by go_num, rfl, HBN, HWZ⟩
                case measure => have := HLQ.out; simp [intOf]; omega
          · have e0 : ((t : Int) == 0) = false := by
              rw [beq_eq_false_iff_ne]
              omega
            obtain ⟨s, hs⟩ : ∃ s, t = s + 1 := ⟨t - 1, by omega⟩
            have wk : IntKind.i64.wrap ((t : Int) - 1) = (s : Int) := by
              rw [IntKind.wrap_i64]
              omega
            have is1 : (s : Int) < (t : Int) := by omega
            have hsx : s < xs.length := by have := HTX.out; omega
            obtain ⟨gO, hAO, hgO, hrO⟩ : ∃ gO, A = some ⟨gO, 0, none⟩ ∧ gO < wo.heap.size ∧ wo.rangeAt gO (s * 33) ((xs[s]'hsx).root.map bv) := by
              have h := HO.out
              rw [hs] at h
              exact h.last hsx
            subst hAO
            have HSR : Hid (gO < wr.heap.size ∧ wr.rangeAt gO (s * 33) ((xs[s]'hsx).root.map bv)) := Lib.hid ⟨Nat.lt_of_lt_of_le hgO HW.out.size, range_below hrO hgO HW.out⟩
            have HSL := Lib.hid (xs[s]'hsx).len
            have HBS0 := Lib.hid (HBM.out s hsx)
            have HSE := Lib.hid hs
            generalize (xs[s]'hsx).root = rs at *
            have hs32 := dig_list rs HSL.out
            clear hgO hrO hs ht0 hsx
            by_cases htq : t ≤ ρ q
            · have HTQ := Lib.hid htq
              have HBS : Hid (∀ w', Calls Tryz.prog 38 #[.agg (rs.map bv).toArray, .agg (rq.map bv).toArray] w' fun e w'' => e = .returned (.bool true) ∧ Below w'.heap.size w' w'') := Lib.hid (fun w' => by
                have h := before_any rs rq HSL.out HRL.out w'
                rw [HBS0.out, decide_eq_true (by have := HSE.out; omega)] at h
                exact h)
              clear htq
              rcases HB.out.form with hbf | hbf
              · subst hbf
                have HSS : Hid (∀ w', Below wr.heap.size wr w' → w'.rangeAt p 0 (rq.map bv) ∧ w'.rangeAt gO (s * 33) (rs.map bv)) := Lib.hid (fun w' hb => ⟨range_below HE1r.out HPLT.out hb, range_below HSR.out.2 HSR.out.1 hb⟩)
                refine wp_region_held_drew (S := fun w' => w'.rangeAt p 0 (rq.map bv) ∧ w'.rangeAt gO (s * 33) (rs.map bv)) (by kernel_rfl) (HSS.out _ (Below.refl _ _).drew) (fun hS => ?_)
                (refine take_at (i := 0) (d := 24) (v := .slice (some ⟨gO, 0, none⟩) t c) rfl (by kernel_rfl) (by kernel_rfl) (by kernel_rfl) (fun _ _ _ h => h) rfl (Or.inl ⟨by kernel_rfl, fun w hSw => by go_simp⟩) hS ?_)
                (refine take_at (i := 1) (d := 25) (v := .int .i64 (t : Int)) rfl (by kernel_rfl) (by kernel_rfl) (by kernel_rfl) (fun _ _ _ h => h) rfl (Or.inl ⟨by kernel_rfl, fun w hSw => by go_simp⟩) hS ?_)
                (refine take_at (i := 2) (d := 26) (v := .bool false) rfl (by kernel_rfl) (by kernel_rfl) (by kernel_rfl) (fun _ _ _ h => h) rfl (Or.inl ⟨by kernel_rfl, fun w hSw => by go_simp⟩) hS ?_)
                (refine take_at (i := 3) (d := 27) (v := .bool false) rfl (by kernel_rfl) (by kernel_rfl) (by kernel_rfl) (fun _ _ _ h => h) rfl (Or.inl ⟨by kernel_rfl, fun w hSw => by go_simp⟩) hS ?_)
                (refine take_at (i := 4) (d := 28) (v := .slice (some ⟨gO, 0, none⟩) t c) rfl (by kernel_rfl) (by kernel_rfl) (by kernel_rfl) (fun _ _ _ h => h) rfl (Or.inl ⟨by kernel_rfl, fun w hSw => by go_simp⟩) hS ?_)
                (refine take_at (i := 5) (d := 29) (v := .slice (some ⟨gO, 0, none⟩) t c) rfl (by kernel_rfl) (by kernel_rfl) (by kernel_rfl) (fun _ _ _ h => h) rfl (Or.inl ⟨by kernel_rfl, fun w hSw => by go_simp⟩) hS ?_)
                (refine take_at (i := 6) (d := 30) (v := .int .i64 (t : Int)) rfl (by kernel_rfl) (by kernel_rfl) (by kernel_rfl) (fun _ _ _ h => h) rfl (Or.inl ⟨by kernel_rfl, fun w hSw => by go_simp⟩) hS ?_)
                (refine take_at (i := 7) (d := 31) (v := .int .i64 (s : Int)) rfl (by kernel_rfl) (by kernel_rfl) (by kernel_rfl) (fun _ _ _ h => h) rfl (Or.inl ⟨by kernel_rfl, fun w hSw => by go_simp⟩) hS ?_)
                (refine take_at (i := 8) (d := 32) (v := .pointer (some ⟨gO, s * 33, none⟩)) rfl (by kernel_rfl) (by kernel_rfl) (by kernel_rfl) (fun _ _ _ h => h) rfl (Or.inl ⟨by kernel_rfl, fun w hSw => by go_simp⟩) hS ?_)
                (refine take_at (i := 9) (d := 33) (v := .pointer (some ⟨gO, s * 33, none⟩)) rfl (by kernel_rfl) (by kernel_rfl) (by kernel_rfl) (fun _ _ _ h => h) rfl (Or.inl ⟨by kernel_rfl, fun w hSw => by go_simp⟩) hS ?_)
                (refine take_at (i := 10) (d := 34) (v := .agg (rs.map bv).toArray) rfl (by kernel_rfl) (by kernel_rfl) (by kernel_rfl) (fun _ _ _ h => h) rfl (yieldsIf_load_mid (by kernel_rfl) 33 (.tmp 33) rfl gO (s * 33) (by kernel_rfl) (rs.map bv) _ (fun w h => h.2) hund rfl hs32) hS ?_)
                (refine take_at (i := 11) (d := 35) (v := .pointer (some ⟨p, 0, none⟩)) rfl (by kernel_rfl) (by kernel_rfl) (by kernel_rfl) (fun _ _ _ h => h) rfl (Or.inl ⟨by kernel_rfl, fun w hSw => by go_simp⟩) hS ?_)
                (refine take_at (i := 12) (d := 36) (v := .pointer (some ⟨p, 0, none⟩)) rfl (by kernel_rfl) (by kernel_rfl) (by kernel_rfl) (fun _ _ _ h => h) rfl (Or.inl ⟨by kernel_rfl, fun w hSw => by go_simp⟩) hS ?_)
                (refine take_at (i := 13) (d := 37) (v := .pointer (some ⟨p, 0, none⟩)) rfl (by kernel_rfl) (by kernel_rfl) (by kernel_rfl) (fun _ _ _ h => h) rfl (Or.inl ⟨by kernel_rfl, fun w hSw => by go_simp⟩) hS ?_)
                (refine take_at (i := 14) (d := 38) (v := .pointer (some ⟨p, 0, none⟩)) rfl (by kernel_rfl) (by kernel_rfl) (by kernel_rfl) (fun _ _ _ h => h) rfl (Or.inl ⟨by kernel_rfl, fun w hSw => by go_simp⟩) hS ?_)
                (refine take_at (i := 15) (d := 39) (v := .agg (rq.map bv).toArray) rfl (by kernel_rfl) (by kernel_rfl) (by kernel_rfl) (fun _ _ _ h => h) rfl (yieldsIf_load_mid (by kernel_rfl) 33 (.tmp 38) rfl p (0) (by kernel_rfl) (rq.map bv) _ (fun w h => h.1) hund rfl hq32) hS ?_)
                refine wpAnyH_ready (rs := [16]) (by decide +kernel) (by simp) (AllReadyH.cons rfl (fun K hK => ?_) AllReadyH.nil)
                go_simp
                (go_at_call 38; (with_reducible refine (HBS.out _).mono ?_); rintro e1 wa ⟨rfl, hba⟩)
                have HWA : Hid (Below wr.heap.size wr wa) := Lib.hid ((Below.refl _ _).drew.trans hba)
                clear hba
                refine hK.out _ _ (HSS.out _ HWA.out) (fun hS => ?_)
                clear hK K
                (try simp only [Act.put])
                (refine take_at (i := 17) (d := 41) (v := .bool true) rfl (by kernel_rfl) (by kernel_rfl) (by kernel_rfl) (fun _ _ _ h => h) rfl (Or.inl ⟨by kernel_rfl, fun w hSw => by go_simp⟩) hS ?_)
                (refine take_at (i := 18) (d := 42) (v := .bool true) rfl (by kernel_rfl) (by kernel_rfl) (by kernel_rfl) (fun _ _ _ h => h) rfl (Or.inl ⟨by kernel_rfl, fun w hSw => by go_simp⟩) hS ?_)
                (refine take_at (i := 19) (d := 43) (v := .int .i64 (-1)) rfl (by kernel_rfl) (by kernel_rfl) (by kernel_rfl) (fun _ _ _ h => h) rfl (Or.inl ⟨by kernel_rfl, fun w hSw => by go_simp⟩) hS ?_)
                (refine take_at (i := 20) (d := 44) (v := .bool true) rfl (by kernel_rfl) (by kernel_rfl) (by kernel_rfl) (fun _ _ _ h => h) rfl (Or.inl ⟨by kernel_rfl, fun w hSw => by go_simp⟩) hS ?_)
                (refine take_at (i := 21) (d := 45) (v := .bool true) rfl (by kernel_rfl) (by kernel_rfl) (by kernel_rfl) (fun _ _ _ h => h) rfl (Or.inl ⟨by kernel_rfl, fun w hSw => by go_simp⟩) hS ?_)
                (refine take_at (i := 22) (d := 46) (v := undef) rfl (by kernel_rfl) (by kernel_rfl) (by kernel_rfl) (fun _ _ _ h => h) rfl (Or.inr ⟨by kernel_rfl, rfl⟩) hS ?_)
                (refine take_at (i := 23) (d := 47) (v := undef) rfl (by kernel_rfl) (by kernel_rfl) (by kernel_rfl) (fun _ _ _ h => h) rfl (Or.inr ⟨by kernel_rfl, rfl⟩) hS ?_)
                (refine take_at (i := 24) (d := 48) (v := undef) rfl (by kernel_rfl) (by kernel_rfl) (by kernel_rfl) (fun _ _ _ h => h) rfl (Or.inr ⟨by kernel_rfl, rfl⟩) hS ?_)
                (refine take_at (i := 25) (d := 49) (v := undef) rfl (by kernel_rfl) (by kernel_rfl) (by kernel_rfl) (fun _ _ _ h => h) rfl (Or.inr ⟨by kernel_rfl, rfl⟩) hS ?_)
                (refine take_at (i := 26) (d := 50) (v := undef) rfl (by kernel_rfl) (by kernel_rfl) (by kernel_rfl) (fun _ _ _ h => h) rfl (Or.inr ⟨by kernel_rfl, rfl⟩) hS ?_)
                (refine take_at (i := 27) (d := 51) (v := undef) rfl (by kernel_rfl) (by kernel_rfl) (by kernel_rfl) (fun _ _ _ h => h) rfl (Or.inr ⟨by kernel_rfl, rfl⟩) hS ?_)
                (refine take_at (i := 28) (d := 52) (v := undef) rfl (by kernel_rfl) (by kernel_rfl) (by kernel_rfl) (fun _ _ _ h => h) rfl (Or.inr ⟨by kernel_rfl, rfl⟩) hS ?_)
                (refine take_at (i := 29) (d := 53) (v := undef) rfl (by kernel_rfl) (by kernel_rfl) (by kernel_rfl) (fun _ _ _ h => h) rfl (Or.inr ⟨by kernel_rfl, rfl⟩) hS ?_)
                (refine take_at (i := 30) (d := 54) (v := undef) rfl (by kernel_rfl) (by kernel_rfl) (by kernel_rfl) (fun _ _ _ h => h) rfl (Or.inr ⟨by kernel_rfl, rfl⟩) hS ?_)
                (refine take_at (i := 31) (d := 55) (v := undef) rfl (by kernel_rfl) (by kernel_rfl) (by kernel_rfl) (fun _ _ _ h => h) rfl (Or.inr ⟨by kernel_rfl, rfl⟩) hS ?_)
                (refine take_at (i := 32) (d := 56) (v := undef) rfl (by kernel_rfl) (by kernel_rfl) (by kernel_rfl) (fun _ _ _ h => h) rfl (Or.inr ⟨by kernel_rfl, rfl⟩) hS ?_)
                (refine take_at (i := 33) (d := 57) (v := undef) rfl (by kernel_rfl) (by kernel_rfl) (by kernel_rfl) (fun _ _ _ h => h) rfl (Or.inr ⟨by kernel_rfl, rfl⟩) hS ?_)
                (refine take_at (i := 34) (d := 58) (v := undef) rfl (by kernel_rfl) (by kernel_rfl) (by kernel_rfl) (fun _ _ _ h => h) rfl (Or.inr ⟨by kernel_rfl, rfl⟩) hS ?_)
                (refine take_at (i := 35) (d := 59) (v := undef) rfl (by kernel_rfl) (by kernel_rfl) (by kernel_rfl) (fun _ _ _ h => h) rfl (Or.inr ⟨by kernel_rfl, rfl⟩) hS ?_)
                (refine take_at (i := 36) (d := 60) (v := undef) rfl (by kernel_rfl) (by kernel_rfl) (by kernel_rfl) (fun _ _ _ h => h) rfl (Or.inr ⟨by kernel_rfl, rfl⟩) hS ?_)
                (refine take_at (i := 37) (d := 61) (v := undef) rfl (by kernel_rfl) (by kernel_rfl) (by kernel_rfl) (fun _ _ _ h => h) rfl (Or.inr ⟨by kernel_rfl, rfl⟩) hS ?_)
                (refine take_at (i := 38) (d := 62) (v := undef) rfl (by kernel_rfl) (by kernel_rfl) (by kernel_rfl) (fun _ _ _ h => h) rfl (Or.inr ⟨by kernel_rfl, rfl⟩) hS ?_)
                (refine take_at (i := 39) (d := 63) (v := .bool true) rfl (by kernel_rfl) (by kernel_rfl) (by kernel_rfl) (fun _ _ _ h => h) rfl (Or.inl ⟨by kernel_rfl, fun w hSw => by go_simp⟩) hS ?_)
                (refine take_at (i := 40) (d := 64) (v := .bool true) rfl (by kernel_rfl) (by kernel_rfl) (by kernel_rfl) (fun _ _ _ h => h) rfl (Or.inl ⟨by kernel_rfl, fun w hSw => by go_simp⟩) hS ?_)
                refine wpAnyH_done (by kernel_rfl) ?_ _
                clear hS
                go_simp
                clear hund hq32 e0
                have HWZ := Lib.hid (HW.out.trans ((HWA.out).mono HW.out.size))
                have HBN := Lib.hid (HB.out.first (by have := HTQ.out; omega))
                go_wp2
                go_roundw
                case rel => exact ⟨q + 1, (q : Int), HLQ.out, by go_num, rfl, HBN, HWZ⟩
                case measure => have := HLQ.out; simp [intOf]; omega
              · obtain ⟨j, hj, rfl, htj⟩ := hbf
                have hjl : j < es.length := by omega
                obtain ⟨hj1, a2, ca2, O2, co2, hE2⟩ := HPI.out.ents j hjl
                have HRJ := Lib.hid (es[j]'hjl).root_len
                have HEJ := Lib.hid (And.intro hE2.box.lt hE2.root_range)
                have HCJ : Hid (wr.cell? ⟨g, j, none⟩ = some (.pointer (some ⟨ps.getD j 0, 0, none⟩))) := Lib.hid (HCL.out j hjl)
                have HBJ0 := Lib.hid (HBE.out j hjl)
                have i3 : (j : Int) < (es.length : Int) := by omega
                generalize (es[j]'hjl).root = rj at *
                generalize ps.getD j 0 = pj at *
                have hj32 := dig_list rj HRJ.out
                clear hE2 hj1 hj htj hjl
                by_cases hlj : ρ q < ρ j
                · have HBJ : Hid (∀ w', Calls Tryz.prog 38 #[.agg (rq.map bv).toArray, .agg (rj.map bv).toArray] w' fun e w'' => e = .returned (.bool true) ∧ Below w'.heap.size w' w'') := Lib.hid (fun w' => by
                    have h := before_any rq rj HRL.out HRJ.out w'
                    rw [HBJ0.out, decide_eq_true hlj] at h
                    exact h)
                  have HLJ := Lib.hid hlj
                  clear hlj
                  have HSS : Hid (∀ w', Below wr.heap.size wr w' → w'.rangeAt p 0 (rq.map bv) ∧ w'.rangeAt gO (s * 33) (rs.map bv) ∧ w'.cell? ⟨db, 0, none⟩ = some (.slice (some ⟨g, 0, none⟩) es.length c0) ∧ w'.cell? ⟨g, j, none⟩ = some (.pointer (some ⟨pj, 0, none⟩)) ∧ w'.rangeAt pj 0 (rj.map bv)) := Lib.hid (fun w' hb => ⟨range_below HE1r.out HPLT.out hb, range_below HSR.out.2 HSR.out.1 hb, (hb.cell (p := ⟨db, 0, none⟩) HPI.out.ring.lt).trans (HPI.out.ring.cell 0), (hb.cell (p := ⟨g, j, none⟩) HGS.out).trans HCJ.out, range_below HEJ.out.2 HEJ.out.1 hb⟩)
                  refine wp_region_held_drew (S := fun w' => w'.rangeAt p 0 (rq.map bv) ∧ w'.rangeAt gO (s * 33) (rs.map bv) ∧ w'.cell? ⟨db, 0, none⟩ = some (.slice (some ⟨g, 0, none⟩) es.length c0) ∧ w'.cell? ⟨g, j, none⟩ = some (.pointer (some ⟨pj, 0, none⟩)) ∧ w'.rangeAt pj 0 (rj.map bv)) (by kernel_rfl) (HSS.out _ (Below.refl _ _).drew) (fun hS => ?_)
                  (refine take_at (i := 0) (d := 24) (v := .slice (some ⟨gO, 0, none⟩) t c) rfl (by kernel_rfl) (by kernel_rfl) (by kernel_rfl) (fun _ _ _ h => h) rfl (Or.inl ⟨by kernel_rfl, fun w hSw => by go_simp⟩) hS ?_)
                  (refine take_at (i := 1) (d := 25) (v := .int .i64 (t : Int)) rfl (by kernel_rfl) (by kernel_rfl) (by kernel_rfl) (fun _ _ _ h => h) rfl (Or.inl ⟨by kernel_rfl, fun w hSw => by go_simp⟩) hS ?_)
                  (refine take_at (i := 2) (d := 26) (v := .bool false) rfl (by kernel_rfl) (by kernel_rfl) (by kernel_rfl) (fun _ _ _ h => h) rfl (Or.inl ⟨by kernel_rfl, fun w hSw => by go_simp⟩) hS ?_)
                  (refine take_at (i := 3) (d := 27) (v := .bool false) rfl (by kernel_rfl) (by kernel_rfl) (by kernel_rfl) (fun _ _ _ h => h) rfl (Or.inl ⟨by kernel_rfl, fun w hSw => by go_simp⟩) hS ?_)
                  (refine take_at (i := 4) (d := 28) (v := .slice (some ⟨gO, 0, none⟩) t c) rfl (by kernel_rfl) (by kernel_rfl) (by kernel_rfl) (fun _ _ _ h => h) rfl (Or.inl ⟨by kernel_rfl, fun w hSw => by go_simp⟩) hS ?_)
                  (refine take_at (i := 5) (d := 29) (v := .slice (some ⟨gO, 0, none⟩) t c) rfl (by kernel_rfl) (by kernel_rfl) (by kernel_rfl) (fun _ _ _ h => h) rfl (Or.inl ⟨by kernel_rfl, fun w hSw => by go_simp⟩) hS ?_)
                  (refine take_at (i := 6) (d := 30) (v := .int .i64 (t : Int)) rfl (by kernel_rfl) (by kernel_rfl) (by kernel_rfl) (fun _ _ _ h => h) rfl (Or.inl ⟨by kernel_rfl, fun w hSw => by go_simp⟩) hS ?_)
                  (refine take_at (i := 7) (d := 31) (v := .int .i64 (s : Int)) rfl (by kernel_rfl) (by kernel_rfl) (by kernel_rfl) (fun _ _ _ h => h) rfl (Or.inl ⟨by kernel_rfl, fun w hSw => by go_simp⟩) hS ?_)
                  (refine take_at (i := 8) (d := 32) (v := .pointer (some ⟨gO, s * 33, none⟩)) rfl (by kernel_rfl) (by kernel_rfl) (by kernel_rfl) (fun _ _ _ h => h) rfl (Or.inl ⟨by kernel_rfl, fun w hSw => by go_simp⟩) hS ?_)
                  (refine take_at (i := 9) (d := 33) (v := .pointer (some ⟨gO, s * 33, none⟩)) rfl (by kernel_rfl) (by kernel_rfl) (by kernel_rfl) (fun _ _ _ h => h) rfl (Or.inl ⟨by kernel_rfl, fun w hSw => by go_simp⟩) hS ?_)
                  (refine take_at (i := 10) (d := 34) (v := .agg (rs.map bv).toArray) rfl (by kernel_rfl) (by kernel_rfl) (by kernel_rfl) (fun _ _ _ h => h) rfl (yieldsIf_load_mid (by kernel_rfl) 33 (.tmp 33) rfl gO (s * 33) (by kernel_rfl) (rs.map bv) _ (fun w h => h.2.1) hund rfl hs32) hS ?_)
                  (refine take_at (i := 11) (d := 35) (v := .pointer (some ⟨p, 0, none⟩)) rfl (by kernel_rfl) (by kernel_rfl) (by kernel_rfl) (fun _ _ _ h => h) rfl (Or.inl ⟨by kernel_rfl, fun w hSw => by go_simp⟩) hS ?_)
                  (refine take_at (i := 12) (d := 36) (v := .pointer (some ⟨p, 0, none⟩)) rfl (by kernel_rfl) (by kernel_rfl) (by kernel_rfl) (fun _ _ _ h => h) rfl (Or.inl ⟨by kernel_rfl, fun w hSw => by go_simp⟩) hS ?_)
                  (refine take_at (i := 13) (d := 37) (v := .pointer (some ⟨p, 0, none⟩)) rfl (by kernel_rfl) (by kernel_rfl) (by kernel_rfl) (fun _ _ _ h => h) rfl (Or.inl ⟨by kernel_rfl, fun w hSw => by go_simp⟩) hS ?_)
                  (refine take_at (i := 14) (d := 38) (v := .pointer (some ⟨p, 0, none⟩)) rfl (by kernel_rfl) (by kernel_rfl) (by kernel_rfl) (fun _ _ _ h => h) rfl (Or.inl ⟨by kernel_rfl, fun w hSw => by go_simp⟩) hS ?_)
                  (refine take_at (i := 15) (d := 39) (v := .agg (rq.map bv).toArray) rfl (by kernel_rfl) (by kernel_rfl) (by kernel_rfl) (fun _ _ _ h => h) rfl (yieldsIf_load_mid (by kernel_rfl) 33 (.tmp 38) rfl p (0) (by kernel_rfl) (rq.map bv) _ (fun w h => h.1) hund rfl hq32) hS ?_)
                  refine wpAnyH_ready (rs := [16]) (by decide +kernel) (by simp) (AllReadyH.cons rfl (fun K hK => ?_) AllReadyH.nil)
                  go_simp
                  (go_at_call 38; (with_reducible refine (HBS.out _).mono ?_); rintro e1 wa ⟨rfl, hba⟩)
                  have HWA : Hid (Below wr.heap.size wr wa) := Lib.hid ((Below.refl _ _).drew.trans hba)
                  clear hba
                  refine hK.out _ _ (HSS.out _ HWA.out) (fun hS => ?_)
                  clear hK K
                  (try simp only [Act.put])
                  (refine take_at (i := 17) (d := 41) (v := .bool true) rfl (by kernel_rfl) (by kernel_rfl) (by kernel_rfl) (fun _ _ _ h => h) rfl (Or.inl ⟨by kernel_rfl, fun w hSw => by go_simp⟩) hS ?_)
                  (refine take_at (i := 18) (d := 42) (v := .bool true) rfl (by kernel_rfl) (by kernel_rfl) (by kernel_rfl) (fun _ _ _ h => h) rfl (Or.inl ⟨by kernel_rfl, fun w hSw => by go_simp⟩) hS ?_)
                  (refine take_at (i := 19) (d := 43) (v := .int .i64 (j : Int)) rfl (by kernel_rfl) (by kernel_rfl) (by kernel_rfl) (fun _ _ _ h => h) rfl (Or.inl ⟨by kernel_rfl, fun w hSw => by go_simp⟩) hS ?_)
                  (refine take_at (i := 20) (d := 44) (v := .bool false) rfl (by kernel_rfl) (by kernel_rfl) (by kernel_rfl) (fun _ _ _ h => h) rfl (Or.inl ⟨by kernel_rfl, fun w hSw => by go_simp⟩) hS ?_)
                  (refine take_at (i := 21) (d := 45) (v := .bool false) rfl (by kernel_rfl) (by kernel_rfl) (by kernel_rfl) (fun _ _ _ h => h) rfl (Or.inl ⟨by kernel_rfl, fun w hSw => by go_simp⟩) hS ?_)
                  (refine take_at (i := 22) (d := 46) (v := .pointer (some ⟨p, 0, none⟩)) rfl (by kernel_rfl) (by kernel_rfl) (by kernel_rfl) (fun _ _ _ h => h) rfl (Or.inl ⟨by kernel_rfl, fun w hSw => by go_simp⟩) hS ?_)
                  (refine take_at (i := 23) (d := 47) (v := .pointer (some ⟨p, 0, none⟩)) rfl (by kernel_rfl) (by kernel_rfl) (by kernel_rfl) (fun _ _ _ h => h) rfl (Or.inl ⟨by kernel_rfl, fun w hSw => by go_simp⟩) hS ?_)
                  (refine take_at (i := 24) (d := 48) (v := .pointer (some ⟨p, 0, none⟩)) rfl (by kernel_rfl) (by kernel_rfl) (by kernel_rfl) (fun _ _ _ h => h) rfl (Or.inl ⟨by kernel_rfl, fun w hSw => by go_simp⟩) hS ?_)
                  (refine take_at (i := 25) (d := 49) (v := .pointer (some ⟨p, 0, none⟩)) rfl (by kernel_rfl) (by kernel_rfl) (by kernel_rfl) (fun _ _ _ h => h) rfl (Or.inl ⟨by kernel_rfl, fun w hSw => by go_simp⟩) hS ?_)
                  (refine take_at (i := 26) (d := 50) (v := .agg (rq.map bv).toArray) rfl (by kernel_rfl) (by kernel_rfl) (by kernel_rfl) (fun _ _ _ h => h) rfl (yieldsIf_load_mid (by kernel_rfl) 33 (.tmp 49) rfl p (0) (by kernel_rfl) (rq.map bv) _ (fun w h => h.1) hund rfl hq32) hS ?_)
                  (refine take_at (i := 27) (d := 51) (v := .pointer (some ⟨db, 0, none⟩)) rfl (by kernel_rfl) (by kernel_rfl) (by kernel_rfl) (fun _ _ _ h => h) rfl (Or.inl ⟨by kernel_rfl, fun w hSw => by go_simp⟩) hS ?_)
                  (refine take_at (i := 28) (d := 52) (v := .pointer (some ⟨db, 0, none⟩)) rfl (by kernel_rfl) (by kernel_rfl) (by kernel_rfl) (fun _ _ _ h => h) rfl (Or.inl ⟨by kernel_rfl, fun w hSw => by go_simp⟩) hS ?_)
                  (refine take_at (i := 29) (d := 53) (v := .pointer (some ⟨db, 0, none⟩)) rfl (by kernel_rfl) (by kernel_rfl) (by kernel_rfl) (fun _ _ _ h => h) rfl (Or.inl ⟨by kernel_rfl, fun w hSw => by go_simp⟩) hS ?_)
                  (refine take_at (i := 30) (d := 54) (v := .slice (some ⟨g, 0, none⟩) es.length c0) rfl (by kernel_rfl) (by kernel_rfl) (by kernel_rfl) (fun _ _ _ h => h) rfl (Or.inl ⟨by kernel_rfl, fun w hSw => by have hc := hSw.2.2.1; go_simp⟩) hS ?_)
                  (refine take_at (i := 31) (d := 55) (v := .int .i64 (j : Int)) rfl (by kernel_rfl) (by kernel_rfl) (by kernel_rfl) (fun _ _ _ h => h) rfl (Or.inl ⟨by kernel_rfl, fun w hSw => by go_simp⟩) hS ?_)
                  (refine take_at (i := 32) (d := 56) (v := .pointer (some ⟨g, j, none⟩)) rfl (by kernel_rfl) (by kernel_rfl) (by kernel_rfl) (fun _ _ _ h => h) rfl (Or.inl ⟨by kernel_rfl, fun w hSw => by go_simp⟩) hS ?_)
                  (refine take_at (i := 33) (d := 57) (v := .pointer (some ⟨pj, 0, none⟩)) rfl (by kernel_rfl) (by kernel_rfl) (by kernel_rfl) (fun _ _ _ h => h) rfl (Or.inl ⟨by kernel_rfl, fun w hSw => by have hc := hSw.2.2.2.1; go_simp⟩) hS ?_)
                  (refine take_at (i := 34) (d := 58) (v := .pointer (some ⟨pj, 0, none⟩)) rfl (by kernel_rfl) (by kernel_rfl) (by kernel_rfl) (fun _ _ _ h => h) rfl (Or.inl ⟨by kernel_rfl, fun w hSw => by go_simp⟩) hS ?_)
                  (refine take_at (i := 35) (d := 59) (v := .pointer (some ⟨pj, 0, none⟩)) rfl (by kernel_rfl) (by kernel_rfl) (by kernel_rfl) (fun _ _ _ h => h) rfl (Or.inl ⟨by kernel_rfl, fun w hSw => by go_simp⟩) hS ?_)
                  (refine take_at (i := 36) (d := 60) (v := .pointer (some ⟨pj, 0, none⟩)) rfl (by kernel_rfl) (by kernel_rfl) (by kernel_rfl) (fun _ _ _ h => h) rfl (Or.inl ⟨by kernel_rfl, fun w hSw => by go_simp⟩) hS ?_)
                  (refine take_at (i := 37) (d := 61) (v := .agg (rj.map bv).toArray) rfl (by kernel_rfl) (by kernel_rfl) (by kernel_rfl) (fun _ _ _ h => h) rfl (yieldsIf_load_mid (by kernel_rfl) 33 (.tmp 60) rfl pj (0) (by kernel_rfl) (rj.map bv) _ (fun w h => h.2.2.2.2) hund rfl hj32) hS ?_)
                  refine wpAnyH_ready (rs := [38]) (by decide +kernel) (by simp) (AllReadyH.cons rfl (fun K hK => ?_) AllReadyH.nil)
                  go_simp
                  (go_at_call 38; (with_reducible refine (HBJ.out _).mono ?_); rintro e1 wb ⟨rfl, hbb⟩)
                  have HWB : Hid (Below wr.heap.size wr wb) := Lib.hid ((HWA.out).trans (hbb.mono (HWA.out).size))
                  clear hbb
                  refine hK.out _ _ (HSS.out _ HWB.out) (fun hS => ?_)
                  clear hK K
                  (try simp only [Act.put])
                  (refine take_at (i := 39) (d := 63) (v := .bool true) rfl (by kernel_rfl) (by kernel_rfl) (by kernel_rfl) (fun _ _ _ h => h) rfl (Or.inl ⟨by kernel_rfl, fun w hSw => by go_simp⟩) hS ?_)
                  (refine take_at (i := 40) (d := 64) (v := .bool true) rfl (by kernel_rfl) (by kernel_rfl) (by kernel_rfl) (fun _ _ _ h => h) rfl (Or.inl ⟨by kernel_rfl, fun w hSw => by go_simp⟩) hS ?_)
                  refine wpAnyH_done (by kernel_rfl) ?_ _
                  clear hS
                  go_simp
                  clear hund hq32 e0
                  have HWZ := Lib.hid (HW.out.trans ((HWB.out).mono HW.out.size))
                  have HBN := Lib.hid (HB.out.better (by have := HTQ.out; omega) HLJ.out)
                  go_wp2
                  go_roundw
                  case rel => exact ⟨q + 1, (q : Int), HLQ.out, by go_num, rfl, HBN, HWZ⟩
                  case measure => have := HLQ.out; simp [intOf]; omega
                · have HBJ : Hid (∀ w', Calls Tryz.prog 38 #[.agg (rq.map bv).toArray, .agg (rj.map bv).toArray] w' fun e w'' => e = .returned (.bool false) ∧ Below w'.heap.size w' w'') := Lib.hid (fun w' => by
                    have h := before_any rq rj HRL.out HRJ.out w'
                    rw [HBJ0.out, decide_eq_false hlj] at h
                    exact h)
                  have HLJ := Lib.hid hlj
                  clear hlj
                  have HSS : Hid (∀ w', Below wr.heap.size wr w' → w'.rangeAt p 0 (rq.map bv) ∧ w'.rangeAt gO (s * 33) (rs.map bv) ∧ w'.cell? ⟨db, 0, none⟩ = some (.slice (some ⟨g, 0, none⟩) es.length c0) ∧ w'.cell? ⟨g, j, none⟩ = some (.pointer (some ⟨pj, 0, none⟩)) ∧ w'.rangeAt pj 0 (rj.map bv)) := Lib.hid (fun w' hb => ⟨range_below HE1r.out HPLT.out hb, range_below HSR.out.2 HSR.out.1 hb, (hb.cell (p := ⟨db, 0, none⟩) HPI.out.ring.lt).trans (HPI.out.ring.cell 0), (hb.cell (p := ⟨g, j, none⟩) HGS.out).trans HCJ.out, range_below HEJ.out.2 HEJ.out.1 hb⟩)
                  refine wp_region_held_drew (S := fun w' => w'.rangeAt p 0 (rq.map bv) ∧ w'.rangeAt gO (s * 33) (rs.map bv) ∧ w'.cell? ⟨db, 0, none⟩ = some (.slice (some ⟨g, 0, none⟩) es.length c0) ∧ w'.cell? ⟨g, j, none⟩ = some (.pointer (some ⟨pj, 0, none⟩)) ∧ w'.rangeAt pj 0 (rj.map bv)) (by kernel_rfl) (HSS.out _ (Below.refl _ _).drew) (fun hS => ?_)
                  (refine take_at (i := 0) (d := 24) (v := .slice (some ⟨gO, 0, none⟩) t c) rfl (by kernel_rfl) (by kernel_rfl) (by kernel_rfl) (fun _ _ _ h => h) rfl (Or.inl ⟨by kernel_rfl, fun w hSw => by go_simp⟩) hS ?_)
                  (refine take_at (i := 1) (d := 25) (v := .int .i64 (t : Int)) rfl (by kernel_rfl) (by kernel_rfl) (by kernel_rfl) (fun _ _ _ h => h) rfl (Or.inl ⟨by kernel_rfl, fun w hSw => by go_simp⟩) hS ?_)
                  (refine take_at (i := 2) (d := 26) (v := .bool false) rfl (by kernel_rfl) (by kernel_rfl) (by kernel_rfl) (fun _ _ _ h => h) rfl (Or.inl ⟨by kernel_rfl, fun w hSw => by go_simp⟩) hS ?_)
                  (refine take_at (i := 3) (d := 27) (v := .bool false) rfl (by kernel_rfl) (by kernel_rfl) (by kernel_rfl) (fun _ _ _ h => h) rfl (Or.inl ⟨by kernel_rfl, fun w hSw => by go_simp⟩) hS ?_)
                  (refine take_at (i := 4) (d := 28) (v := .slice (some ⟨gO, 0, none⟩) t c) rfl (by kernel_rfl) (by kernel_rfl) (by kernel_rfl) (fun _ _ _ h => h) rfl (Or.inl ⟨by kernel_rfl, fun w hSw => by go_simp⟩) hS ?_)
                  (refine take_at (i := 5) (d := 29) (v := .slice (some ⟨gO, 0, none⟩) t c) rfl (by kernel_rfl) (by kernel_rfl) (by kernel_rfl) (fun _ _ _ h => h) rfl (Or.inl ⟨by kernel_rfl, fun w hSw => by go_simp⟩) hS ?_)
                  (refine take_at (i := 6) (d := 30) (v := .int .i64 (t : Int)) rfl (by kernel_rfl) (by kernel_rfl) (by kernel_rfl) (fun _ _ _ h => h) rfl (Or.inl ⟨by kernel_rfl, fun w hSw => by go_simp⟩) hS ?_)
                  (refine take_at (i := 7) (d := 31) (v := .int .i64 (s : Int)) rfl (by kernel_rfl) (by kernel_rfl) (by kernel_rfl) (fun _ _ _ h => h) rfl (Or.inl ⟨by kernel_rfl, fun w hSw => by go_simp⟩) hS ?_)
                  (refine take_at (i := 8) (d := 32) (v := .pointer (some ⟨gO, s * 33, none⟩)) rfl (by kernel_rfl) (by kernel_rfl) (by kernel_rfl) (fun _ _ _ h => h) rfl (Or.inl ⟨by kernel_rfl, fun w hSw => by go_simp⟩) hS ?_)
                  (refine take_at (i := 9) (d := 33) (v := .pointer (some ⟨gO, s * 33, none⟩)) rfl (by kernel_rfl) (by kernel_rfl) (by kernel_rfl) (fun _ _ _ h => h) rfl (Or.inl ⟨by kernel_rfl, fun w hSw => by go_simp⟩) hS ?_)
                  (refine take_at (i := 10) (d := 34) (v := .agg (rs.map bv).toArray) rfl (by kernel_rfl) (by kernel_rfl) (by kernel_rfl) (fun _ _ _ h => h) rfl (yieldsIf_load_mid (by kernel_rfl) 33 (.tmp 33) rfl gO (s * 33) (by kernel_rfl) (rs.map bv) _ (fun w h => h.2.1) hund rfl hs32) hS ?_)
                  (refine take_at (i := 11) (d := 35) (v := .pointer (some ⟨p, 0, none⟩)) rfl (by kernel_rfl) (by kernel_rfl) (by kernel_rfl) (fun _ _ _ h => h) rfl (Or.inl ⟨by kernel_rfl, fun w hSw => by go_simp⟩) hS ?_)
                  (refine take_at (i := 12) (d := 36) (v := .pointer (some ⟨p, 0, none⟩)) rfl (by kernel_rfl) (by kernel_rfl) (by kernel_rfl) (fun _ _ _ h => h) rfl (Or.inl ⟨by kernel_rfl, fun w hSw => by go_simp⟩) hS ?_)
                  (refine take_at (i := 13) (d := 37) (v := .pointer (some ⟨p, 0, none⟩)) rfl (by kernel_rfl) (by kernel_rfl) (by kernel_rfl) (fun _ _ _ h => h) rfl (Or.inl ⟨by kernel_rfl, fun w hSw => by go_simp⟩) hS ?_)
                  (refine take_at (i := 14) (d := 38) (v := .pointer (some ⟨p, 0, none⟩)) rfl (by kernel_rfl) (by kernel_rfl) (by kernel_rfl) (fun _ _ _ h => h) rfl (Or.inl ⟨by kernel_rfl, fun w hSw => by go_simp⟩) hS ?_)
                  (refine take_at (i := 15) (d := 39) (v := .agg (rq.map bv).toArray) rfl (by kernel_rfl) (by kernel_rfl) (by kernel_rfl) (fun _ _ _ h => h) rfl (yieldsIf_load_mid (by kernel_rfl) 33 (.tmp 38) rfl p (0) (by kernel_rfl) (rq.map bv) _ (fun w h => h.1) hund rfl hq32) hS ?_)
                  refine wpAnyH_ready (rs := [16]) (by decide +kernel) (by simp) (AllReadyH.cons rfl (fun K hK => ?_) AllReadyH.nil)
                  go_simp
                  (go_at_call 38; (with_reducible refine (HBS.out _).mono ?_); rintro e1 wa ⟨rfl, hba⟩)
                  have HWA : Hid (Below wr.heap.size wr wa) := Lib.hid ((Below.refl _ _).drew.trans hba)
                  clear hba
                  refine hK.out _ _ (HSS.out _ HWA.out) (fun hS => ?_)
                  clear hK K
                  (try simp only [Act.put])
                  (refine take_at (i := 17) (d := 41) (v := .bool true) rfl (by kernel_rfl) (by kernel_rfl) (by kernel_rfl) (fun _ _ _ h => h) rfl (Or.inl ⟨by kernel_rfl, fun w hSw => by go_simp⟩) hS ?_)
                  (refine take_at (i := 18) (d := 42) (v := .bool true) rfl (by kernel_rfl) (by kernel_rfl) (by kernel_rfl) (fun _ _ _ h => h) rfl (Or.inl ⟨by kernel_rfl, fun w hSw => by go_simp⟩) hS ?_)
                  (refine take_at (i := 19) (d := 43) (v := .int .i64 (j : Int)) rfl (by kernel_rfl) (by kernel_rfl) (by kernel_rfl) (fun _ _ _ h => h) rfl (Or.inl ⟨by kernel_rfl, fun w hSw => by go_simp⟩) hS ?_)
                  (refine take_at (i := 20) (d := 44) (v := .bool false) rfl (by kernel_rfl) (by kernel_rfl) (by kernel_rfl) (fun _ _ _ h => h) rfl (Or.inl ⟨by kernel_rfl, fun w hSw => by go_simp⟩) hS ?_)
                  (refine take_at (i := 21) (d := 45) (v := .bool false) rfl (by kernel_rfl) (by kernel_rfl) (by kernel_rfl) (fun _ _ _ h => h) rfl (Or.inl ⟨by kernel_rfl, fun w hSw => by go_simp⟩) hS ?_)
                  (refine take_at (i := 22) (d := 46) (v := .pointer (some ⟨p, 0, none⟩)) rfl (by kernel_rfl) (by kernel_rfl) (by kernel_rfl) (fun _ _ _ h => h) rfl (Or.inl ⟨by kernel_rfl, fun w hSw => by go_simp⟩) hS ?_)
                  (refine take_at (i := 23) (d := 47) (v := .pointer (some ⟨p, 0, none⟩)) rfl (by kernel_rfl) (by kernel_rfl) (by kernel_rfl) (fun _ _ _ h => h) rfl (Or.inl ⟨by kernel_rfl, fun w hSw => by go_simp⟩) hS ?_)
                  (refine take_at (i := 24) (d := 48) (v := .pointer (some ⟨p, 0, none⟩)) rfl (by kernel_rfl) (by kernel_rfl) (by kernel_rfl) (fun _ _ _ h => h) rfl (Or.inl ⟨by kernel_rfl, fun w hSw => by go_simp⟩) hS ?_)
                  (refine take_at (i := 25) (d := 49) (v := .pointer (some ⟨p, 0, none⟩)) rfl (by kernel_rfl) (by kernel_rfl) (by kernel_rfl) (fun _ _ _ h => h) rfl (Or.inl ⟨by kernel_rfl, fun w hSw => by go_simp⟩) hS ?_)
                  (refine take_at (i := 26) (d := 50) (v := .agg (rq.map bv).toArray) rfl (by kernel_rfl) (by kernel_rfl) (by kernel_rfl) (fun _ _ _ h => h) rfl (yieldsIf_load_mid (by kernel_rfl) 33 (.tmp 49) rfl p (0) (by kernel_rfl) (rq.map bv) _ (fun w h => h.1) hund rfl hq32) hS ?_)
                  (refine take_at (i := 27) (d := 51) (v := .pointer (some ⟨db, 0, none⟩)) rfl (by kernel_rfl) (by kernel_rfl) (by kernel_rfl) (fun _ _ _ h => h) rfl (Or.inl ⟨by kernel_rfl, fun w hSw => by go_simp⟩) hS ?_)
                  (refine take_at (i := 28) (d := 52) (v := .pointer (some ⟨db, 0, none⟩)) rfl (by kernel_rfl) (by kernel_rfl) (by kernel_rfl) (fun _ _ _ h => h) rfl (Or.inl ⟨by kernel_rfl, fun w hSw => by go_simp⟩) hS ?_)
                  (refine take_at (i := 29) (d := 53) (v := .pointer (some ⟨db, 0, none⟩)) rfl (by kernel_rfl) (by kernel_rfl) (by kernel_rfl) (fun _ _ _ h => h) rfl (Or.inl ⟨by kernel_rfl, fun w hSw => by go_simp⟩) hS ?_)
                  (refine take_at (i := 30) (d := 54) (v := .slice (some ⟨g, 0, none⟩) es.length c0) rfl (by kernel_rfl) (by kernel_rfl) (by kernel_rfl) (fun _ _ _ h => h) rfl (Or.inl ⟨by kernel_rfl, fun w hSw => by have hc := hSw.2.2.1; go_simp⟩) hS ?_)
                  (refine take_at (i := 31) (d := 55) (v := .int .i64 (j : Int)) rfl (by kernel_rfl) (by kernel_rfl) (by kernel_rfl) (fun _ _ _ h => h) rfl (Or.inl ⟨by kernel_rfl, fun w hSw => by go_simp⟩) hS ?_)
                  (refine take_at (i := 32) (d := 56) (v := .pointer (some ⟨g, j, none⟩)) rfl (by kernel_rfl) (by kernel_rfl) (by kernel_rfl) (fun _ _ _ h => h) rfl (Or.inl ⟨by kernel_rfl, fun w hSw => by go_simp⟩) hS ?_)
                  (refine take_at (i := 33) (d := 57) (v := .pointer (some ⟨pj, 0, none⟩)) rfl (by kernel_rfl) (by kernel_rfl) (by kernel_rfl) (fun _ _ _ h => h) rfl (Or.inl ⟨by kernel_rfl, fun w hSw => by have hc := hSw.2.2.2.1; go_simp⟩) hS ?_)
                  (refine take_at (i := 34) (d := 58) (v := .pointer (some ⟨pj, 0, none⟩)) rfl (by kernel_rfl) (by kernel_rfl) (by kernel_rfl) (fun _ _ _ h => h) rfl (Or.inl ⟨by kernel_rfl, fun w hSw => by go_simp⟩) hS ?_)
                  (refine take_at (i := 35) (d := 59) (v := .pointer (some ⟨pj, 0, none⟩)) rfl (by kernel_rfl) (by kernel_rfl) (by kernel_rfl) (fun _ _ _ h => h) rfl (Or.inl ⟨by kernel_rfl, fun w hSw => by go_simp⟩) hS ?_)
                  (refine take_at (i := 36) (d := 60) (v := .pointer (some ⟨pj, 0, none⟩)) rfl (by kernel_rfl) (by kernel_rfl) (by kernel_rfl) (fun _ _ _ h => h) rfl (Or.inl ⟨by kernel_rfl, fun w hSw => by go_simp⟩) hS ?_)
                  (refine take_at (i := 37) (d := 61) (v := .agg (rj.map bv).toArray) rfl (by kernel_rfl) (by kernel_rfl) (by kernel_rfl) (fun _ _ _ h => h) rfl (yieldsIf_load_mid (by kernel_rfl) 33 (.tmp 60) rfl pj (0) (by kernel_rfl) (rj.map bv) _ (fun w h => h.2.2.2.2) hund rfl hj32) hS ?_)
                  refine wpAnyH_ready (rs := [38]) (by decide +kernel) (by simp) (AllReadyH.cons rfl (fun K hK => ?_) AllReadyH.nil)
                  go_simp
                  (go_at_call 38; (with_reducible refine (HBJ.out _).mono ?_); rintro e1 wb ⟨rfl, hbb⟩)
                  have HWB : Hid (Below wr.heap.size wr wb) := Lib.hid ((HWA.out).trans (hbb.mono (HWA.out).size))
                  clear hbb
                  refine hK.out _ _ (HSS.out _ HWB.out) (fun hS => ?_)
                  clear hK K
                  (try simp only [Act.put])
                  (refine take_at (i := 39) (d := 63) (v := .bool false) rfl (by kernel_rfl) (by kernel_rfl) (by kernel_rfl) (fun _ _ _ h => h) rfl (Or.inl ⟨by kernel_rfl, fun w hSw => by go_simp⟩) hS ?_)
                  (refine take_at (i := 40) (d := 64) (v := .bool false) rfl (by kernel_rfl) (by kernel_rfl) (by kernel_rfl) (fun _ _ _ h => h) rfl (Or.inl ⟨by kernel_rfl, fun w hSw => by go_simp⟩) hS ?_)
                  refine wpAnyH_done (by kernel_rfl) ?_ _
                  clear hS
                  go_simp
                  clear hund hq32 e0
                  have HWZ := Lib.hid (HW.out.trans ((HWB.out).mono HW.out.size))
                  have HBN := Lib.hid (HB.out.worse HLJ.out)
                  go_wp2
                  go_roundw
                  case rel => exact ⟨q + 1, (j : Int), HLQ.out, by go_num, rfl, HBN, HWZ⟩
                  case measure => have := HLQ.out; simp [intOf]; omega
            · have HBS : Hid (∀ w', Calls Tryz.prog 38 #[.agg (rs.map bv).toArray, .agg (rq.map bv).toArray] w' fun e w'' => e = .returned (.bool false) ∧ Below w'.heap.size w' w'') := Lib.hid (fun w' => by
                have h := before_any rs rq HSL.out HRL.out w'
                rw [HBS0.out, decide_eq_false (by have := HSE.out; omega)] at h
                exact h)
              have HNQ := Lib.hid htq
              clear htq
              have HSS : Hid (∀ w', Below wr.heap.size wr w' → w'.rangeAt p 0 (rq.map bv) ∧ w'.rangeAt gO (s * 33) (rs.map bv)) := Lib.hid (fun w' hb => ⟨range_below HE1r.out HPLT.out hb, range_below HSR.out.2 HSR.out.1 hb⟩)
              refine wp_region_held_drew (S := fun w' => w'.rangeAt p 0 (rq.map bv) ∧ w'.rangeAt gO (s * 33) (rs.map bv)) (by kernel_rfl) (HSS.out _ (Below.refl _ _).drew) (fun hS => ?_)
              (refine take_at (i := 0) (d := 24) (v := .slice (some ⟨gO, 0, none⟩) t c) rfl (by kernel_rfl) (by kernel_rfl) (by kernel_rfl) (fun _ _ _ h => h) rfl (Or.inl ⟨by kernel_rfl, fun w hSw => by go_simp⟩) hS ?_)
              (refine take_at (i := 1) (d := 25) (v := .int .i64 (t : Int)) rfl (by kernel_rfl) (by kernel_rfl) (by kernel_rfl) (fun _ _ _ h => h) rfl (Or.inl ⟨by kernel_rfl, fun w hSw => by go_simp⟩) hS ?_)
              (refine take_at (i := 2) (d := 26) (v := .bool false) rfl (by kernel_rfl) (by kernel_rfl) (by kernel_rfl) (fun _ _ _ h => h) rfl (Or.inl ⟨by kernel_rfl, fun w hSw => by go_simp⟩) hS ?_)
              (refine take_at (i := 3) (d := 27) (v := .bool false) rfl (by kernel_rfl) (by kernel_rfl) (by kernel_rfl) (fun _ _ _ h => h) rfl (Or.inl ⟨by kernel_rfl, fun w hSw => by go_simp⟩) hS ?_)
              (refine take_at (i := 4) (d := 28) (v := .slice (some ⟨gO, 0, none⟩) t c) rfl (by kernel_rfl) (by kernel_rfl) (by kernel_rfl) (fun _ _ _ h => h) rfl (Or.inl ⟨by kernel_rfl, fun w hSw => by go_simp⟩) hS ?_)
              (refine take_at (i := 5) (d := 29) (v := .slice (some ⟨gO, 0, none⟩) t c) rfl (by kernel_rfl) (by kernel_rfl) (by kernel_rfl) (fun _ _ _ h => h) rfl (Or.inl ⟨by kernel_rfl, fun w hSw => by go_simp⟩) hS ?_)
              (refine take_at (i := 6) (d := 30) (v := .int .i64 (t : Int)) rfl (by kernel_rfl) (by kernel_rfl) (by kernel_rfl) (fun _ _ _ h => h) rfl (Or.inl ⟨by kernel_rfl, fun w hSw => by go_simp⟩) hS ?_)
              (refine take_at (i := 7) (d := 31) (v := .int .i64 (s : Int)) rfl (by kernel_rfl) (by kernel_rfl) (by kernel_rfl) (fun _ _ _ h => h) rfl (Or.inl ⟨by kernel_rfl, fun w hSw => by go_simp⟩) hS ?_)
              (refine take_at (i := 8) (d := 32) (v := .pointer (some ⟨gO, s * 33, none⟩)) rfl (by kernel_rfl) (by kernel_rfl) (by kernel_rfl) (fun _ _ _ h => h) rfl (Or.inl ⟨by kernel_rfl, fun w hSw => by go_simp⟩) hS ?_)
              (refine take_at (i := 9) (d := 33) (v := .pointer (some ⟨gO, s * 33, none⟩)) rfl (by kernel_rfl) (by kernel_rfl) (by kernel_rfl) (fun _ _ _ h => h) rfl (Or.inl ⟨by kernel_rfl, fun w hSw => by go_simp⟩) hS ?_)
              (refine take_at (i := 10) (d := 34) (v := .agg (rs.map bv).toArray) rfl (by kernel_rfl) (by kernel_rfl) (by kernel_rfl) (fun _ _ _ h => h) rfl (yieldsIf_load_mid (by kernel_rfl) 33 (.tmp 33) rfl gO (s * 33) (by kernel_rfl) (rs.map bv) _ (fun w h => h.2) hund rfl hs32) hS ?_)
              (refine take_at (i := 11) (d := 35) (v := .pointer (some ⟨p, 0, none⟩)) rfl (by kernel_rfl) (by kernel_rfl) (by kernel_rfl) (fun _ _ _ h => h) rfl (Or.inl ⟨by kernel_rfl, fun w hSw => by go_simp⟩) hS ?_)
              (refine take_at (i := 12) (d := 36) (v := .pointer (some ⟨p, 0, none⟩)) rfl (by kernel_rfl) (by kernel_rfl) (by kernel_rfl) (fun _ _ _ h => h) rfl (Or.inl ⟨by kernel_rfl, fun w hSw => by go_simp⟩) hS ?_)
              (refine take_at (i := 13) (d := 37) (v := .pointer (some ⟨p, 0, none⟩)) rfl (by kernel_rfl) (by kernel_rfl) (by kernel_rfl) (fun _ _ _ h => h) rfl (Or.inl ⟨by kernel_rfl, fun w hSw => by go_simp⟩) hS ?_)
              (refine take_at (i := 14) (d := 38) (v := .pointer (some ⟨p, 0, none⟩)) rfl (by kernel_rfl) (by kernel_rfl) (by kernel_rfl) (fun _ _ _ h => h) rfl (Or.inl ⟨by kernel_rfl, fun w hSw => by go_simp⟩) hS ?_)
              (refine take_at (i := 15) (d := 39) (v := .agg (rq.map bv).toArray) rfl (by kernel_rfl) (by kernel_rfl) (by kernel_rfl) (fun _ _ _ h => h) rfl (yieldsIf_load_mid (by kernel_rfl) 33 (.tmp 38) rfl p (0) (by kernel_rfl) (rq.map bv) _ (fun w h => h.1) hund rfl hq32) hS ?_)
              refine wpAnyH_ready (rs := [16]) (by decide +kernel) (by simp) (AllReadyH.cons rfl (fun K hK => ?_) AllReadyH.nil)
              go_simp
              (go_at_call 38; (with_reducible refine (HBS.out _).mono ?_); rintro e1 wa ⟨rfl, hba⟩)
              have HWA : Hid (Below wr.heap.size wr wa) := Lib.hid ((Below.refl _ _).drew.trans hba)
              clear hba
              refine hK.out _ _ (HSS.out _ HWA.out) (fun hS => ?_)
              clear hK K
              (try simp only [Act.put])
              (refine take_at (i := 17) (d := 41) (v := .bool false) rfl (by kernel_rfl) (by kernel_rfl) (by kernel_rfl) (fun _ _ _ h => h) rfl (Or.inl ⟨by kernel_rfl, fun w hSw => by go_simp⟩) hS ?_)
              (refine take_at (i := 18) (d := 42) (v := .bool false) rfl (by kernel_rfl) (by kernel_rfl) (by kernel_rfl) (fun _ _ _ h => h) rfl (Or.inl ⟨by kernel_rfl, fun w hSw => by go_simp⟩) hS ?_)
              (refine take_at (i := 19) (d := 43) (v := undef) rfl (by kernel_rfl) (by kernel_rfl) (by kernel_rfl) (fun _ _ _ h => h) rfl (Or.inr ⟨by kernel_rfl, rfl⟩) hS ?_)
              (refine take_at (i := 20) (d := 44) (v := undef) rfl (by kernel_rfl) (by kernel_rfl) (by kernel_rfl) (fun _ _ _ h => h) rfl (Or.inr ⟨by kernel_rfl, rfl⟩) hS ?_)
              (refine take_at (i := 21) (d := 45) (v := undef) rfl (by kernel_rfl) (by kernel_rfl) (by kernel_rfl) (fun _ _ _ h => h) rfl (Or.inr ⟨by kernel_rfl, rfl⟩) hS ?_)
              (refine take_at (i := 22) (d := 46) (v := undef) rfl (by kernel_rfl) (by kernel_rfl) (by kernel_rfl) (fun _ _ _ h => h) rfl (Or.inr ⟨by kernel_rfl, rfl⟩) hS ?_)
              (refine take_at (i := 23) (d := 47) (v := undef) rfl (by kernel_rfl) (by kernel_rfl) (by kernel_rfl) (fun _ _ _ h => h) rfl (Or.inr ⟨by kernel_rfl, rfl⟩) hS ?_)
              (refine take_at (i := 24) (d := 48) (v := undef) rfl (by kernel_rfl) (by kernel_rfl) (by kernel_rfl) (fun _ _ _ h => h) rfl (Or.inr ⟨by kernel_rfl, rfl⟩) hS ?_)
              (refine take_at (i := 25) (d := 49) (v := undef) rfl (by kernel_rfl) (by kernel_rfl) (by kernel_rfl) (fun _ _ _ h => h) rfl (Or.inr ⟨by kernel_rfl, rfl⟩) hS ?_)
              (refine take_at (i := 26) (d := 50) (v := undef) rfl (by kernel_rfl) (by kernel_rfl) (by kernel_rfl) (fun _ _ _ h => h) rfl (Or.inr ⟨by kernel_rfl, rfl⟩) hS ?_)
              (refine take_at (i := 27) (d := 51) (v := undef) rfl (by kernel_rfl) (by kernel_rfl) (by kernel_rfl) (fun _ _ _ h => h) rfl (Or.inr ⟨by kernel_rfl, rfl⟩) hS ?_)
              (refine take_at (i := 28) (d := 52) (v := undef) rfl (by kernel_rfl) (by kernel_rfl) (by kernel_rfl) (fun _ _ _ h => h) rfl (Or.inr ⟨by kernel_rfl, rfl⟩) hS ?_)
              (refine take_at (i := 29) (d := 53) (v := undef) rfl (by kernel_rfl) (by kernel_rfl) (by kernel_rfl) (fun _ _ _ h => h) rfl (Or.inr ⟨by kernel_rfl, rfl⟩) hS ?_)
              (refine take_at (i := 30) (d := 54) (v := undef) rfl (by kernel_rfl) (by kernel_rfl) (by kernel_rfl) (fun _ _ _ h => h) rfl (Or.inr ⟨by kernel_rfl, rfl⟩) hS ?_)
              (refine take_at (i := 31) (d := 55) (v := undef) rfl (by kernel_rfl) (by kernel_rfl) (by kernel_rfl) (fun _ _ _ h => h) rfl (Or.inr ⟨by kernel_rfl, rfl⟩) hS ?_)
              (refine take_at (i := 32) (d := 56) (v := undef) rfl (by kernel_rfl) (by kernel_rfl) (by kernel_rfl) (fun _ _ _ h => h) rfl (Or.inr ⟨by kernel_rfl, rfl⟩) hS ?_)
              (refine take_at (i := 33) (d := 57) (v := undef) rfl (by kernel_rfl) (by kernel_rfl) (by kernel_rfl) (fun _ _ _ h => h) rfl (Or.inr ⟨by kernel_rfl, rfl⟩) hS ?_)
              (refine take_at (i := 34) (d := 58) (v := undef) rfl (by kernel_rfl) (by kernel_rfl) (by kernel_rfl) (fun _ _ _ h => h) rfl (Or.inr ⟨by kernel_rfl, rfl⟩) hS ?_)
              (refine take_at (i := 35) (d := 59) (v := undef) rfl (by kernel_rfl) (by kernel_rfl) (by kernel_rfl) (fun _ _ _ h => h) rfl (Or.inr ⟨by kernel_rfl, rfl⟩) hS ?_)
              (refine take_at (i := 36) (d := 60) (v := undef) rfl (by kernel_rfl) (by kernel_rfl) (by kernel_rfl) (fun _ _ _ h => h) rfl (Or.inr ⟨by kernel_rfl, rfl⟩) hS ?_)
              (refine take_at (i := 37) (d := 61) (v := undef) rfl (by kernel_rfl) (by kernel_rfl) (by kernel_rfl) (fun _ _ _ h => h) rfl (Or.inr ⟨by kernel_rfl, rfl⟩) hS ?_)
              (refine take_at (i := 38) (d := 62) (v := undef) rfl (by kernel_rfl) (by kernel_rfl) (by kernel_rfl) (fun _ _ _ h => h) rfl (Or.inr ⟨by kernel_rfl, rfl⟩) hS ?_)
              (refine take_at (i := 39) (d := 63) (v := undef) rfl (by kernel_rfl) (by kernel_rfl) (by kernel_rfl) (fun _ _ _ h => h) rfl (Or.inr ⟨by kernel_rfl, rfl⟩) hS ?_)
              (refine take_at (i := 40) (d := 64) (v := .bool false) rfl (by kernel_rfl) (by kernel_rfl) (by kernel_rfl) (fun _ _ _ h => h) rfl (Or.inl ⟨by kernel_rfl, fun w hSw => by go_simp⟩) hS ?_)
              refine wpAnyH_done (by kernel_rfl) ?_ _
              clear hS
              go_simp
              clear hund hq32 e0
              have HWZ := Lib.hid (HW.out.trans ((HWA.out).mono HW.out.size))
              have HBN := Lib.hid (HB.out.skip (by have := HNQ.out; omega))
              go_wp2
              go_roundw
              case rel => exact ⟨q + 1, b, HLQ.out, by go_num, rfl, HBN, HWZ⟩
              case measure => have := HLQ.out; simp [intOf]; omega
        · obtain rfl : q = es.length := by omega
          obtain ⟨j, hj, rfl, hjt⟩ := BestI.done HR.out HTX.out HB.out
          have HPI := Lib.hid (HPO.out.call HW.out)
          obtain ⟨g, rfl, hgs, hgc, hcell⟩ := HPI.out.cells hj
          have hcj := hcell j hj
          unfold ptrV at hcj
          have cdb : wr.cell? ⟨db, 0, none⟩ = some (.slice (some ⟨g, 0, none⟩) es.length c0) := HPI.out.ring.cell 0
          obtain ⟨_, a2, ca2, O2, co2, hE2⟩ := HPI.out.ents j hj
          have lk := hE2.key_run
          obtain ⟨r1, r2⟩ := HR.out.root j hj (HR.out.lt j hj)
          have e3 : xs[ρ j]'(HR.out.lt j hj) = xs[t]'HTX.out := by simp only [hjt]
          rw [e3] at r1 r2
          rw [← r1, ← r2] at lk
          have HO2 := HO.out.call HW.out
          obtain ⟨A2, c2, w5, hap, hO5⟩ := HO2.more HTX.out (by rw [HXL.out]; exact hn)
          have hbs : (bsKeys 1 #[(0, .agg (keyV (xs[t]'HTX.out).root (xs[t]'HTX.out).high))]).run Tryz.prog wr = .ok (.slice (some ⟨wr.heap.size, 0, none⟩) 1 1) (wr.alloc (.cells (xs[t]'HTX.out).cells.toArray 37)) := build_one_key (xs[t]'HTX.out).len (xs[t]'HTX.out).high wr
          have HO5 := Lib.hid hO5
          have i3 : (j : Int) < (es.length : Int) := by omega
          have d0 : decide ((0 : Int) ≤ (j : Int)) = true := decide_eq_true (by omega)
          generalize xs[t]'HTX.out = x at *
          generalize ps.getD j 0 = pj at *
          clear hE2 hO5 HO2 r1 r2 e3 hcell hjt hgs
          go_wp2
          go_roundw
          case rel => exact ⟨t + 1, A2, c2, HTL.out, by go_num, rfl, HO5⟩
          case measure => have := HTL.out; simp [intOf]; omega
    · obtain rfl : t = es.length := by omega
      have HO2 := HO.out
      rw [← HXL.out] at HO2
      have HO3 := Lib.hid (And.intro HO2.own HO2.far)
      clear HO2
      go_wp2
      go_ret
      refine ⟨_, rfl, ?_, HO3.out.2⟩
      have h := HO3.out.1
      rw [List.take_length] at h
      rw [← HXL.out]
      exact h
end Go.Proofs.YtojgmdagamdcfaaGreatDoor
