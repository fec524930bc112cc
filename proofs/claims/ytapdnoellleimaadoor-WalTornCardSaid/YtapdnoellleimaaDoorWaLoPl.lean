/-
  WalLoses on plain lists.
-/
import Derived.Test.YtapdnoellleimaaDoorQB
namespace Go.Proofs.YtapdnoellleimaaDoor
open Go.RowKit Go.Maps

/-- What the loop holds: all that was appended, what was synced of it. -/
structure LwInv (X : DX) (al sf : List UInt8) (m : Int) : Prop where
  down : X.down = false
  acts : 0 ≤ X.acts ∧ X.acts ≤ m
  fs : (X.fs = [] ∧ al = [] ∧ sf = []) ∨ ∃ r, al = sf ++ r ∧ X.fs = [⟨LG, al, sf.length⟩]
/-- What is left, whatever happened. -/
def LwFin (X : DX) (al sf : List UInt8) : Prop := (X.fs = [] ∧ sf = []) ∨ ∃ d s r q, X.fs = [⟨LG, d, s⟩] ∧ al = d ++ r ∧ d = sf ++ q ∧ sf.length ≤ s ∧ s ≤ d.length
set_option maxRecDepth 100000 in
theorem LwInv.few {X : DX} {al sf : List UInt8} {m : Int} (h : LwInv X al sf m) (hm : m < 1000000) : X.Few := by
  refine ⟨⟨h.acts.1, by have := h.acts.2; omega⟩, ?_⟩
  rcases h.fs with ⟨e, _⟩ | ⟨r, _, e⟩ <;> rw [e] <;> simp
set_option maxRecDepth 100000 in
theorem LwInv.mono {X : DX} {al sf : List UInt8} {m m' : Int} (h : LwInv X al sf m) (hm : m ≤ m') : LwInv X al sf m' := ⟨h.down, ⟨h.acts.1, Int.le_trans h.acts.2 hm⟩, h.fs⟩
set_option maxRecDepth 100000 in
theorem LwInv.fin {X : DX} {al sf : List UInt8} {m : Int} (h : LwInv X al sf m) : LwFin X al sf := by
  rcases h.fs with ⟨e, _, e2⟩ | ⟨r, e2, e⟩
  · exact .inl ⟨e, e2⟩
  · exact .inr ⟨al, sf.length, [], r, e, by simp, e2, Nat.le_refl _, by rw [e2, List.length_append]; omega⟩
set_option maxRecDepth 100000 in
theorem lose_fin17 {X : DX} {al sf : List UInt8} (h : LwFin X al sf) (k : Int) : LwFin (X.off k) al sf := by
  unfold DX.off
  split
  · exact h
  · rcases h with ⟨e, e2⟩ | ⟨d, s, r, q, e, e2, e3, h1, h2⟩
    · exact .inl ⟨by show X.fs.map (loseF k) = []; rw [e]; rfl, e2⟩
    · have hk := keptF_le (k := k) (f := ⟨LG, d, s⟩) h2
      simp only at hk
      refine .inr ⟨d.take (keptF k ⟨LG, d, s⟩), keptF k ⟨LG, d, s⟩, d.drop (keptF k ⟨LG, d, s⟩) ++ r, q.take (keptF k ⟨LG, d, s⟩ - sf.length), ?_, ?_, ?_, by omega, ?_⟩
      · show X.fs.map (loseF k) = _
        rw [e]
        rfl
      · rw [← List.append_assoc, List.take_append_drop]
        exact e2
      · generalize keptF k ⟨LG, d, s⟩ = K at *
        rw [e3, List.take_append, List.take_of_length_le (by omega)]
      · rw [List.length_take]
        omega
set_option maxRecDepth 100000 in
theorem lw_put {fs : List FX} {al sf : List UInt8} (h : (fs = [] ∧ al = [] ∧ sf = []) ∨ ∃ r, al = sf ++ r ∧ fs = [⟨LG, al, sf.length⟩]) (l : List UInt8) :
    putF fs LG (fun f => ⟨f.name, f.data ++ l, f.safe⟩) = [⟨LG, al ++ l, sf.length⟩] ∧ totF fs = al.length ∧ ∃ r, al ++ l = sf ++ r := by
  rcases h with ⟨rfl, rfl, rfl⟩ | ⟨r, e, rfl⟩
  · exact ⟨rfl, rfl, l, rfl⟩
  · refine ⟨by simp [putF, openF, hasF, updF], by simp [totF], r ++ l, by rw [e, List.append_assoc]⟩
set_option maxRecDepth 100000 in
theorem lw_append {X : DX} {al sf : List UInt8} {m : Int} (h : LwInv X al sf m) (l : List UInt8) (hl : al.length + l.length ≤ 4194304) :
    (∃ Y, X.append LG l = (21, Y) ∧ LwFin Y (al ++ l) sf ∧ Y.acts ≤ m + 1 ∧ 0 ≤ Y.acts) ∨
    (∃ Y, X.append LG l = (0, Y) ∧ LwInv Y (al ++ l) sf (m + 1) ∧ Y.fs = [⟨LG, al ++ l, sf.length⟩]) := by
  obtain ⟨h1, h2, r, h3⟩ := lw_put h.fs l
  have ht : X.takes l.length = 0 := takes_no17 h.down (by rw [h2]; omega)
  have ha : X.append LG l = if X.burns then (21, ((X.put LG fun f => ⟨f.name, f.data ++ l, f.safe⟩).tick).off X.keep) else (0, (X.put LG fun f => ⟨f.name, f.data ++ l, f.safe⟩).tick) := by
    unfold DX.append
    rw [if_neg (by rw [ht]; simp)]
  have hf : (X.put LG fun f => ⟨f.name, f.data ++ l, f.safe⟩).tick.fs = [⟨LG, al ++ l, sf.length⟩] := h1
  have hac : 0 ≤ X.acts + 1 ∧ X.acts + 1 ≤ m + 1 := by have := h.acts; omega
  have hi : LwInv (X.put LG fun f => ⟨f.name, f.data ++ l, f.safe⟩).tick (al ++ l) sf (m + 1) := ⟨h.down, hac, .inr ⟨r, h3, hf⟩⟩
  cases hb : X.burns with
  | true =>
    rw [hb] at ha
    refine .inl ⟨_, ha, lose_fin17 hi.fin _, ?_⟩
    unfold DX.off
    split <;> exact ⟨hac.2, hac.1⟩
  | false =>
    rw [hb] at ha
    exact .inr ⟨_, ha, hi, hf⟩
set_option maxRecDepth 100000 in
theorem lw_sync {X : DX} {al sf : List UInt8} {m : Int} (h : LwInv X al sf m) (hfs : X.fs = [⟨LG, al, sf.length⟩]) (hl : al.length ≤ 4194304) :
    (∃ Y, X.sync LG = (21, Y) ∧ LwFin Y al sf ∧ Y.acts ≤ m + 1 ∧ 0 ≤ Y.acts) ∨
    (∃ Y, X.sync LG = (0, Y) ∧ LwInv Y al al (m + 1)) := by
  have ht : X.takes 0 = 0 := takes_no17 h.down (by rw [hfs]; simp [totF]; omega)
  have ha : X.sync LG = if X.burns then (21, X.tick.off X.keep) else (0, X.tick.put LG fun f => ⟨f.name, f.data, f.data.length⟩) := by
    unfold DX.sync
    rw [if_neg (by rw [ht]; simp)]
  have hac : 0 ≤ X.acts + 1 ∧ X.acts + 1 ≤ m + 1 := by have := h.acts; omega
  have hi : LwInv X.tick al sf (m + 1) := ⟨h.down, hac, h.fs⟩
  cases hb : X.burns with
  | true =>
    rw [hb] at ha
    refine .inl ⟨_, ha, lose_fin17 hi.fin _, ?_⟩
    unfold DX.off
    split <;> exact ⟨hac.2, hac.1⟩
  | false =>
    rw [hb] at ha
    refine .inr ⟨_, ha, h.down, hi.acts, .inr ⟨[], by simp, ?_⟩⟩
    show putF X.fs LG _ = _
    rw [hfs]
    simp [putF, openF, hasF, updF]
set_option maxRecDepth 100000 in
theorem one_install17 {d l : List UInt8} {sf : Nat} {a k : Int} (hl : l.length ≤ 4194304) : (oneX d sf false a 0 k).install LG l = (0, oneX l l.length false (a + 1) 0 k) := by
  have ht : (oneX d sf false a 0 k).takes ((l.length : Int) - (d.length : Int)) = 0 := one_takes (by omega)
  have hb : (oneX d sf false a 0 k).burns = false := rfl
  have hz : sizeF (oneX d sf false a 0 k).fs LG = d.length := rfl
  unfold DX.install
  rw [hz, if_neg (by rw [ht]; simp), hb, if_neg (by simp)]
  have hp := one_put d sf (fun _ => ⟨LG, l, l.length⟩)
  unfold DX.put DX.tick
  simp only [hp]
  rfl
set_option maxRecDepth 100000 in
/-- A log is opened, and once more. -/
theorem wopen_twice {d : List UInt8} {s : Nat} {a k : Int} (hd : d.length ≤ 4194304) :
    ∃ s' a', (oneX d s false a 0 k).wopen LG = (0, splitB d, oneX (framesB (splitB d)) s' false a' 0 k) ∧ (a' = a + 1 ∨ a' = a + 2) := by
  have hle := splitB_len d
  by_cases h : (framesB (splitB d)).length < d.length
  · have hi := one_install17 (d := d) (l := framesB (splitB d)) (sf := s) (a := a) (k := k) (by omega)
    have hs := one_sync (d := framesB (splitB d)) (sf := (framesB (splitB d)).length) (a := a + 1) (f := 0) (k := k) (by decide) (by omega)
    refine ⟨(framesB (splitB d)).length, a + 1 + 1, ?_, .inr (by omega)⟩
    unfold DX.wopen
    rw [one_read]
    simp only
    rw [if_neg (by decide), if_neg (by simp), if_pos h, hi]
    simp only
    rw [if_neg (by simp), hs]
    rfl
  · have he : framesB (splitB d) = d := splitB_whole (by omega)
    refine ⟨d.length, a + 1, ?_, .inl rfl⟩
    rw [one_open (by decide) hd he, he]
    rfl
set_option maxRecDepth 100000 in
/-- What is found behind a loss. -/
theorem lw_end {X : DX} {xs : List (List UInt8)} {m sv : Nat} (hm : m ≤ xs.length) (hs : sv ≤ m) (hx : ∀ x ∈ xs, x.length < 4294967296) (h : LwFin X (framesB (xs.take m)) (framesB (xs.take sv))) (hl : (framesB xs).length ≤ 4194304) (ha : 0 ≤ X.acts ∧ X.acts ≤ 1000) (k : Int) :
    ∃ j Y1 Y2, (((X.off k).on).arm 0 0).wopen LG = (0, xs.take j, Y1) ∧ Y1.wopen LG = (0, xs.take j, Y2) ∧ sv ≤ j ∧ j ≤ m ∧ (((X.off k).on).arm 0 0).Room 2 ∧ Y1.Room 2 := by
  have h2 := lose_fin17 h k
  have hac : (X.off k).acts = X.acts := by unfold DX.off; split <;> rfl
  have hxm : ∀ x ∈ xs.take m, x.length < 4294967296 := fun x hx2 => hx x (List.mem_of_mem_take hx2)
  have hlm : (framesB (xs.take m)).length ≤ 4194304 := by
    have e : framesB xs = framesB (xs.take m) ++ framesB (xs.drop m) := by rw [← framesB_app, List.take_append_drop]
    rw [e, List.length_append] at hl
    omega
  generalize X.off k = Z at *
  rcases h2 with ⟨e, e2⟩ | ⟨d, s, r, q, e, e2, e3, _, _⟩
  · have hz : sv = 0 := by
      have h3 := framesB_count (xs.take sv)
      rw [e2, List.length_take, List.length_nil] at h3
      omega
    have hY : (Z.on).arm 0 0 = ⟨[], false, Z.acts, 0, 0⟩ := by
      show (⟨Z.fs, false, Z.acts, max 0 0, 0⟩ : DX) = _
      rw [e]
      rfl
    rw [hY]
    exact ⟨0, _, _, new_open LG Z.acts 0 0, new_open LG Z.acts 0 0, by omega, Nat.zero_le _, ⟨by show 0 ≤ Z.acts ∧ Z.acts + 2 < 1000000; omega, by show 0 + 2 < 1000000; decide⟩, ⟨by show 0 ≤ Z.acts ∧ Z.acts + 2 < 1000000; omega, by show 0 + 2 < 1000000; decide⟩⟩
  · have hY : (Z.on).arm 0 0 = oneX d s false Z.acts 0 0 := by
      show (⟨Z.fs, false, Z.acts, max 0 0, 0⟩ : DX) = _
      rw [e]
      rfl
    rw [hY]
    have hdt : d = (framesB (xs.take m)).take d.length := by rw [e2, List.take_left' rfl]
    have hdl : d.length ≤ 4194304 := by
      rw [e2, List.length_append] at hlm
      omega
    obtain ⟨j, hj, hsp, hjm⟩ := splitB_cut (xs.take m) hxm d.length
    rw [← hdt] at hsp
    rw [List.length_take] at hj
    have htk : (xs.take m).take j = xs.take j := by rw [List.take_take, Nat.min_eq_left (by omega)]
    rw [htk] at hsp
    have hsj : sv ≤ j := by
      apply hjm sv (by rw [List.length_take]; omega)
      rw [List.take_take, Nat.min_eq_left hs]
      rw [e3, List.length_append]
      omega
    obtain ⟨s1, a1, ho1, ha1⟩ := wopen_twice (s := s) (a := Z.acts) (k := 0) hdl
    obtain ⟨s2, a2, ho2, _⟩ := wopen_twice (d := framesB (splitB d)) (s := s1) (a := a1) (k := 0) (Nat.le_trans (splitB_len d) hdl)
    rw [splitB_again] at ho2
    rw [hsp] at ho1 ho2
    exact ⟨j, _, _, ho1, ho2, hsj, by omega, one_room _ _ _ _ _ _ 2 (by omega) (by decide), one_room _ _ _ _ _ _ 2 (by omega) (by decide)⟩
set_option maxRecDepth 100000 in
theorem frT_map (ts : List TX) (k : Nat) : frT ts k = framesB ((ts.map TX.l).take k) := by unfold frT; rw [List.map_take]
set_option maxRecDepth 100000 in
theorem convs17 {w : World} {A : Option Addr} {l : List UInt8} {B : Nat} (h : Sees w B A (l.map bv)) (c : Nat) : ∀ q, (convert 22 9 (.slice A l.length c)).run Tryd.prog (w.drewN q) = .ok (str l) (w.drewN q) := fun q =>
  bytes_conv17 (Sees.keep (w' := w.drewN q) h (fun _ _ => rfl)) c
set_option maxRecDepth 100000 in
/-- One record is appended. -/
theorem lgappend_one {w0 w : World} {base p q : Nat} {X : DX} {s : List UInt8} (h : DkC w0 w base p X) (hq : LogW w q p s) (hb : base = w0.heap.size) (hR : Roots w0) (A : Option Addr) (l : List UInt8) (n c : Nat) (hn : n = l.length) (hs : s.length ≤ maxLen) (hf : X.Few) (hl : l.length ≤ 1000000) (ht : Sees w w.heap.size A (l.map bv)) (e0 : Int) (Y : DX) (hZ : X.append s (frameB l) = (e0, Y)) :
    Calls Tryd.prog 16 #[.pointer (some ⟨q, 0, none⟩), .slice (some ⟨w.heap.size, 0, none⟩) 1 1] (w.alloc (.cells #[.slice A n c] 22)) fun e w' => e = .returned (.int .i64 e0) ∧ DkC w0 w' base p Y ∧ LogW w' q p s ∧ Bt true base w w' := by
  subst hn
  have hbC : Below w.heap.size w (w.alloc (.cells #[.slice A l.length c] 22)) := (Below.refl _ _).alloc (Nat.le_refl _) _
  have hC3 := TK_lit (w := w) (wr := w.alloc (.cells #[.slice A l.length c] 22)) [⟨A, l, c⟩] (Below.refl _ _) (by simp)
  have hfr : framesB (([⟨A, l, c⟩] : List TX).map TX.l) = frameB l := by simp [framesB]
  refine (lgappend_c (h.call hbC) (hq.call hbC) hb hR [⟨A, l, c⟩] (some ⟨w.heap.size, 0, none⟩) 1 1 rfl hs hf (by rw [hfr, frameB_len]; omega) hC3 (by
    intro t ht2
    rw [List.mem_singleton.1 ht2]
    exact (ht.below hbC).more hbC.size) e0 Y (by rw [hfr]; exact hZ)).mono ?_
  rintro e w' ⟨he, hd, hbt⟩
  exact ⟨he, hd, (hq.call hbC).bt hbt, (bt_call hbC h.size).trans hbt⟩
end Go.Proofs.YtapdnoellleimaaDoor
