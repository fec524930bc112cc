/-
  A log's records as bytes, on plain lists.
  wal.record: a record's bytes.
  Records in memory; bytes.HasPrefix; a scope with several labels.
  wal.split.
  wal.split: its walk.
  wal.join: the bytes of records.
-/
import Derived.Test.YtapdnoellleimaaDoorKRdPlain
import Derived.Test.YtapdnoellleimaaDoorSD
import Derived.Test.YtapdnoellleimaaDoorPA
import Derived.Test.YtapdnoellleimaaDoorOC
import Derived.Test.YtapdnoellleimaaDoorSA
import Derived.Test.YtapdnoellleimaaDoorWr
import Derived.Test.YtapdnoellleimaaDoorPB
import Derived.Test.YtapdnoellleimaaDoorRd
import Derived.Test.YtapdnoellleimaaDoorTG
import Derived.ScopeJumps
import Derived.BigQuiet
namespace Go.Proofs.YtapdnoellleimaaDoor
open Go.RowKit

def txB (x : List UInt8) : List UInt8 := beBytes 4 x.length ++ x
def frameB (x : List UInt8) : List UInt8 := (shaOf (txB x)).take 8 ++ txB x
def framesB (xs : List (List UInt8)) : List UInt8 := xs.flatMap frameB
/-- The record that stands at the beginning. -/
def headR (s : List UInt8) : Option (List UInt8) :=
  if 12 ≤ s.length ∧ 12 + beNat ((s.drop 8).take 4) ≤ s.length ∧ frameB ((s.drop 12).take (beNat ((s.drop 8).take 4))) = s.take (12 + beNat ((s.drop 8).take 4)) then some ((s.drop 12).take (beNat ((s.drop 8).take 4))) else none
def splitN : Nat → List UInt8 → List (List UInt8)
  | 0, _ => []
  | n + 1, s => match headR s with
    | some x => x :: splitN n (s.drop (12 + x.length))
    | none => []
set_option maxRecDepth 100000 in
theorem splitN_succ (n : Nat) (s : List UInt8) : splitN (n + 1) s = match headR s with
    | some x => x :: splitN n (s.drop (12 + x.length))
    | none => [] := rfl
def splitB (s : List UInt8) : List (List UInt8) := splitN s.length s

set_option maxRecDepth 100000 in
theorem txB_len (x : List UInt8) : (txB x).length = 4 + x.length := by unfold txB; rw [List.length_append, beBytes_length]
set_option maxRecDepth 100000 in
theorem seal_len (x : List UInt8) : ((shaOf (txB x)).take 8).length = 8 := by
  rw [List.length_take]
  have h : (shaOf (txB x)).length = 32 := rfl
  omega
set_option maxRecDepth 100000 in
theorem frameB_len (x : List UInt8) : (frameB x).length = 12 + x.length := by
  unfold frameB
  rw [List.length_append, seal_len, txB_len]
  omega
set_option maxRecDepth 100000 in
theorem framesB_cons (x : List UInt8) (xs : List (List UInt8)) : framesB (x :: xs) = frameB x ++ framesB xs := rfl
set_option maxRecDepth 100000 in
theorem framesB_app (xs ys : List (List UInt8)) : framesB (xs ++ ys) = framesB xs ++ framesB ys := by unfold framesB; rw [List.flatMap_append]
set_option maxRecDepth 100000 in
theorem framesB_count (xs : List (List UInt8)) : 12 * xs.length ≤ (framesB xs).length := by
  induction xs with
  | nil => exact Nat.zero_le _
  | cons x r ih =>
    rw [framesB_cons, List.length_append, frameB_len, List.length_cons]
    omega
set_option maxRecDepth 100000 in
theorem frameB_8 (x r : List UInt8) : (frameB x ++ r).drop 8 = txB x ++ r := by
  unfold frameB
  rw [List.append_assoc, List.drop_left' (seal_len x)]
set_option maxRecDepth 100000 in
theorem frameB_12 (x r : List UInt8) : (frameB x ++ r).drop 12 = x ++ r := by
  have h : (frameB x ++ r).drop 12 = ((frameB x ++ r).drop 8).drop 4 := by rw [List.drop_drop]
  rw [h, frameB_8]
  unfold txB
  rw [List.append_assoc, List.drop_left' (beBytes_length _ _)]
set_option maxRecDepth 100000 in
theorem frameB_num (x r : List UInt8) (hx : x.length < 4294967296) : beNat (((frameB x ++ r).drop 8).take 4) = x.length := by
  rw [frameB_8]
  unfold txB
  rw [List.append_assoc, List.take_left' (beBytes_length _ _), kbeNat_beBytes]
  exact Nat.mod_eq_of_lt hx
set_option maxRecDepth 100000 in
theorem headR_some {s x : List UInt8} (h : headR s = some x) : ∃ r, s = frameB x ++ r ∧ x.length < 4294967296 := by
  unfold headR at h
  split at h
  case isTrue hc =>
    obtain ⟨h1, h2, h3⟩ := hc
    injection h with h
    have hl : x.length = beNat ((s.drop 8).take 4) := by
      rw [← h, List.length_take, List.length_drop]
      omega
    rw [h] at h3
    refine ⟨s.drop (12 + beNat ((s.drop 8).take 4)), by rw [h3, List.take_append_drop], ?_⟩
    rw [hl]
    exact beNat_lt4 _ (by rw [List.length_take]; omega)
  case isFalse => cases h
set_option maxRecDepth 100000 in
theorem headR_frame (x r : List UInt8) (hx : x.length < 4294967296) : headR (frameB x ++ r) = some x := by
  unfold headR
  rw [frameB_num x r hx, frameB_12]
  have h1 : (x ++ r).take x.length = x := List.take_left' rfl
  rw [h1]
  have h2 : (frameB x ++ r).take (12 + x.length) = frameB x := List.take_left' (frameB_len x)
  rw [h2, if_pos ⟨by rw [List.length_append, frameB_len]; omega, by rw [List.length_append, frameB_len]; omega, rfl⟩]
set_option maxRecDepth 100000 in
theorem frame_drop (x r : List UInt8) : (frameB x ++ r).drop (12 + x.length) = r := List.drop_left' (frameB_len x)
set_option maxRecDepth 100000 in
theorem splitN_more : ∀ (n m : Nat) (s : List UInt8), s.length ≤ n → s.length ≤ m → splitN n s = splitN m s
  | 0, 0, _, _, _ => rfl
  | 0, m + 1, s, h, _ => by
    obtain rfl : s = [] := List.eq_nil_of_length_eq_zero (by omega)
    rfl
  | n + 1, 0, s, _, h => by
    obtain rfl : s = [] := List.eq_nil_of_length_eq_zero (by omega)
    rfl
  | n + 1, m + 1, s, h1, h2 => by
    show (match headR s with | some x => x :: splitN n (s.drop (12 + x.length)) | none => []) = (match headR s with | some x => x :: splitN m (s.drop (12 + x.length)) | none => [])
    cases e : headR s with
    | none => rfl
    | some x =>
      obtain ⟨r, rfl, _⟩ := headR_some e
      simp only
      rw [frame_drop]
      rw [List.length_append, frameB_len] at h1 h2
      rw [splitN_more n m r (by omega) (by omega)]
set_option maxRecDepth 100000 in
theorem splitB_none {s : List UInt8} (h : headR s = none) : splitB s = [] := by
  unfold splitB
  cases s with
  | nil => rfl
  | cons a r =>
    show (match headR (a :: r) with | some x => x :: splitN r.length ((a :: r).drop (12 + x.length)) | none => []) = []
    rw [h]
set_option maxRecDepth 100000 in
theorem splitB_frame (x r : List UInt8) (hx : x.length < 4294967296) : splitB (frameB x ++ r) = x :: splitB r := by
  unfold splitB
  have hl : (frameB x ++ r).length = (11 + x.length + r.length) + 1 := by rw [List.length_append, frameB_len]; omega
  rw [hl, splitN_succ, headR_frame x r hx]
  simp only
  rw [frame_drop, splitN_more _ r.length r (by omega) (Nat.le_refl _)]
set_option maxRecDepth 100000 in
theorem splitB_frames (xs : List (List UInt8)) (r : List UInt8) (hx : ∀ x ∈ xs, x.length < 4294967296) : splitB (framesB xs ++ r) = xs ++ splitB r := by
  induction xs with
  | nil => rfl
  | cons x xs ih =>
    rw [framesB_cons, List.append_assoc, splitB_frame x _ (hx x (by simp)), ih (fun y hy => hx y (by simp [hy]))]
    rfl
set_option maxRecDepth 100000 in
theorem splitB_nil : splitB [] = [] := rfl
set_option maxRecDepth 100000 in
theorem splitB_all (xs : List (List UInt8)) (hx : ∀ x ∈ xs, x.length < 4294967296) : splitB (framesB xs) = xs := by
  have h := splitB_frames xs [] hx
  rw [List.append_nil, splitB_nil, List.append_nil] at h
  exact h
set_option maxRecDepth 100000 in
theorem splitB_pre (s : List UInt8) : ∃ r, s = framesB (splitB s) ++ r ∧ headR r = none ∧ ∀ x ∈ splitB s, x.length < 4294967296 := by
  suffices h : ∀ (n : Nat) (s : List UInt8), s.length ≤ n → ∃ r, s = framesB (splitB s) ++ r ∧ headR r = none ∧ ∀ x ∈ splitB s, x.length < 4294967296 from h s.length s (Nat.le_refl _)
  intro n
  induction n with
  | zero =>
    intro s h
    obtain rfl : s = [] := List.eq_nil_of_length_eq_zero (by omega)
    exact ⟨[], rfl, rfl, fun x hx => by cases hx⟩
  | succ n ih =>
    intro s h
    cases e : headR s with
    | none =>
      rw [splitB_none e]
      exact ⟨s, rfl, e, fun x hx => by cases hx⟩
    | some x =>
      obtain ⟨r, rfl, hx⟩ := headR_some e
      rw [List.length_append, frameB_len] at h
      obtain ⟨q, h1, h2, h3⟩ := ih r (by omega)
      refine ⟨q, ?_, h2, ?_⟩
      · rw [splitB_frame x r hx, framesB_cons, List.append_assoc, ← h1]
      · rw [splitB_frame x r hx]
        intro y hy
        rcases List.mem_cons.1 hy with rfl | hy
        · exact hx
        · exact h3 y hy
set_option maxRecDepth 100000 in
theorem splitB_len (s : List UInt8) : (framesB (splitB s)).length ≤ s.length := by
  obtain ⟨r, h, _⟩ := splitB_pre s
  conv => rhs; rw [h]
  rw [List.length_append]
  omega
set_option maxRecDepth 100000 in
theorem splitB_take (s : List UInt8) : s.take (framesB (splitB s)).length = framesB (splitB s) := by
  obtain ⟨r, h, _⟩ := splitB_pre s
  conv => lhs; arg 2; rw [h]
  exact List.take_left' rfl
set_option maxRecDepth 100000 in
theorem splitB_whole {s : List UInt8} (h : (framesB (splitB s)).length = s.length) : framesB (splitB s) = s := by
  have := splitB_take s
  rw [h, List.take_length] at this
  exact this.symm
set_option maxRecDepth 100000 in
theorem splitB_again (s : List UInt8) : splitB (framesB (splitB s)) = splitB s := by
  obtain ⟨_, _, _, h⟩ := splitB_pre s
  exact splitB_all _ h
set_option maxRecDepth 100000 in
/-- A record that is cut is none. -/
theorem headR_cut (x r : List UInt8) (hx : x.length < 4294967296) (k : Nat) (hk : k < 12 + x.length) : headR ((frameB x ++ r).take k) = none := by
  unfold headR
  rw [if_neg]
  rintro ⟨h1, h2, _⟩
  rw [List.length_take] at h1 h2
  have h3 : ((((frameB x ++ r).take k).drop 8).take 4) = ((frameB x ++ r).drop 8).take 4 := by
    rw [List.drop_take, List.take_take, Nat.min_eq_left (by omega)]
  rw [h3, frameB_num x r hx] at h2
  omega
set_option maxRecDepth 100000 in
/-- Of records' bytes that are cut the first ones are left. -/
theorem splitB_cut (xs : List (List UInt8)) (hx : ∀ x ∈ xs, x.length < 4294967296) (k : Nat) : ∃ j, j ≤ xs.length ∧ splitB ((framesB xs).take k) = xs.take j ∧ ∀ i, i ≤ xs.length → (framesB (xs.take i)).length ≤ k → i ≤ j := by
  induction xs generalizing k with
  | nil => exact ⟨0, Nat.le_refl _, by simp [framesB, splitB_nil], fun i hi _ => hi⟩
  | cons x xs ih =>
    have hx0 := hx x (by simp)
    by_cases hk : k < 12 + x.length
    · refine ⟨0, Nat.zero_le _, ?_, fun i hi h => ?_⟩
      · rw [framesB_cons, splitB_none (headR_cut x _ hx0 k hk)]
        rfl
      · cases i with
        | zero => exact Nat.le_refl _
        | succ i =>
          rw [List.take_succ_cons, framesB_cons, List.length_append, frameB_len] at h
          omega
    · obtain ⟨j, h1, h2, h3⟩ := ih (fun y hy => hx y (by simp [hy])) (k - (12 + x.length))
      refine ⟨j + 1, by simp; omega, ?_, fun i hi h => ?_⟩
      · rw [framesB_cons, List.take_append, frameB_len, List.take_of_length_le (by rw [frameB_len]; omega), splitB_frame x _ hx0, h2]
        rfl
      · cases i with
        | zero => omega
        | succ i =>
          rw [List.take_succ_cons, framesB_cons, List.length_append, frameB_len] at h
          have := h3 i (by simpa using hi) (by omega)
          omega

/-! ### A log upon a disk -/
def DX.wopen (X : DX) (s : List UInt8) : Int × List (List UInt8) × DX :=
  if (X.read s).2 = 7 then (0, [], X) else if (X.read s).2 ≠ 0 then ((X.read s).2, [], X) else
    let I : Int × DX := if (framesB (splitB (X.read s).1)).length < (X.read s).1.length then X.install s (framesB (splitB (X.read s).1)) else (0, X)
    if I.1 ≠ 0 then (I.1, [], I.2) else if (I.2.sync s).1 ≠ 0 then ((I.2.sync s).1, [], (I.2.sync s).2) else (0, splitB (X.read s).1, (I.2.sync s).2)
/-- So many calls can be made. -/
structure DX.Room (X : DX) (n : Nat) : Prop where
  acts : 0 ≤ X.acts ∧ X.acts + n < 1000000
  fs : X.fs.length + n < 1000000
set_option maxRecDepth 100000 in
theorem DX.Room.few {X : DX} {n : Nat} (h : X.Room n) : X.Few := ⟨⟨h.acts.1, by have := h.acts.2; omega⟩, by have := h.fs; omega⟩
set_option maxRecDepth 100000 in
theorem DX.Room.less {X : DX} {n m : Nat} (h : X.Room n) (hm : m ≤ n) : X.Room m := ⟨⟨h.acts.1, by have := h.acts.2; omega⟩, by have := h.fs; omega⟩
set_option maxRecDepth 100000 in
theorem openF_len (fs : List FX) (s : List UInt8) : (openF fs s).length ≤ fs.length + 1 := by
  unfold openF
  split
  · omega
  · simp
set_option maxRecDepth 100000 in
theorem putF_len (fs : List FX) (s : List UInt8) (g : FX → FX) : (putF fs s g).length ≤ fs.length + 1 := by
  unfold putF updF
  rw [List.length_map]
  exact openF_len fs s
set_option maxRecDepth 100000 in
theorem DX.Room.off {X : DX} {n : Nat} (h : X.Room n) (k : Int) : (X.off k).Room n := by
  unfold DX.off
  split
  · exact h
  · exact ⟨h.acts, by show (X.fs.map (loseF k)).length + n < _; rw [List.length_map]; exact h.fs⟩
set_option maxRecDepth 100000 in
theorem DX.Room.tick {X : DX} {n : Nat} (h : X.Room (n + 1)) : X.tick.Room n := ⟨⟨by have := h.acts.1; show 0 ≤ X.acts + 1; omega, by have := h.acts.2; show X.acts + 1 + n < _; omega⟩, by have := h.fs; show X.fs.length + n < _; omega⟩
set_option maxRecDepth 100000 in
theorem DX.Room.tput {X : DX} {n : Nat} (h : X.Room (n + 1)) (s : List UInt8) (g : FX → FX) : (X.put s g).tick.Room n :=
  ⟨⟨by have := h.acts.1; show 0 ≤ X.acts + 1; omega, by have := h.acts.2; show X.acts + 1 + n < _; omega⟩, by have := h.fs; have := putF_len X.fs s g; show (putF X.fs s g).length + n < _; omega⟩
set_option maxRecDepth 100000 in
theorem DX.Room.append {X : DX} {n : Nat} (h : X.Room (n + 1)) (s l : List UInt8) : (X.append s l).2.Room n := by
  unfold DX.append
  split
  · exact h.less (by omega)
  · split
    · exact (h.tput s _).off _
    · exact h.tput s _
set_option maxRecDepth 100000 in
theorem DX.Room.sync {X : DX} {n : Nat} (h : X.Room (n + 1)) (s : List UInt8) : (X.sync s).2.Room n := by
  unfold DX.sync
  split
  · exact h.less (by omega)
  · split
    · exact h.tick.off _
    · exact h.tput s _
set_option maxRecDepth 100000 in
theorem DX.Room.install {X : DX} {n : Nat} (h : X.Room (n + 1)) (s l : List UInt8) : (X.install s l).2.Room n := by
  unfold DX.install
  split
  · exact h.less (by omega)
  · split
    · exact h.tick.off _
    · exact h.tput s _
set_option maxRecDepth 100000 in
theorem DX.Room.on {X : DX} {n : Nat} (h : X.Room n) : X.on.Room n := ⟨h.acts, h.fs⟩
set_option maxRecDepth 100000 in
theorem DX.Room.arm {X : DX} {n : Nat} (h : X.Room n) (a k : Int) : (X.arm a k).Room n := ⟨h.acts, h.fs⟩
set_option maxRecDepth 100000 in
theorem DX.Room.wopen {X : DX} {n : Nat} (h : X.Room (n + 2)) (s : List UInt8) : (X.wopen s).2.2.Room n := by
  have h0 : X.Room (n + 1) := h.less (by omega)
  unfold DX.wopen
  split
  · exact h.less (by omega)
  · split
    · exact h.less (by omega)
    · have hI : (if (framesB (splitB (X.read s).1)).length < (X.read s).1.length then X.install s (framesB (splitB (X.read s).1)) else (0, X)).2.Room (n + 1) := by
        split
        · exact DX.Room.install h s _
        · exact h0
      revert hI
      generalize (if (framesB (splitB (X.read s).1)).length < (X.read s).1.length then X.install s (framesB (splitB (X.read s).1)) else (0, X)) = I
      intro hI
      show (if I.1 ≠ 0 then (I.1, [], I.2) else if (I.2.sync s).1 ≠ 0 then ((I.2.sync s).1, [], (I.2.sync s).2) else (0, splitB (X.read s).1, (I.2.sync s).2) : Int × List (List UInt8) × DX).2.2.Room n
      split
      · exact hI.less (by omega)
      · split
        · exact hI.sync s
        · exact hI.sync s
end Go.Proofs.YtapdnoellleimaaDoor

namespace Go.Proofs.YtapdnoellleimaaDoor
open Go.RowKit Go.Maps

set_option maxRecDepth 100000 in
theorem txB_text (l : List UInt8) : textBytes ⟨l.toArray⟩ = txB l := by
  unfold textBytes txB
  have hs : (⟨l.toArray⟩ : ByteArray).size = l.length := by simp [ByteArray.size]
  rw [hs]
set_option maxRecDepth 100000 in
theorem bytes_conv17 {w : World} {B : Nat} {A : Option Addr} {l : List UInt8} (h : Sees w B A (l.map bv)) (c : Nat) : (convert 22 9 (.slice A l.length c)).run Tryd.prog w = .ok (str l) w :=
  convert_sees (P := Tryd.prog) 22 5 9 Tryd.underlying22 Tryd.underlying5 Tryd.underlying9 h c

set_option maxRecDepth 100000 in
theorem of_one17 (T : List UInt8) (g : Nat) (w : World) (hp : Pieces w w.heap.size (some ⟨g, 0, none⟩) [T]) (hl : T.length < 1152921504606846976) (hR : Roots w) :
    Calls Tryd.prog 68 #[.slice (some ⟨g, 0, none⟩) 1 1] w fun e w' => e = .returned (.agg ((shaOf T).map bv).toArray) ∧ Below w.heap.size w w' := by
  have h := of_any [T] (some ⟨g, 0, none⟩) 1 w hp (by simp) (by simpa using hl) hR
  simp only [List.flatten_cons, List.flatten_nil, List.append_nil] at h
  exact h

set_option maxRecDepth 100000 in
/-- append onto a slice without room: a row of its own. -/
theorem grow17 {w : World} {b ad : Addr} {n m c : Nat} {xs es : List UInt8} (hn : n = xs.length) (hx : ∀ j u, (xs.map bv)[j]? = some u → w.cell? (b.add j) = some u) (hm : m = es.length) (hp : 0 < m) (he : ∀ j u, (es.map bv)[j]? = some u → w.cell? (ad.add j) = some u) (hl : n + m ≤ 70368744177664) :
    ∃ c2 w', (apAll #[22, 22] 22 #[.slice (some b) n n, .slice (some ad) m c]).run Tryd.prog w = .ok (.slice (some ⟨w.heap.size, 0, none⟩) (xs ++ es).length c2) w' ∧ DB.Own w' w.heap.size (.slice (some ⟨w.heap.size, 0, none⟩) (xs ++ es).length c2) (xs ++ es) ∧ Below w.heap.size w w' := by
  obtain ⟨i0, hi0, hz0, hz1, hz2⟩ := info_parts DB.info
  have hi1 : Tryd.prog.info? 5 = some i0 := hi0
  have hu1 : Tryd.prog.underlying 22 = some (.slice 5) := DB.und
  have h2 : i0.size = 1 := hz1
  have h3 : i0.bytes = 1 := hz2
  have hmx : n + m ≤ maxLen := by unfold maxLen; omega
  have hr := run_append_grow (P := Tryd.prog) w 22 22 5 i0 _ hu1 hi1 hz0 b n n (xs.map bv) (by rw [h2, List.length_map, hn, Nat.mul_one]) hx ad m c (es.map bv) (by rw [h2, List.length_map, hm, Nat.mul_one]) he (by omega) (by omega) (growslice_fits (by omega) (by rw [h3]; omega))
  have hge := grownCap_ge w (n + m) n 5
  have hcm := grownCap_le_maxLen w (n + m) n 5 hmx
  have hlen : (xs ++ es).length = n + m := by rw [List.length_append, hn, hm]
  rw [hlen]
  have key : ∀ (W : World) (v : Value), W.ownsRow w.heap.size 5 1 v (n + m) (DB.flat (xs ++ es)) → DB.Own W w.heap.size v (xs ++ es) := fun W v h => by
    show W.ownsRow w.heap.size 5 1 v (xs ++ es).length (DB.flat (xs ++ es))
    rw [hlen]
    exact h
  refine ⟨_, _, hr, key _ _ ?_, ((Below.refl _ _).drew).alloc (Nat.le_refl _) _⟩
  have hlen2 : ((xs.map bv).toArray ++ (es.map bv).toArray).size = n + m := by simp [hn, hm]
  rw [DB_flat]
  refine ⟨by rw [List.length_map, hlen, Nat.mul_one], .inr ⟨w.heap.size, _, _, rfl, Nat.le_refl _, heap_alloc_new w.drew _, hge, hcm, ?_, ?_⟩⟩
  · rw [Array.size_append, hlen2, size_zeroCells]
    have hz : DB.z.cells.size = 1 := DB.hzs
    rw [hz]
    omega
  · simp only [Array.toList_append, List.map_append]
    exact List.take_left' (by simp [hn, hm])

section
attribute [local go_sem ↓] apAll_def stDigest_def
set_option maxRecDepth 100000 in
set_option maxHeartbeats 2000000 in
theorem record_any (l : List UInt8) (A : Option Addr) (c : Nat) (hl : l.length ≤ 1000000000) (w : World) (hS : Sees w w.heap.size A (l.map bv)) (hR : Roots w) :
    Calls Tryd.prog 56 #[.slice A l.length c] w fun e w' => ∃ A' c', e = .returned (.slice A' (frameB l).length c') ∧ DB.Own w' w.heap.size (.slice A' (frameB l).length c') (frameB l) ∧ Below w.heap.size w w' := by
  obtain ⟨w1, hw1⟩ : ∃ w1, w1 = w.alloc (.cells #[.slice none 0 0] 106) := ⟨_, rfl⟩
  have hF1 : Below w.heap.size w w1 := by rw [hw1]; exact (Below.refl _ _).alloc (Nat.le_refl _) _
  have hW1 : Wr w1 w.heap.size w.heap.size [] := by rw [hw1]; exact wr_new (Box.made _ _ _) (Nat.le_refl _)
  have hcv := bytes_conv17 ((hS.below hF1).more hF1.size) c
  obtain ⟨w2, hw2⟩ : ∃ w2, w2 = w1.alloc (.cells #[str l] 9) := ⟨_, rfl⟩
  have hF2 : Below w1.heap.size w1 w2 := by rw [hw2]; exact (Below.refl _ _).alloc (Nat.le_refl _) _
  have hW2 := hW1.below_size hF2
  have hx : Box w2 w1.heap.size 9 #[str l] := by rw [hw2]; exact Box.made _ _ _
  have hss : (⟨l.toArray⟩ : ByteArray).size = l.length := by simp [ByteArray.size]
  have HN := wtext_any w.heap.size w.heap.size (some ⟨w1.heap.size, 0, none⟩) [⟨l.toArray⟩] 1 [] w2 hW2 (Src.of_box hW2 hx (by decide) (by decide)) (by
    simp only [List.flatMap_cons, List.flatMap_nil, List.append_nil, textBytes_len, hss, List.length_nil]
    omega) (by simp)
  have he : ([] : List UInt8) ++ [(⟨l.toArray⟩ : ByteArray)].flatMap textBytes = txB l := by
    simp only [List.flatMap_cons, List.flatMap_nil, List.append_nil, List.nil_append]
    exact txB_text l
  rw [he] at HN
  have HF2 := Lib.hid (hF1.trans (hF2.mono hF1.size))
  have HW2 := Lib.hid hW2
  have HNN : Hid (Calls Tryd.prog 66 #[.pointer (some ⟨w.heap.size, 0, none⟩), .slice (some ⟨w1.heap.size, 0, none⟩) 1 1] w2 fun e w' => e = .returned (.tuple #[]) ∧ Wr w' w.heap.size w.heap.size (txB l) ∧ WF w.heap.size w2 w') := Lib.hid HN
  have HRR := Lib.hid hR
  have HTL := Lib.hid (txB_len l)
  have HFR : Hid (frameB l = (shaOf (txB l)).take 8 ++ txB l) := Lib.hid rfl
  have HDL : Hid ((shaOf (txB l)).length = 32) := Lib.hid rfl
  have HLL := Lib.hid hl
  generalize frameB l = F at *
  generalize txB l = T at *
  clear hS hR hl hF1 hF2 hW1 hW2 hx hss he HN
  go_enter Tryd.func56, Tryd.ntmps56
  go_upto_region 2 with fail
  rw [← hw1]
  clear hw1
  go_upto_region 3 with (rw [← hw2]; clear hw2; go_at_call 66; (with_reducible refine (HNN.out).mono ?_); rintro e w3 ⟨rfl, hw3, hf3⟩)
  have HB3 := Lib.hid (HF2.out.trans (hf3.below HW2.out))
  have HBY := Lib.hid (bytes_any w.heap.size w.heap.size T w3 hw3 (by have := HTL.out; have := HLL.out; omega))
  clear hw3 hf3 hcv HNN
  go_upto_region 4 with (go_at_call 67; (with_reducible refine (HBY.out).mono ?_); rintro e w4 ⟨A4, c4, rfl, hc1, hc2, hs4, hb4⟩)
  have HB4 := Lib.hid (HB3.out.trans (hb4.mono HB3.out.size))
  have HX5 : Hid (Box (w4.alloc (.cells #[.slice A4 T.length c4] 22)) w4.heap.size 22 #[.slice A4 T.length c4]) := Box.made _ _ _
  have HB5 : Hid (Below w4.heap.size w4 (w4.alloc (.cells #[.slice A4 T.length c4] 22))) := (Below.refl _ _).alloc (Nat.le_refl _) _
  have HFA := Lib.hid (HB4.out.trans (HB5.out.mono HB4.out.size))
  have HOF := Lib.hid (of_one17 T w4.heap.size _ (Pieces.one HX5.out HX5.out.lt hc1 hc2 ((hs4.below HB5.out).more HB5.out.size)) (by have := HTL.out; have := HLL.out; omega) (HRR.out.of_below HFA.out))
  have HS5 : Hid (Sees (w4.alloc (.cells #[.slice A4 T.length c4] 22)) (w4.alloc (.cells #[.slice A4 T.length c4] 22)).heap.size A4 (T.map bv)) := Lib.hid ((hs4.below HB5.out).more HB5.out.size)
  generalize shaOf T = d at *
  clear hc1 hc2 hs4 hb4 HX5 HB5 HRR HB3 HB4 HF2 HW2 HBY
  go_upto_region 5 with (go_at_call 68; (with_reducible refine (HOF.out).mono ?_); rintro e w6 ⟨rfl, hb6⟩; have hO7 : Box (w6.alloc (.cells zcells' 89)) w6.heap.size 89 zcells' := Box.made _ _ _; have hst := hO7.store_digest rfl d HDL.out; have HB9 := Lib.hid (hO7.cells_dig rfl HDL.out))
  have HB7 := Lib.hid (HFA.out.trans (hb6.mono HFA.out.size))
  have HS7 : Hid (Sees ((w6.alloc (.cells zcells' 89)).setCells w6.heap.size 0 (d.map bv)) w6.heap.size A4 (T.map bv)) := Lib.hid (by
    have h1 := (HS5.out.below hb6).more hb6.size
    exact h1.keep fun p hp => by
      have h2 := (only_cells (g := w6.heap.size) (d.map bv) 0 (w6.alloc (.cells zcells' 89)))
      have h3 := below_only h2 (Nat.le_refl _) (by simp)
      exact (h3.cell hp).trans (World.cell?_alloc_lt w6 _ p hp))
  have hx7 : ∀ j u, ((d.take 8).map bv)[j]? = some u → ((w6.alloc (.cells zcells' 89)).setCells w6.heap.size 0 (d.map bv)).cell? ((⟨w6.heap.size, 0, none⟩ : Addr).add j) = some u := fun j u hu => by
    rw [plain_add, HB9.out.cell]
    rw [List.map_take, List.getElem?_take] at hu
    split at hu
    · simpa using hu
    · cases hu
  have hB8 : Below w.heap.size w ((w6.alloc (.cells zcells' 89)).setCells w6.heap.size 0 (d.map bv)) := below_cells (HB7.out.alloc HB7.out.size _) HB7.out.size (Nat.le_trans HB7.out.size (by simp)) 0 _
  have hd8 : 8 = (d.take 8).length := by
    have := HDL.out
    rw [List.length_take]
    omega
  obtain ⟨g4, o4, rfl, hlt4, hc4⟩ : ∃ g o, A4 = some ⟨g, o, none⟩ ∧ True ∧ ∀ j u, (T.map bv)[j]? = some u → ((w6.alloc (.cells zcells' 89)).setCells w6.heap.size 0 (d.map bv)).cell? ((⟨g, o, none⟩ : Addr).add j) = some u := by
    rcases HS7.out with h | ⟨g, o, rfl, _, hc⟩
    · have h1 := HTL.out
      have h2 := congrArg List.length h
      rw [List.length_map] at h2
      simp at h2
      rw [h2] at h1
      simp at h1
      omega
    · exact ⟨g, o, rfl, trivial, fun j u hu => by rw [plain_add]; exact hc j u hu⟩
  obtain ⟨c9, w9, hap, hown9, hb9⟩ := grow17 (c := c4) (m := T.length) hd8 hx7 rfl (by have := HTL.out; omega) hc4 (by have := HTL.out; have := HLL.out; omega)
  have HO9 := Lib.hid hown9
  have HF9 := Lib.hid (hB8.trans (hb9.mono hB8.size))
  rw [← HFR.out] at hap
  rw [← HFR.out] at HO9
  have hs8 : w.heap.size ≤ ((w6.alloc (.cells zcells' 89)).setCells w6.heap.size 0 (d.map bv)).heap.size := hB8.size
  have HS8 := Lib.hid hs8
  clear hx7 hd8 hlt4 hc4 hown9 hb9 hst hO7 hB8 hs8 HS7 HB9 hb6
  generalize (w6.alloc (.cells zcells' 89)).setCells w6.heap.size 0 (d.map bv) = w8 at *
  go_wp2
  go_ret
  exact ⟨_, _, rfl, EK.Own.base HO9.out HS8.out, HF9.out⟩
end
end Go.Proofs.YtapdnoellleimaaDoor

namespace Go.Proofs.YtapdnoellleimaaDoor
open Go.RowKit Go.Maps

/-! ### A scope with labels -/
def Exit.jumps (J : Nat → Act → World → Prop) (Q : Exit → Act → World → Prop) : Exit → Act → World → Prop
  | .goto l, a, w => J l a w
  | e, a, w => Q e a w
set_option maxRecDepth 100000 in
theorem wp_scope_labels {P : Program} {a : Act} {w : World} {Q : Exit → Act → World → Prop} {c : Code} (J : Nat → Act → World → Prop) (μ : Nat → Act → World → Nat)
    (pass : ∀ l a w, J l a w → ∃ rest, findLabel c l = some (Code.skip.seq rest) ∧ rest.wp P (Exit.jumps (fun l' a' w' => J l' a' w' ∧ μ l' a' w' < μ l a w) Q) a w)
    (first : (∀ l rest a w, findLabel c l = some (Code.skip.seq rest) → J l a w → rest.wp P (Exit.jumps J Q) a w) → c.wp P (Exit.jumps J Q) a w) : (Code.scope c).wp P Q a w := by
  have hfirst := first (fun l rest a w hf hJ => by
    obtain ⟨rest', hf', hw⟩ := pass l a w hJ
    rw [hf] at hf'
    injection hf' with hf'
    injection hf' with _ hf'
    rw [hf']
    exact Code.wp_mono (fun e _ _ hq => by
      cases e <;> first | exact hq | exact hq.1) hw)
  intro b k cs
  have key : ∀ n l a w, μ l a w = n → J l a w → ∃ rest, gotoIn l (.inScope c :: k) = some (.code rest :: .inScope c :: k) ∧ ∃ e a' w', Q e a' w' ∧ Arrives P (lone (b.at a (.code rest :: .inScope c :: k)) cs w) b k cs e a' w' := by
    intro n
    induction n using Nat.strongRecOn with
    | _ n ih =>
      intro l a w hn hJ
      obtain ⟨rest, hf, hw0⟩ := pass l a w hJ
      have hw : (Code.skip.seq rest).wp P (Exit.jumps (fun l' a' w' => J l' a' w' ∧ μ l' a' w' < μ l a w) Q) a w := wp_seq (wp_skip hw0)
      refine ⟨Code.skip.seq rest, by simp [gotoIn, hf], ?_⟩
      obtain ⟨e, a₁, w₁, hq, harr⟩ := hw b (.inScope c :: k) cs
      cases e with
      | normal => exact ⟨.normal, a₁, w₁, hq, Steps.trans harr (.one step_inScope)⟩
      | exit id => exact ⟨.exit id, a₁, w₁, hq, fun k' hk => harr k' (by simp [exitTo, hk])⟩
      | goto l' =>
        obtain ⟨hJ', hlt⟩ := hq
        obtain ⟨rest', hg', e₂, a₂, w₂, hq₂, harr₂⟩ := ih _ (by omega) l' a₁ w₁ rfl hJ'
        exact ⟨e₂, a₂, w₂, hq₂, .of_steps (harr _ hg') harr₂⟩
      | ret => exact ⟨_, a₁, w₁, hq, harr⟩
      | panic ch => exact ⟨_, a₁, w₁, hq, harr⟩
      | outgrown => exact ⟨_, a₁, w₁, hq, harr⟩
  obtain ⟨e, a₁, w₁, hq, harr⟩ := hfirst b (.inScope c :: k) cs
  cases e with
  | normal => exact ⟨.normal, a₁, w₁, hq, .head step_scope (Steps.trans harr (.one step_inScope))⟩
  | exit id => exact ⟨.exit id, a₁, w₁, hq, fun k' hk => .head step_scope (harr k' (by simp [exitTo, hk]))⟩
  | goto l' =>
    obtain ⟨rest, hg, e₂, a₂, w₂, hq₂, harr₂⟩ := key _ l' a₁ w₁ rfl hq
    exact ⟨e₂, a₂, w₂, hq₂, .of_steps (.head step_scope (harr _ hg)) harr₂⟩
  | ret => exact ⟨_, a₁, w₁, hq, .of_steps (.one step_scope) harr⟩
  | panic ch => exact ⟨_, a₁, w₁, hq, .of_steps (.one step_scope) harr⟩
  | outgrown => exact ⟨_, a₁, w₁, hq, .of_steps (.one step_scope) harr⟩

/-! ### Records in memory -/
/-- Bytes that stand in a row of their own, marked or not. -/
def RowB (w : World) (base : Nat) (t : TX) : Prop := ∃ (g : Nat) (cs : Array Value) (fr : Nat × Nat), t.A = some ⟨g, 0, none⟩ ∧ base ≤ g ∧ w.heap[g]? = some (.cells cs 5 fr) ∧ ∀ (j : Nat) (u : Value), (t.l.map bv)[j]? = some u → cs[j]? = some u
set_option maxRecDepth 100000 in
theorem RowB.keep {w w' : World} {base : Nat} {t : TX} (h : RowB w base t) (hk : ∀ (g : Nat) (cs : Array Value) (fr : Nat × Nat), w.heap[g]? = some (.cells cs 5 fr) → w'.heap[g]? = some (.cells cs 5 fr)) : RowB w' base t := by
  obtain ⟨g, cs, fr, h1, h2, h3, h4⟩ := h
  exact ⟨g, cs, fr, h1, h2, hk g cs fr h3, h4⟩
set_option maxRecDepth 100000 in
theorem RowB.sees {w : World} {base : Nat} {t : TX} (h : RowB w base t) : Sees w w.heap.size t.A (t.l.map bv) := by
  obtain ⟨g, cs, fr, h1, _, h3, h4⟩ := h
  refine .inr ⟨g, 0, h1, row_lt h3, fun j u hu => ?_⟩
  rw [cell_of_row w g _ cs 5 fr h3, Nat.zero_add]
  exact h4 j u hu
set_option maxRecDepth 100000 in
theorem RowB.call {w w' : World} {base : Nat} {t : TX} (h : RowB w base t) (hb : Below w.heap.size w w') : RowB w' base t := h.keep fun g _ _ hg => (hb.block g (row_lt hg)).trans hg
set_option maxRecDepth 100000 in
theorem RowB.bt {w w' : World} {base B : Nat} {t : TX} (h : RowB w base t) (hb : Bt false B w w') : RowB w' base t := h.keep fun g cs fr hg => hb.kept g _ cs fr hg (by decide) (by decide) (fun e => by cases e)
/-- A slice of records that a call has made. -/
structure RecsW (w : World) (base : Nat) (v : Value) (ts : List TX) : Prop where
  own : TK.Own w base v ts
  rows : ∀ t ∈ ts, RowB w base t
set_option maxRecDepth 100000 in
theorem RecsW.call {w w' : World} {base : Nat} {v : Value} {ts : List TX} (h : RecsW w base v ts) (hb : Below w.heap.size w w') : RecsW w' base v ts := ⟨h.own.keep hb, fun t ht => (h.rows t ht).call hb⟩
set_option maxRecDepth 100000 in
theorem RecsW.low {w : World} {B B' : Nat} {v : Value} {ts : List TX} (h : RecsW w B v ts) (hb : B' ≤ B) : RecsW w B' v ts := ⟨h.own.base hb, fun t ht => by
  obtain ⟨g, cs, fr, h1, h2, h3⟩ := h.rows t ht
  exact ⟨g, cs, fr, h1, by omega, h3⟩⟩
set_option maxRecDepth 100000 in
theorem TKOwn_bt {w w' : World} {base B : Nat} {v : Value} {ts : List TX} {u : Bool} (h : TK.Own w base v ts) (hb : Bt u B w w') : TK.Own w' base v ts := by
  refine ⟨h.1, ?_⟩
  rcases h.2 with h1 | ⟨g, cap, cur, h1, h2, h3, h4⟩
  · exact .inl h1
  · exact .inr ⟨g, cap, cur, h1, h2, hb.kept g _ cur _ h3 (by decide) (by decide) (fun _ => by decide), h4⟩
set_option maxRecDepth 100000 in
theorem RecsW.bt {w w' : World} {base B : Nat} {v : Value} {ts : List TX} (h : RecsW w base v ts) (hb : Bt false B w w') : RecsW w' base v ts := ⟨TKOwn_bt h.own hb, fun t ht => (h.rows t ht).bt hb⟩
set_option maxRecDepth 100000 in
/-- A block below base has turned. -/
theorem RecsW.aside {w w' : World} {base g : Nat} {v : Value} {ts : List TX} (h : RecsW w base v ts) (hg : w.grownBy w' (some g)) (hl : g < base) : RecsW w' base v ts :=
  ⟨World.ownsRow.kept h.own hg (by
    rcases h.own.2 with ⟨h1, _⟩ | ⟨g', cap, cur, h1, h2, _⟩
    · rw [h1]; exact .inl rfl
    · rw [h1]
      refine .inr (fun e => ?_)
      have e2 : g' = g := by injection e
      omega), fun t ht => by
    obtain ⟨g', cs, fr, h1, h2, h3, h4⟩ := h.rows t ht
    exact ⟨g', cs, fr, h1, h2, (hg.block g' (row_lt h3) (fun e => by injection e with e; omega)).trans h3, h4⟩⟩

set_option maxRecDepth 100000 in
/-- One record more. -/
theorem recs_append {w : World} {base : Nat} {v : Value} {ts : List TX} (h : RecsW w base v ts) (A : Option Addr) (l : List UInt8) (c : Nat) (ht : RowB w base ⟨A, l, c⟩) (hn : ts.length ≤ 1000000) (hb : base ≤ w.heap.size) :
    ∃ w1 v' w2, (bsT 36 1 #[(0, .slice A l.length c)]).run Tryd.prog w = .ok (.slice (some ⟨w.heap.size, 0, none⟩) 1 1) w1 ∧ (apAll #[36, 36] 36 #[v, .slice (some ⟨w.heap.size, 0, none⟩) 1 1]).run Tryd.prog w1 = .ok v' w2 ∧
      RecsW w2 base v' (ts ++ [⟨A, l, c⟩]) ∧ Below base w w2 := by
  have h1 := EK.build1 TK ⟨A, l, c⟩ (.slice A l.length c) rfl (by decide) w
  obtain ⟨w1, hw1⟩ : ∃ w1, w1 = w.alloc (.cells (TK.enc ⟨A, l, c⟩).toArray TK.e) := ⟨_, rfl⟩
  have hs := EK.see_one TK w ⟨A, l, c⟩
  rw [← hw1] at h1 hs
  have hb1 : Below w.heap.size w w1 := by rw [hw1]; exact (Below.refl _ _).alloc (Nat.le_refl _) _
  have hr1 := h.call hb1
  have ht1 := ht.call hb1
  obtain ⟨v', w2, h2, ho, hg⟩ := EK.append TK hr1.own (m := 1) (c := 1) (es := [⟨A, l, c⟩]) rfl hs (by omega) (by show (ts.length + 1) * 24 ≤ _; omega) (Nat.le_trans hb hb1.size)
  have hrow : ∀ t, RowB w1 base t → RowB w2 base t := fun t ht => ht.keep fun g cs fr hc => (hg.block g (row_lt hc) (fun e => by
    rcases hr1.own.2 with ⟨e1, _⟩ | ⟨g', cap, cur, e1, _, hh, _⟩
    · rw [e1] at e
      cases e
    · rw [e1] at e
      injection e with e
      rw [show g = g' from e, hh] at hc
      injection hc with hc
      injection hc with _ e2 _
      have hne : 22 ≠ 5 := by decide
      exact hne e2)).trans hc
  refine ⟨w1, v', w2, h1, h2, ⟨ho, fun t ht => ?_⟩, (hb1.mono hb).trans (below_own hr1.own hg (Nat.le_trans hb hb1.size))⟩
  rcases List.mem_append.1 ht with ht | ht
  · exact hrow t (hr1.rows t ht)
  · rw [List.mem_singleton.1 ht]
    exact hrow _ ht1

set_option maxRecDepth 100000 in
theorem conv17 (l : List UInt8) (hl : l.length ≤ 1099511627776) (w : World) : ∃ cap w', (convert 9 22 (str l)).run Tryd.prog w = .ok (.slice (some ⟨w.heap.size, 0, none⟩) l.length cap) w' ∧ l.length ≤ cap ∧ cap ≤ maxLen ∧ RowB w' w.heap.size ⟨some ⟨w.heap.size, 0, none⟩, l, cap⟩ ∧ Below w.heap.size w w' := by
  have hr := Lib.run_convert_string_bytes (P := Tryd.prog) w 9 22 5 ⟨l.toArray⟩ Tryd.underlying9 Tryd.underlying22 Tryd.underlying5
  obtain ⟨cap, w', h1, h2, h3⟩ := conv_str l w
  have hsz : (ByteArray.mk l.toArray).size = l.length := by show l.toArray.size = _; rw [List.size_toArray]
  rw [hsz] at hr
  have e := hr.symm.trans h1
  injection e with e1 e2
  injection e1 with _ _ e3
  refine ⟨cap, w', h1, ?_, ?_, ⟨w.heap.size, _, _, rfl, Nat.le_refl _, by rw [← e2]; exact Lib.bytesWorld_at_new w 5 ⟨l.toArray⟩, fun j u hu => ?_⟩, h3⟩
  · rw [← e3]; exact grownCap_ge w l.length 0 _
  · rw [← e3]; exact grownCap_le_maxLen w l.length 0 _ (by unfold maxLen; omega)
  · have hj : j < l.length := by
      have := (List.getElem?_eq_some_iff.1 hu).1
      simpa using this
    have hc := Lib.bytesWorld_cell w 5 ⟨l.toArray⟩ j (by show j < l.toArray.size; simpa using hj)
    rw [cell_of_row _ _ _ _ _ _ (Lib.bytesWorld_at_new w 5 ⟨l.toArray⟩)] at hc
    rw [hc]
    rw [List.getElem?_map, List.getElem?_eq_getElem hj] at hu
    simp only [Option.map_some, Option.some.injEq] at hu
    rw [← hu]
    simp [bv, hj]

/-! ### bytes.HasPrefix -/
set_option maxRecDepth 100000 in
theorem equal_any17 (a b : List UInt8) (A B : Option Addr) (c d : Nat) (w : World) (ha : Sees w w.heap.size A (a.map bv)) (hb : Sees w w.heap.size B (b.map bv)) :
    Calls Tryd.prog 69 #[.slice A a.length c, .slice B b.length d] w fun e w' => e = .returned (.bool (a == b)) ∧ w' = w := by
  have h1 := bytes_conv17 ha c
  have h2 := bytes_conv17 hb d
  clear ha hb
  go_enter Tryd.func69, Tryd.ntmps69
  go_wp2
  go_ret
  exact ⟨rfl, rfl⟩
/-- Does it begin so? -/
def begB (s p : List UInt8) : Bool := decide (p.length ≤ s.length) && (s.take p.length == p)
set_option maxRecDepth 100000 in
theorem hasprefix_any17 (s p : List UInt8) (A B : Option Addr) (c d : Nat) (w : World) (ha : Sees w w.heap.size A (s.map bv)) (hb : Sees w w.heap.size B (p.map bv)) (hc : s.length ≤ c) :
    Calls Tryd.prog 58 #[.slice A s.length c, .slice B p.length d] w fun e w' => e = .returned (.bool (begB s p)) ∧ w' = w := by
  unfold begB
  by_cases h : p.length ≤ s.length
  · have hlen : (s.take p.length).length = p.length := by rw [List.length_take]; omega
    have HE := equal_any17 (s.take p.length) p A B c d w (by rw [List.map_take]; exact ha.take _) hb
    rw [hlen] at HE
    have HE := Lib.hid HE
    have hge : (p.length : Int) ≤ s.length := by omega
    have hdc : decide (p.length ≤ s.length) = true := decide_eq_true h
    rw [hdc, Bool.true_and]
    generalize (s.take p.length == p) = r at *
    clear ha hb hlen hdc
    go_enter Tryd.func58, Tryd.ntmps58
    go_wp2_with (go_at_call 69; (with_reducible refine (HE.out).mono ?_); rintro e w1 ⟨rfl, rfl⟩)
    go_ret
    exact ⟨rfl, rfl⟩
  · have hge : ¬ (p.length : Int) ≤ s.length := by omega
    have hdc : decide (p.length ≤ s.length) = false := decide_eq_false h
    rw [hdc, Bool.false_and]
    clear ha hb hdc
    go_enter Tryd.func58, Tryd.ntmps58
    go_wp2
    go_ret
    exact ⟨rfl, rfl⟩
end Go.Proofs.YtapdnoellleimaaDoor

namespace Go.Proofs.YtapdnoellleimaaDoor
open Go.RowKit Go.Maps

/-- What a pass of the reader answers: the record's text, what is left, whether there was a fault. -/
def passV (most : Int) (s : List UInt8) : List UInt8 × List UInt8 × Bool := txtV most (tk 8 s false).2.1 (tk 8 s false).2.2
set_option maxRecDepth 100000 in
theorem passV_cases {n : Nat} {s : List UInt8} (hn : s.length ≤ n) :
    (passV n s = ([], [], true) ∧ headR s = none) ∨
    (∃ x r, passV n s = (x, r, false) ∧ r = s.drop (12 + x.length) ∧ x.length ≤ s.length ∧ headR s = if begB s (frameB x) = true then some x else none) := by
  have hbad : ∀ l : List UInt8, txtV (n : Int) l true = ([], [], true) := fun l => by
    unfold txtV
    rw [tk_no (by rintro ⟨h, _⟩; cases h)]
    exact if_pos (.inl rfl)
  by_cases h8 : 8 ≤ s.length
  · have e8 : passV n s = txtV (n : Int) (s.drop 8) false := by unfold passV; rw [tk_yes h8]
    by_cases h4 : 4 ≤ (s.drop 8).length
    · have h12 : 12 ≤ s.length := by rw [List.length_drop] at h4; omega
      have e4 : txtV (n : Int) (s.drop 8) false = if (n : Int) < (beNat ((s.drop 8).take 4) : Int) then ([], [], true) else tk (beNat ((s.drop 8).take 4)) ((s.drop 8).drop 4) false := by
        unfold txtV
        rw [tk_yes h4]
        simp
      obtain ⟨N, hNN⟩ : ∃ N, N = beNat ((s.drop 8).take 4) := ⟨_, rfl⟩
      rw [e4, ← hNN] at e8
      have hd : (s.drop 8).drop 4 = s.drop 12 := by rw [List.drop_drop]
      rw [hd] at e8
      have hh : headR s = if 12 ≤ s.length ∧ 12 + N ≤ s.length ∧ frameB ((s.drop 12).take N) = s.take (12 + N) then some ((s.drop 12).take N) else none := by rw [hNN]; rfl
      by_cases hm : (n : Int) < (N : Int)
      · rw [if_pos hm] at e8
        exact .inl ⟨e8, by rw [hh, if_neg (by rintro ⟨_, h, _⟩; omega)]⟩
      · rw [if_neg hm] at e8
        by_cases hN : N ≤ (s.drop 12).length
        · rw [tk_yes hN] at e8
          have hN2 := hN
          rw [List.length_drop] at hN2
          have hxl : ((s.drop 12).take N).length = N := by rw [List.length_take, List.length_drop]; omega
          have hfl : (frameB ((s.drop 12).take N)).length = 12 + N := by rw [frameB_len, hxl]
          refine .inr ⟨_, _, e8, by rw [List.drop_drop, hxl], by rw [hxl]; omega, ?_⟩
          rw [hh]
          unfold begB
          rw [hfl]
          have hd : decide (12 + N ≤ s.length) = true := decide_eq_true (by omega)
          rw [hd, Bool.true_and]
          by_cases he : frameB ((s.drop 12).take N) = s.take (12 + N)
          · rw [if_pos ⟨h12, by omega, he⟩, if_pos (by rw [beq_iff_eq]; exact he.symm)]
          · rw [if_neg (by rintro ⟨_, _, h⟩; exact he h), if_neg (by rw [beq_iff_eq]; exact fun h => he h.symm)]
        · rw [tk_no (by rintro ⟨_, h⟩; exact hN h)] at e8
          refine .inl ⟨e8, ?_⟩
          rw [hh, if_neg]
          rintro ⟨_, h, _⟩
          rw [List.length_drop] at hN
          omega
    · refine .inl ⟨?_, ?_⟩
      · rw [e8]
        unfold txtV
        rw [tk_no (by rintro ⟨_, h⟩; exact h4 h)]
        exact if_pos (.inl rfl)
      · unfold headR
        rw [if_neg (by rintro ⟨h, _⟩; rw [List.length_drop] at h4; omega)]
  · refine .inl ⟨?_, ?_⟩
    · unfold passV
      rw [tk_no (by rintro ⟨_, h⟩; exact h8 h)]
      exact hbad _
    · unfold headR
      rw [if_neg (by rintro ⟨h, _⟩; omega)]
set_option maxRecDepth 100000 in
theorem passV_len (n : Nat) (s : List UInt8) (h : s.length ≤ n) : (passV n s).1.length ≤ s.length := by
  rcases passV_cases h with ⟨e, _⟩ | ⟨x, r, e, _, h2, _⟩
  · rw [e]; exact Nat.zero_le _
  · rw [e]; exact h2
set_option maxRecDepth 100000 in
/-- No record stands where a frame's bytes don't. -/
theorem passV_none {n : Nat} {s : List UInt8} (hn : s.length ≤ n) (h : ¬ ((passV n s).2.2 = false ∧ begB s (frameB (passV n s).1) = true)) : headR s = none := by
  rcases passV_cases hn with ⟨_, e⟩ | ⟨x, r, e, _, _, h2⟩
  · exact e
  · rw [e] at h
    rw [h2, if_neg (fun h3 => h ⟨rfl, h3⟩)]
set_option maxRecDepth 100000 in
theorem passV_some {n : Nat} {s : List UInt8} (hn : s.length ≤ n) (h1 : (passV n s).2.2 = false) (h2 : begB s (frameB (passV n s).1) = true) : ∃ r, s = frameB (passV n s).1 ++ r ∧ (passV n s).2.1 = r ∧ (passV n s).1.length < 4294967296 := by
  rcases passV_cases hn with ⟨e, _⟩ | ⟨x, r, e, hr, _, h3⟩
  · rw [e] at h1
    cases h1
  · rw [e] at h2 ⊢
    rw [if_pos h2] at h3
    obtain ⟨q, hq, hl⟩ := headR_some h3
    refine ⟨q, hq, ?_, hl⟩
    show r = q
    rw [hr]
    conv => lhs; arg 2; rw [hq]
    exact frame_drop _ _
end Go.Proofs.YtapdnoellleimaaDoor

namespace Go.Proofs.YtapdnoellleimaaDoor
open Go.RowKit Go.Maps

/-- What stands at the label 'next': the records so far, what is left. -/
structure SpW (w0 : World) (s : List UInt8) (B a z : Nat) (v : Value) (ts : List TX) (rem : List UInt8) (w : World) : Prop where
  base : w0.heap.size ≤ a ∧ a < B ∧ B ≤ w.heap.size
  rd : Rd w a rem false
  recs : RecsW w B v ts
  eq : s = framesB (ts.map TX.l) ++ rem
  spl : splitB s = ts.map TX.l ++ splitB rem
  size : z = (framesB (ts.map TX.l)).length
  far : Below w0.heap.size w0 w
/-- What stands at the label 'end'. -/
structure SpE (w0 : World) (s : List UInt8) (B z : Nat) (v : Value) (ts : List TX) (w : World) : Prop where
  base : w0.heap.size ≤ B
  recs : RecsW w B v ts
  eq : ts.map TX.l = splitB s
  size : z = (framesB (splitB s)).length
  far : Below w0.heap.size w0 w
abbrev spF (s : List UInt8) (A : Option Addr) (c a z : Nat) (v u5 u6 u9 u10 u11 u12 u13 u14 u15 u16 u17 u18 u19 u20 u21 u22 u23 u24 u25 u26 u27 u28 u29 u30 u31 u32 u33 u34 u35 u36 u37 u38 u39 u40 : Value) : Act := { tmps := #[.slice A s.length c, undef, .slice none 0 0, .int .i64 0, v, u5, u6, .int .i64 (z : Int), .pointer (some ⟨a, 0, none⟩), u9, u10, u11, u12, u13, u14, u15, u16, u17, u18, u19, u20, u21, u22, u23, u24, u25, u26, u27, u28, u29, u30, u31, u32, u33, u34, u35, u36, u37, u38, u39, u40], defers := [] }
/-- What holds at each label. -/
def spJ (w0 : World) (s : List UInt8) (A : Option Addr) (c : Nat) : Nat → Act → World → Prop
  | 0, a', w => ∃ (B a z : Nat) (v : Value) (ts : List TX) (rem : List UInt8) (u5 u6 u9 u10 u11 u12 u13 u14 u15 u16 u17 u18 u19 u20 u21 u22 u23 u24 u25 u26 u27 u28 u29 u30 u31 u32 u33 u34 u35 u36 u37 u38 u39 u40 : Value), a' = spF s A c a z v u5 u6 u9 u10 u11 u12 u13 u14 u15 u16 u17 u18 u19 u20 u21 u22 u23 u24 u25 u26 u27 u28 u29 u30 u31 u32 u33 u34 u35 u36 u37 u38 u39 u40 ∧ SpW w0 s B a z v ts rem w
  | 1, a', w => ∃ (B a z : Nat) (v : Value) (ts : List TX) (u5 u6 u9 u10 u11 u12 u13 u14 u15 u16 u17 u18 u19 u20 u21 u22 u23 u24 u25 u26 u27 u28 u29 u30 u31 u32 u33 u34 u35 u36 u37 u38 u39 u40 : Value), a' = spF s A c a z v u5 u6 u9 u10 u11 u12 u13 u14 u15 u16 u17 u18 u19 u20 u21 u22 u23 u24 u25 u26 u27 u28 u29 u30 u31 u32 u33 u34 u35 u36 u37 u38 u39 u40 ∧ SpE w0 s B z v ts w
  | _, _, _ => False
def spM (s : List UInt8) : Nat → Act → World → Nat
  | 0, a', _ => 1 + (s.length - (intOf (a'.tmps.getD 7 undef)).toNat)
  | _, _, _ => 0

section
attribute [local go_sem ↓] apAll_def bsT_def
set_option maxRecDepth 100000 in
set_option maxHeartbeats 4000000 in
theorem split_any (s : List UInt8) (A : Option Addr) (c : Nat) (hl : s.length ≤ 4194304) (hc : s.length ≤ c) (hm : c ≤ maxLen) (w : World) (hS : Sees w w.heap.size A (s.map bv)) (hR : Roots w) :
    Calls Tryd.prog 41 #[.slice A s.length c] w fun e w' => ∃ v ts, e = .returned (.tuple #[v, .int .i64 ((framesB (splitB s)).length : Int)]) ∧ ts.map TX.l = splitB s ∧ RecsW w' w.heap.size v ts ∧ Below w.heap.size w w' := by
  have HRN := Lib.hid (read_new w.heap.size A s c w hS (Nat.le_refl _) (by omega))
  have HL := Lib.hid hl
  have HC := Lib.hid hc
  have HM := Lib.hid hm
  have HS := Lib.hid hS
  have HR := Lib.hid hR
  clear hl hc hm hS hR
  go_enter Tryd.func41, Tryd.ntmps41
  go_wp2
  refine wp_scope_labels (spJ w s A c) (spM s) ?pass ?first
  case first =>
    intro hlab
    have HLAB := Lib.hid hlab
    clear hlab
    go_upto_region 5 with (go_at_call 53; (with_reducible refine (HRN.out).mono ?_); rintro e w1 ⟨a, rfl, hr, ha1, ha2, hb1⟩)
    have HW1 : Hid (SpW w s w1.heap.size a 0 (.slice none 0 0) [] s w1) := Lib.hid ⟨⟨ha1, ha2, Nat.le_refl _⟩, hr w1 (Same.refl _ _ _), ⟨EK.own_nil _ _ _, fun t ht => by cases ht⟩, rfl, rfl, rfl, hb1⟩
    go_step3
    rename_i K hK
    show K _ _
    refine hK _ _ ?_
    exact HLAB.out 0 _ _ _ rfl ⟨w1.heap.size, a, 0, .slice none 0 0, [], s, _, _, _, _, _, _, _, _, _, _, _, _, _, _, _, _, _, _, _, _, _, _, _, _, _, _, _, _, _, _, _, _, _, _, rfl, HW1.out⟩
  case pass =>
    intro l a' w1 hJ
    match l, hJ with
    | 0, ⟨B, a, z, v, ts, rem, u5, u6, u9, u10, u11, u12, u13, u14, u15, u16, u17, u18, u19, u20, u21, u22, u23, u24, u25, u26, u27, u28, u29, u30, u31, u32, u33, u34, u35, u36, u37, u38, u39, u40, ha, hW⟩ =>
      refine ⟨_, rfl, ?_⟩
      subst ha
      have HW := Lib.hid hW
      have hsl : rem.length ≤ s.length := by
        have := congrArg List.length hW.eq
        rw [List.length_append] at this
        omega
      have HSL := Lib.hid hsl
      have HN5 := Lib.hid (num_any a rem false w1 hW.rd)
      clear hW hJ
      go_upto_region 6 with (go_at_call 54; (with_reducible refine (HN5.out).mono ?_); rintro e w2 ⟨rfl, hr2, hg2⟩)
      have HT6 := Lib.hid (rdtext_any a (s.length : Int) (tk 8 rem false).2.1 (tk 8 rem false).2.2 w2 hr2)
      have HG2 := Lib.hid hg2
      have hpl := passV_len s.length rem hsl
      have hpv : txtV (s.length : Int) (tk 8 rem false).2.1 (tk 8 rem false).2.2 = passV s.length rem := rfl
      rw [hpv] at HT6
      have HPV : Hid (∀ p q b, passV s.length rem = (p, q, b) → (b = false → begB rem (frameB p) = true → ∃ r, rem = frameB p ++ r ∧ q = r ∧ p.length < 4294967296) ∧ (¬ (b = false ∧ begB rem (frameB p) = true) → headR rem = none)) := Lib.hid (fun p q b e => ⟨fun h1 h2 => by
        have h3 := passV_some hsl (by rw [e]; exact h1) (by rw [e]; exact h2)
        rw [e] at h3
        exact h3, fun h => passV_none hsl (by rw [e]; exact h)⟩)
      obtain ⟨x, q, b, hpe⟩ : ∃ p q b, passV s.length rem = (p, q, b) := ⟨_, _, _, rfl⟩
      rw [hpe] at HT6 hpl
      have HPV2 := Lib.hid (HPV.out x q b hpe)
      have HPL : Hid (x.length ≤ rem.length) := Lib.hid hpl
      simp only at HT6
      have hrl := congrArg List.length HW.out.eq
      rw [List.length_append, ← HW.out.size] at hrl
      have HZ : Hid (z + rem.length = s.length) := Lib.hid hrl.symm
      have HBS := Lib.hid HW.out.base
      clear HPV hpe hpv hpl hr2 hg2 hsl HN5 hrl
      go_upto_region 7 with (go_at_call 55; (with_reducible refine (HT6.out).mono ?_); rintro e w3 ⟨rfl, hr3, hg3⟩; obtain ⟨cap, w4, hcv, hcl, hcm, hrow, hb4⟩ := conv17 x (by have := HPL.out; have := HSL.out; have := HL.out; omega) w3)
      have HB14 : Hid (Below w.heap.size w1 w4) := Lib.hid (((below_only HG2.out HBS.out.1 (by have := HBS.out; omega)).trans (below_only hg3 HBS.out.1 (by have := HBS.out; have := HG2.out.size; omega))).trans (hb4.mono (by have := HBS.out; have := HG2.out.size; have := hg3.size; omega)))
      have HB4 : Hid (Below w.heap.size w w4) := Lib.hid (HW.out.far.trans HB14.out)
      have HBG : Hid (B ≤ w4.heap.size) := Lib.hid (by have := HBS.out; have := HG2.out.size; have := hg3.size; have := hb4.size; omega)
      have HBG3 : Hid (B ≤ w3.heap.size) := Lib.hid (by have := HBS.out; have := HG2.out.size; have := hg3.size; omega)
      have HR4 : Hid (RecsW w4 B v ts) := Lib.hid (((HW.out.recs.aside HG2.out HBS.out.2.1).aside hg3 HBS.out.2.1).call hb4)
      have HD4 : Hid (Rd w4 a q b) := Lib.hid (hr3.below hb4 (by have := HBS.out; have := HBG3.out; omega))
      have HRO := Lib.hid hrow
      have HC7 := Lib.hid (record_any x (some ⟨w3.heap.size, 0, none⟩) cap (by have := HPL.out; have := HSL.out; have := HL.out; omega) w4 hrow.sees (HR.out.of_below HB4.out))
      have HFL : Hid ((frameB x).length = 12 + x.length) := frameB_len x
      clear hcv hr3 hg3 hb4 hrow HT6 HG2
      go_upto_region 8 with (go_at_call 56; (with_reducible refine (HC7.out).mono ?_); rintro e w5 ⟨A5, c5, rfl, ho5, hb5⟩)
      have HS5 : Hid (Sees w5 w5.heap.size A (s.map bv)) := Lib.hid ((HS.out.below (HB4.out.trans (hb5.mono HB4.out.size))).more (HB4.out.trans (hb5.mono HB4.out.size)).size)
      have HR5 := Lib.hid (HR4.out.call hb5)
      have HRO5 := Lib.hid (HRO.out.call hb5)
      have HD5 : Hid (Rd w5 a q b) := Lib.hid (HD4.out.below hb5 (by have := HBS.out; have := HBG.out; omega))
      have HB5 : Hid (Below w.heap.size w w5) := Lib.hid (HB4.out.trans (hb5.mono HB4.out.size))
      have HSZ5 := Lib.hid hb5.size
      have HF5 := Lib.hid (DB_sees ho5.see)
      have HG8 := Lib.hid (good_any a q b w5 HD5.out)
      clear ho5 hb5 HC7 HR4 HD4 HRO HB14
      cases b with
      | true =>
        have hno := HPV2.out.2 (by rintro ⟨h, _⟩; cases h)
        have HNO := Lib.hid hno
        clear hno
        go_wp2_with (go_at_call 57; (with_reducible refine (HG8.out).mono ?_); rintro e w' ⟨rfl, rfl⟩)
        go_step3
        have hs0 : splitB s = ts.map TX.l := by rw [HW.out.spl, splitB_none HNO.out, List.append_nil]
        exact ⟨⟨B, a, z, v, ts, _, _, _, _, _, _, _, _, _, _, _, _, _, _, _, _, _, _, _, _, _, _, _, _, _, _, _, _, _, _, _, _, _, _, rfl, ⟨by have := HBS.out; omega, HR5.out, hs0.symm, by rw [hs0]; exact HW.out.size, HB5.out⟩⟩, by show 0 < 1 + _; omega⟩
      | false =>
        obtain ⟨A', hA'⟩ : ∃ A', A' = if c = z then A else A.map (·.add z) := ⟨_, rfl⟩
        have hcut : (Instr.slice 22 (.slice A s.length c) (some (.int .i64 (z : Int))) none none).run Tryd.prog w5 = .ok (.slice A' rem.length (c - z)) w5 := by
          have h := slice_from' (A := A) (n := s.length) (c := c) (m := z) (by have := HZ.out; omega) w5
          rw [← hA', show s.length - z = rem.length by have := HZ.out; omega] at h
          exact h
        have hsr : Sees w5 w5.heap.size A' (rem.map bv) := by
          have h := Sees.cut HS5.out (k := z) (cap := c) (by rw [List.length_map]; exact HC.out) (by rw [List.length_map]; have := HZ.out; omega)
          rw [← hA', ← List.map_drop] at h
          have he : s.drop z = rem := by
            rw [HW.out.size]
            conv => lhs; arg 2; rw [HW.out.eq]
            exact List.drop_left' rfl
          rw [he] at h
          exact h
        obtain ⟨F, hF⟩ : ∃ F, F = frameB x := ⟨_, rfl⟩
        have HPB := hasprefix_any17 rem F A' A5 (c - z) c5 w5 hsr (by rw [hF]; exact HF5.out) (by have := HZ.out; have := HC.out; omega)
        have HPV3 : Hid ((begB rem F = true → ∃ r, rem = F ++ r ∧ q = r ∧ x.length < 4294967296) ∧ (begB rem F = false → headR rem = none)) := Lib.hid (by
          rw [hF]
          exact ⟨fun h => HPV2.out.1 rfl h, fun h => HPV2.out.2 (by rintro ⟨_, h2⟩; rw [h] at h2; cases h2)⟩)
        rw [← hF] at HFL ⊢
        have HFF := Lib.hid hF
        have hz63 : (z : Int) ≤ 4194304 := by have := HZ.out; have := HL.out; omega
        clear hA' hsr HF5 hF HPV2
        cases hbg : begB rem F with
        | false =>
          have HNO := Lib.hid (HPV3.out.2 hbg)
          rw [hbg] at HPB
          have HPB := Lib.hid HPB
          clear hbg
          go_wp2_with (first
            | (go_at_call 57; (with_reducible refine (HG8.out).mono ?_); rintro e w' ⟨rfl, rfl⟩)
            | (go_at_call 58; (with_reducible refine (HPB.out).mono ?_); rintro e w' ⟨rfl, rfl⟩))
          go_step3
          have hs0 : splitB s = ts.map TX.l := by rw [HW.out.spl, splitB_none HNO.out, List.append_nil]
          exact ⟨⟨B, a, z, v, ts, _, _, _, _, _, _, _, _, _, _, _, _, _, _, _, _, _, _, _, _, _, _, _, _, _, _, _, _, _, _, _, _, _, _, rfl, ⟨by have := HBS.out; omega, HR5.out, hs0.symm, by rw [hs0]; exact HW.out.size, HB5.out⟩⟩, by show 0 < 1 + _; omega⟩
        | true =>
          obtain ⟨r, hr1, hr2, hr3⟩ := HPV3.out.1 hbg
          subst hr2
          have HRM := Lib.hid hr1
          have HX3 := Lib.hid hr3
          rw [hbg] at HPB
          have HPB := Lib.hid HPB
          clear hbg hr1 hr3
          have hlow : RowB w5 B ⟨some ⟨w3.heap.size, 0, none⟩, x, cap⟩ := by
            obtain ⟨g, cs, fr, h1, h2, h3⟩ := HRO5.out
            exact ⟨g, cs, fr, h1, by have := HBG3.out; omega, h3⟩
          have hcnt := framesB_count (ts.map TX.l)
          rw [List.length_map, ← HW.out.size] at hcnt
          obtain ⟨w6, v', w7, hbs, hap, hrec, hfar⟩ := recs_append HR5.out (some ⟨w3.heap.size, 0, none⟩) x cap hlow (by omega) (by have := HBG.out; have := HSZ5.out; omega)
          have hSq : splitB s = (ts ++ [(⟨some ⟨w3.heap.size, 0, none⟩, x, cap⟩ : TX)]).map TX.l ++ splitB q := by
            rw [HW.out.spl, HRM.out, HFF.out, splitB_frame x q HX3.out, List.map_append, List.append_assoc]
            rfl
          have hEq : s = framesB ((ts ++ [(⟨some ⟨w3.heap.size, 0, none⟩, x, cap⟩ : TX)]).map TX.l) ++ q := by
            rw [List.map_append, framesB_app]
            have h2 : framesB (([⟨some ⟨w3.heap.size, 0, none⟩, x, cap⟩] : List TX).map TX.l) = frameB x := by simp [framesB]
            rw [h2, List.append_assoc, ← HFF.out, ← HRM.out]
            exact HW.out.eq
          have hZq : z + F.length = (framesB ((ts ++ [(⟨some ⟨w3.heap.size, 0, none⟩, x, cap⟩ : TX)]).map TX.l)).length := by
            rw [List.map_append, framesB_app, List.length_append, ← HW.out.size, HFF.out]
            simp [framesB]
          have hbB : B ≤ w5.heap.size := by have := HBG.out; have := HSZ5.out; omega
          have HW7 : Hid (SpW w s B a (z + F.length) v' (ts ++ [(⟨some ⟨w3.heap.size, 0, none⟩, x, cap⟩ : TX)]) q w7) := Lib.hid ⟨⟨HBS.out.1, HBS.out.2.1, Nat.le_trans hbB hfar.size⟩, HD5.out.below hfar HBS.out.2.1, hrec, hEq, hSq, hZq, HB5.out.trans (hfar.mono (by have := HBS.out; omega))⟩
          have HQ : Hid (z + F.length ≤ s.length ∧ 0 < F.length) := Lib.hid (by
            have h1 := congrArg List.length HRM.out
            rw [List.length_append] at h1
            have := HZ.out
            have := HFL.out
            omega)
          have hfb : (F.length : Int) ≤ 4194304 := by have := HQ.out; have := HL.out; omega
          have hfz : (z : Int) + (F.length : Int) ≤ 4194304 := by have := HQ.out; have := HL.out; omega
          clear hlow hcnt hrec hfar hSq hEq hZq hbB
          go_wp2_with (first
            | (go_at_call 57; (with_reducible refine (HG8.out).mono ?_); rintro e w' ⟨rfl, rfl⟩)
            | (go_at_call 58; (with_reducible refine (HPB.out).mono ?_); rintro e w' ⟨rfl, rfl⟩))
          go_step3
          refine ⟨⟨B, a, z + F.length, v', _, q, _, _, _, _, _, _, _, _, _, _, _, _, _, _, _, _, _, _, _, _, _, _, _, _, _, _, _, _, _, _, _, _, _, _, rfl, HW7.out⟩, ?_⟩
          show 1 + (s.length - (intOf (.int .i64 ((z : Int) + (F.length : Int)))).toNat) < 1 + (s.length - (intOf (.int .i64 (z : Int))).toNat)
          have := HQ.out
          simp only [intOf]
          omega
    | 1, ⟨B, a, z, v, ts, u5, u6, u9, u10, u11, u12, u13, u14, u15, u16, u17, u18, u19, u20, u21, u22, u23, u24, u25, u26, u27, u28, u29, u30, u31, u32, u33, u34, u35, u36, u37, u38, u39, u40, ha, hE⟩ =>
      refine ⟨_, rfl, ?_⟩
      subst ha
      have HE := Lib.hid hE
      clear hE hJ
      go_wp2
      simp only [Exit.jumps]
      go_ret2
      refine ⟨v, ts, ?_, HE.out.eq, HE.out.recs.low HE.out.base, HE.out.far⟩
      rw [HE.out.size]
      rfl
    | _ + 2, hJ => exact hJ.elim
end
end Go.Proofs.YtapdnoellleimaaDoor

namespace Go.Proofs.YtapdnoellleimaaDoor
open Go.RowKit Go.Maps

/-- The first records' bytes. -/
def frT (ts : List TX) (k : Nat) : List UInt8 := framesB ((ts.take k).map TX.l)
set_option maxRecDepth 100000 in
theorem frT_zero (ts : List TX) : frT ts 0 = [] := rfl
set_option maxRecDepth 100000 in
theorem frT_all (ts : List TX) : frT ts ts.length = framesB (ts.map TX.l) := by unfold frT; rw [List.take_length]
set_option maxRecDepth 100000 in
theorem frT_succ (ts : List TX) (k : Nat) (h : k < ts.length) : frT ts (k + 1) = frT ts k ++ frameB ts[k].l := by
  unfold frT
  rw [List.take_succ_eq_append_getElem h, List.map_append, framesB_app]
  congr 1
  simp [framesB]
set_option maxRecDepth 100000 in
theorem frT_le (ts : List TX) (k : Nat) : (frT ts k).length ≤ (framesB (ts.map TX.l)).length := by
  conv => rhs; rw [← List.take_append_drop k ts, List.map_append, framesB_app, List.length_append]
  unfold frT
  omega

section
attribute [local go_sem ↓] apAll_def
set_option maxRecDepth 100000 in
set_option maxHeartbeats 2000000 in
theorem wjoin_any (ts : List TX) (A : Option Addr) (c : Nat) (w : World) (hS : TK.See w w.heap.size A ts) (ht : ∀ t ∈ ts, Sees w w.heap.size t.A (t.l.map bv)) (hl : (framesB (ts.map TX.l)).length ≤ 1000000000) (hR : Roots w) :
    Calls Tryd.prog 43 #[.slice A ts.length c] w fun e w' => ∃ A' c', e = .returned (.slice A' (framesB (ts.map TX.l)).length c') ∧ DB.Own w' w.heap.size (.slice A' (framesB (ts.map TX.l)).length c') (framesB (ts.map TX.l)) ∧ Below w.heap.size w w' := by
  have HS := Lib.hid hS
  have HT := Lib.hid ht
  have HL := Lib.hid hl
  have HR := Lib.hid hR
  have hcn := framesB_count (ts.map TX.l)
  rw [List.length_map] at hcn
  have hn : (ts.length : Int) ≤ 1000000000 := by omega
  clear hS ht hl hR hcn
  go_enter Tryd.func43, Tryd.ntmps43
  go_wp2
  go_loopw [3, 8] (fun x i wr => ∃ (k : Nat) (A' : Option Addr) (c' : Nat), k ≤ ts.length ∧ i = .int .i64 (k : Int) ∧ x = .slice A' (frT ts k).length c' ∧ Hid (DB.Own wr w.heap.size (.slice A' (frT ts k).length c') (frT ts k)) ∧ Hid (Below w.heap.size w wr)) (fun _ i _ => ts.length - (intOf i).toNat)
  case atStart => exact ⟨0, none, 0, Nat.zero_le _, rfl, rfl, EK.own_nil _ _ _, Below.refl _ _⟩
  case round =>
    obtain ⟨k, A', c', hk, rfl, rfl, HO, HB⟩ := hrel
    by_cases hlt : k < ts.length
    · obtain ⟨g, o, rfl, hc⟩ := TK_at (EK.See.far HS.out HB.out) hlt
      have hx := (HT.out _ (List.getElem_mem hlt))
      have hsu := frT_succ ts k hlt
      have hle := frT_le ts (k + 1)
      obtain ⟨t, htt⟩ : ∃ t, t = ts[k] := ⟨_, rfl⟩
      rw [← htt] at hc hx hsu
      have hle2 : (frT ts k).length + (frameB t.l).length ≤ 1000000000 := by
        rw [hsu, List.length_append] at hle
        have := HL.out
        omega
      have HRC := Lib.hid (record_any t.l t.A t.c (by rw [frameB_len] at hle2; omega) wr ((hx.below HB.out).more HB.out.size) (HR.out.of_below HB.out))
      have HSU := Lib.hid hsu
      have HLE := Lib.hid hle2
      clear hx hsu hle hle2 htt
      go_upto_region 5 with fail
      go_upto_region 6 with (first
        | (go_at_call 56; (with_reducible refine (HRC.out).mono ?_); rintro e w2 ⟨A2, c2, rfl, ho2, hb2⟩; obtain ⟨A3, c3, w3, hap, ho3, hg3, _⟩ := dk_append (EK.Own.keep HO.out hb2) (c' := c2) rfl (DB_sees ho2.see) (by have := HLE.out; omega) (Nat.le_trans HB.out.size hb2.size); rw [← HSU.out] at hap ho3))
      have HO3 := Lib.hid ho3
      have HB3 : Hid (Below w.heap.size w w3) := Lib.hid ((HB.out.trans (hb2.mono HB.out.size)).trans (below_own (EK.Own.keep HO.out hb2) (by rw [ownBlock_slice]; exact hg3) (Nat.le_trans HB.out.size hb2.size)))
      clear hap ho2 hb2 ho3 hg3 HRC hc
      go_wp2
      go_roundw
      case rel => exact ⟨k + 1, A3, c3, by omega, by go_num, rfl, HO3, HB3⟩
      case measure => simp [intOf]; omega
    · have hkl : k = ts.length := by omega
      subst hkl
      have hfa := frT_all ts
      rw [hfa] at HO ⊢
      clear hfa hlt hk
      go_wp2
      go_ret
      exact ⟨A', c', rfl, HO.out, HB.out⟩
end
end Go.Proofs.YtapdnoellleimaaDoor
