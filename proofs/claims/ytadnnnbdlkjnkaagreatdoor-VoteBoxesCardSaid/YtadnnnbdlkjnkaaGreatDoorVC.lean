/-
  slices.Sort and slices.Sorted of numbers, as they lie in this program: told plainly for the library's contracts. Written by gen_volay.py.
  Rows of numbers: appended to, sorted.
  (*vote.Box).members and Count: who voted for a digest, by rising numbers.
  (*vote.Box).last and Voters: the last round in which each member voted.
  (*vote.Box).Voters: how many members voted in a round or a later one.
  maps.Values of the members' last rounds, sorted: slices.Sorted; (*vote.Box).Reached.
-/
import Derived.Shelf.SlIterI.Sorted
import Derived.Shelf.SortM.Plain
import Derived.Shelf.SortM.SortNone
import Derived.Test.YtadnnnbdlkjnkaaGreatDoorProg
import Derived.Test.YtadnnnbdlkjnkaaGreatDoorVA
import Derived.WalkKit
import Derived.RangeFuncSeq
import Derived.RangeFuncGives
import Derived.Sort.MapsRangeIn
import Derived.OwnWalkIn
import Derived.TacticsInMore
import Derived.RegionIn
import Derived.LoopNIn
import Derived.LoopIn
namespace Go.Proofs.YtadnnnbdlkjnkaaGreatDoor
open Go.Shelf

def sortIRen : Go.Shelf.Ren := ⟨fun | 5 => 49 | 7 => 69 | 8 => 70 | 10 => 82 | 11 => 83 | 12 => 84 | 13 => 85 | 14 => 86 | 15 => 87 | 16 => 88 | 17 => 89 | 18 => 90 | 19 => 91 | 20 => 92 | 30 => 96 | 31 => 97 | 32 => 98 | 33 => 99 | 34 => 100 | 35 => 101 | 40 => 103 | n => n, fun | 0 => 0 | 3 => 3 | 4 => 4 | 5 => 5 | 9 => 9 | 22 => 72 | 23 => 72 | 25 => 3 | 32 => 132 | 35 => 145 | 36 => 146 | 41 => 150 | 44 => 118 | 46 => 121 | 53 => 158 | 57 => 162 | 63 => 164 | 64 => 165 | n => n, fun | n => n⟩
set_option maxRecDepth 100000 in
theorem sortILay : Go.Proofs.SlLaysM.n5 Tryz.prog sortIRen where
  mixed := by kernel_rfl
  f5 := ⟨ "slices.Sort[[]int,int]", by decide, Tryz.func49.trans (congrArg some (by kernel_rfl))⟩
  f7 := ⟨ "slices.pdqsortOrdered[int]", by decide, Tryz.func69.trans (congrArg some (by kernel_rfl))⟩
  f8 := Tryz.func70.trans (congrArg some (by kernel_rfl))
  f10 := ⟨ "slices.insertionSortOrdered[int]", by decide, Tryz.func82.trans (congrArg some (by kernel_rfl))⟩
  f11 := ⟨ "slices.heapSortOrdered[int]", by decide, Tryz.func83.trans (congrArg some (by kernel_rfl))⟩
  f12 := ⟨ "slices.breakPatternsOrdered[int]", by decide, Tryz.func84.trans (congrArg some (by kernel_rfl))⟩
  f13 := ⟨ "slices.choosePivotOrdered[int]", by decide, Tryz.func85.trans (congrArg some (by kernel_rfl))⟩
  f14 := ⟨ "slices.reverseRangeOrdered[int]", by decide, Tryz.func86.trans (congrArg some (by kernel_rfl))⟩
  f15 := ⟨ "slices.partialInsertionSortOrdered[int]", by decide, Tryz.func87.trans (congrArg some (by kernel_rfl))⟩
  f16 := ⟨ "cmp.Less[int]", by decide, Tryz.func88.trans (congrArg some (by kernel_rfl))⟩
  f17 := ⟨ "slices.partitionEqualOrdered[int]", by decide, Tryz.func89.trans (congrArg some (by kernel_rfl))⟩
  f18 := ⟨ "slices.partitionOrdered[int]", by decide, Tryz.func90.trans (congrArg some (by kernel_rfl))⟩
  f19 := Tryz.func91.trans (congrArg some (by kernel_rfl))
  f20 := Tryz.func92.trans (congrArg some (by kernel_rfl))
  f30 := ⟨ "slices.siftDownOrdered[int]", by decide, Tryz.func96.trans (congrArg some (by kernel_rfl))⟩
  f31 := Tryz.func97.trans (congrArg some (by kernel_rfl))
  f32 := Tryz.func98.trans (congrArg some (by kernel_rfl))
  f33 := ⟨ "slices.medianAdjacentOrdered[int]", by decide, Tryz.func99.trans (congrArg some (by kernel_rfl))⟩
  f34 := ⟨ "slices.medianOrdered[int]", by decide, Tryz.func100.trans (congrArg some (by kernel_rfl))⟩
  f35 := ⟨ "cmp.isNaN[int]", by decide, Tryz.func101.trans (congrArg some (by kernel_rfl))⟩
  f40 := ⟨ "slices.order2Ordered[int]", by decide, Tryz.func103.trans (congrArg some (by kernel_rfl))⟩
  t0 := Tryz.underlying0
  a0 := fun _ => by kernel_rfl
  z0 := fun _ => by kernel_rfl
  v0 := fun _ => by kernel_rfl
  t3 := Tryz.underlying3
  a3 := fun _ => by kernel_rfl
  z3 := fun _ => by kernel_rfl
  v3 := fun _ => by kernel_rfl
  t4 := Tryz.underlying4
  a4 := fun _ => by kernel_rfl
  z4 := fun _ => by kernel_rfl
  v4 := fun _ => by kernel_rfl
  t5 := Tryz.underlying5
  a5 := fun _ => by kernel_rfl
  z5 := fun _ => by kernel_rfl
  v5 := fun _ => by kernel_rfl
  t9 := Tryz.underlying9
  a9 := fun _ => by kernel_rfl
  z9 := fun _ => by kernel_rfl
  v9 := fun _ => by kernel_rfl
  t22 := Tryz.underlying72
  a22 := fun _ => by kernel_rfl
  z22 := fun _ => by kernel_rfl
  v22 := fun _ => by kernel_rfl
  t23 := Tryz.underlying72
  a23 := fun _ => by kernel_rfl
  z23 := fun _ => by kernel_rfl
  v23 := fun _ => by kernel_rfl
  t25 := Tryz.underlying3
  a25 := fun _ => by kernel_rfl
  z25 := fun _ => by kernel_rfl
  v25 := fun _ => by kernel_rfl
  t32 := Tryz.underlying132
  a32 := fun _ => by kernel_rfl
  z32 := fun _ => by kernel_rfl
  v32 := fun _ => by kernel_rfl
  t35 := Tryz.underlying145
  a35 := fun _ => by kernel_rfl
  z35 := fun _ => by kernel_rfl
  v35 := fun _ => by kernel_rfl
  t36 := Tryz.underlying146
  a36 := fun _ => by kernel_rfl
  z36 := fun _ => by kernel_rfl
  v36 := fun _ => by kernel_rfl
  t41 := Tryz.underlying150
  a41 := fun _ => by kernel_rfl
  z41 := fun _ => by kernel_rfl
  v41 := fun _ => by kernel_rfl
  t44 := Tryz.underlying118
  a44 := fun _ => by kernel_rfl
  z44 := fun _ => by kernel_rfl
  v44 := fun _ => by kernel_rfl
  t46 := Tryz.underlying121
  a46 := fun _ => by kernel_rfl
  z46 := fun _ => by kernel_rfl
  v46 := fun _ => by kernel_rfl
  t53 := Tryz.underlying158
  a53 := fun _ => by kernel_rfl
  z53 := fun _ => by kernel_rfl
  v53 := fun _ => by kernel_rfl
  t57 := Tryz.underlying162
  a57 := fun _ => by kernel_rfl
  z57 := fun _ => by kernel_rfl
  v57 := fun _ => by kernel_rfl
  t63 := Tryz.underlying164
  a63 := fun _ => by kernel_rfl
  z63 := fun _ => by kernel_rfl
  v63 := fun _ => by kernel_rfl
  t64 := Tryz.underlying165
  a64 := fun _ => by kernel_rfl
  z64 := fun _ => by kernel_rfl
  v64 := fun _ => by kernel_rfl

def sortedIRen : Go.Shelf.Ren := ⟨fun | 6 => 29 | 8 => 50 | 9 => 49 | 11 => 71 | n => n, fun | 0 => 0 | 24 => 72 | 26 => 3 | 28 => 78 | 33 => 87 | n => n, fun | n => n⟩
set_option maxRecDepth 100000 in
theorem sortedILay : Go.Proofs.SlLaysZI.n6 Tryz.prog sortedIRen where
  mixed := by kernel_rfl
  f6 := ⟨ "slices.Sorted[int]", by decide, Tryz.func29.trans (congrArg some (by kernel_rfl))⟩
  f8 := ⟨ "slices.Collect[int]", by decide, Tryz.func50.trans (congrArg some (by kernel_rfl))⟩
  f11 := ⟨ "slices.AppendSeq[[]int,int]", by decide, Tryz.func71.trans (congrArg some (by kernel_rfl))⟩
  t0 := Tryz.underlying0
  a0 := fun _ => by kernel_rfl
  z0 := fun _ => by kernel_rfl
  v0 := fun _ => by kernel_rfl
  t24 := Tryz.underlying72
  a24 := fun _ => by kernel_rfl
  z24 := fun _ => by kernel_rfl
  v24 := fun _ => by kernel_rfl
  t26 := Tryz.underlying3
  a26 := fun _ => by kernel_rfl
  z26 := fun _ => by kernel_rfl
  v26 := fun _ => by kernel_rfl
  t28 := Tryz.underlying78
  a28 := fun _ => by kernel_rfl
  z28 := fun _ => by kernel_rfl
  v28 := fun _ => by kernel_rfl
  i26 := by kernel_rfl
end Go.Proofs.YtadnnnbdlkjnkaaGreatDoor

namespace Go.Proofs.YtadnnnbdlkjnkaaGreatDoor
open Go.RowKit Go.Maps Go.Sort

noncomputable def IntK : EK Int where
  e := 3
  sl := 72
  k := 1
  bys := 8
  z := .int .i64 0
  enc := fun i => [.int .i64 i]
  hk := by decide
  und := Tryz.underlying72
  els := by kernel_rfl
  info := by kernel_rfl
  hzs := rfl
  zone := by
    intro v hv
    simp only [Value.cells, List.mem_cons, List.not_mem_nil, or_false] at hv
    rcases hv with rfl
    rfl
  len := fun _ => rfl
  one := by
    intro x v hv
    simp only [List.mem_cons, List.not_mem_nil, or_false] at hv
    rcases hv with rfl
    rfl
  hby := by decide
set_option maxRecDepth 100000 in
theorem IntK_flat (xs : List Int) : IntK.flat xs = xs.map encZ := by
  show xs.flatMap (fun s => [Value.int .i64 s]) = _
  induction xs with
  | nil => rfl
  | cons x r ih => rw [List.flatMap_cons, ih]; rfl
/-- Numbers that rise. -/
def srt (zs : List Int) : List Int := zs.mergeSort fun x y => decide (x ≤ y)
set_option maxRecDepth 100000 in
theorem srt_len (zs : List Int) : (srt zs).length = zs.length := List.length_mergeSort _
set_option maxRecDepth 100000 in
theorem srt_perm (zs : List Int) : (srt zs).Perm zs := List.mergeSort_perm _ _
set_option maxRecDepth 100000 in
theorem srt_sorted (zs : List Int) : (srt zs).Pairwise (· ≤ ·) := by
  have h := List.pairwise_mergeSort (le := fun x y : Int => decide (x ≤ y)) (fun a b c h1 h2 => by simp only [decide_eq_true_eq] at *; omega) (fun a b => by simp only [Bool.or_eq_true, decide_eq_true_eq]; omega) zs
  exact h.imp fun h => by simpa using h
set_option maxRecDepth 100000 in
theorem srt_eq {xs ys : List Int} (h : xs.Perm ys) : srt xs = srt ys := by
  have hp : (srt xs).Perm (srt ys) := (srt_perm xs).trans (h.trans (srt_perm ys).symm)
  exact List.Perm.eq_of_pairwise (fun a b _ _ h1 h2 => by omega) (srt_sorted xs) (srt_sorted ys) hp
set_option maxRecDepth 100000 in
theorem sort_ints {base : Nat} {v : Value} {zs : List Int} {w : World} (h : IntK.Own w base v zs) (hl : zs.length < 4611686018427387904) :
    Calls Tryz.prog 49 #[v] w fun e w' => e = .returned (.tuple #[]) ∧ IntK.Own w' base v (srt zs) ∧ w.grownBy w' v.ownBlock := by
  have h' : w.ownsRow base 3 1 v zs.length (zs.map encZ) := by
    have h2 : w.ownsRow base 3 1 v zs.length (IntK.flat zs) := h
    rw [IntK_flat] at h2
    exact h2
  rcases h'.2 with ⟨rfl, hz⟩ | ⟨gb, cap, cur, rfl, hbase, hgb, r1, r2, r3, r4⟩
  · have hss : zs = [] := List.eq_nil_of_length_eq_zero hz
    subst hss
    refine (AnyM.slices_Sort_int_none sortILay none 0 w).mono ?_
    rintro e w' ⟨rfl, rfl⟩
    have e : srt [] = [] := by unfold srt; simp
    rw [e]
    exact ⟨rfl, h, only_refl _ _⟩
  · have hH : Holds encZ w gb 0 zs.toArray := holds_of_block_i hgb (by simpa using r4)
    have hgl : gb < w.heap.size := (Array.getElem?_eq_some_iff.1 hgb).1
    refine (AnyM.slices_Sort_int sortILay gb 0 cap zs w hH hgl hl).mono ?_
    rintro e w' ⟨rfl, nn, os, rfl⟩
    refine ⟨rfl, ?_, grownBy_sorted_i _⟩
    have h3 := ownsRow_sorted_i (os := os) (n := nn) (ss := zs) (ts := srt zs) (srt_len zs) hbase hgb r1 r2 r3
    show World.ownsRow _ base 3 1 _ (srt zs).length (IntK.flat (srt zs))
    rw [IntK_flat, srt_len]
    exact h3
end Go.Proofs.YtadnnnbdlkjnkaaGreatDoor

namespace Go.Proofs.YtadnnnbdlkjnkaaGreatDoor
open Go.RowKit Go.Maps Go.Sort

/-! ### On plain lists -/
def unbv : Value → UInt8
  | .int _ n => UInt8.ofNat n.toNat
  | _ => 0
set_option maxRecDepth 100000 in
theorem unbv_bv (b : UInt8) : unbv (bv b) = b := by
  unfold bv unbv
  simp
def digOf : Value → List UInt8
  | .agg cs => ((cs.toList.drop 4).take 32).map unbv
  | _ => []
set_option maxRecDepth 100000 in
theorem digOf_cells (m : VtM) : digOf (.agg m.cells.toArray) = m.x.dig := by
  show ((m.cells.toArray.toList.drop 4).take 32).map unbv = _
  rw [List.toList_toArray]
  unfold VtM.cells vtL
  rw [show ∀ (a b c d : Value) (l : List Value), (a :: b :: c :: d :: l).drop 4 = l from fun _ _ _ _ _ => rfl, List.take_append_of_le_length (by simp [m.x.len]), List.take_of_length_le (by simp [m.x.len]), List.map_map]
  have e : unbv ∘ bv = id := funext unbv_bv
  rw [e, List.map_id]
/-- Does a vote count for a digest? -/
def isFor (kind round : Int) (d : List UInt8) (x : VtX) : Bool := decide (x.kind = kind) && decide (x.round = round) && decide (x.dig = d)
def forF (kind round : Int) (d : List UInt8) (xs : List VtX) : List Int := (xs.filter (isFor kind round d)).map VtX.frm
def entFor (kind round : Int) (d : List UInt8) (e : PlX × Value) : Option Int := if e.1.1.1 = kind ∧ e.1.1.2.1 = round ∧ digOf e.2 = d then some e.1.1.2.2 else none
set_option maxRecDepth 100000 in
theorem entFor_ent {kind round : Int} {d : List UInt8} {m : VtM} (h : VOk m.x) : entFor kind round d m.ent = if isFor kind round d m.x then some m.x.frm else none := by
  unfold entFor VtM.ent isFor
  simp only [h.at_val, digOf_cells, Bool.and_eq_true, decide_eq_true_eq, and_assoc]
set_option maxRecDepth 100000 in
theorem entFor_all {kind round : Int} {d : List UInt8} {vs : List VtM} (h : ∀ m ∈ vs, VOk m.x ∧ VFew m.x) : (vs.map VtM.ent).filterMap (entFor kind round d) = forF kind round d (vs.map VtM.x) := by
  induction vs with
  | nil => rfl
  | cons m r ih =>
    have ih' := ih fun u hu => h u (List.mem_cons_of_mem _ hu)
    rw [List.map_cons, List.map_cons]
    unfold forF at ih' ⊢
    rw [List.filterMap_cons, entFor_ent (h m (List.mem_cons_self ..)).1, List.filter_cons]
    cases isFor kind round d m.x
    · simpa using ih'
    · simpa using ih'
set_option maxRecDepth 100000 in
theorem forF_le (kind round : Int) (d : List UInt8) (xs : List VtX) : (forF kind round d xs).length ≤ xs.length := by
  unfold forF
  rw [List.length_map]
  exact List.length_filter_le _ _

set_option maxRecDepth 100000 in
/-- Blocks are laid for a place and a vote, and both are stored there. -/
theorem laid_both (w : World) (k r f : Int) (m : VtM) : ∃ w3 w4, (stPl (.pointer (some ⟨w.heap.size, 0, none⟩)) (.agg (plV k r f))).run Tryz.prog ((w.alloc (.cells (plV 0 0 0) 69)).alloc (.cells zvtV 37)) = .ok () w3 ∧
    (stVt (.pointer (some ⟨w.heap.size + 1, 0, none⟩)) (.agg m.cells.toArray)).run Tryz.prog w3 = .ok () w4 ∧ Box w4 w.heap.size 69 (plV k r f) ∧ Box w4 (w.heap.size + 1) 37 m.cells.toArray ∧ Below w.heap.size w w4 := by
  have hb : Box ((w.alloc (.cells (plV 0 0 0) 69)).alloc (.cells zvtV 37)) w.heap.size 69 (plV 0 0 0) := (Box.made w _ _).alloc _
  have hv : Box ((w.alloc (.cells (plV 0 0 0) 69)).alloc (.cells zvtV 37)) (w.heap.size + 1) 37 zvtV := Box.made_at (by simp) _ _
  have hF : Below w.heap.size w ((w.alloc (.cells (plV 0 0 0) 69)).alloc (.cells zvtV 37)) := ((Below.refl _ _).alloc (Nat.le_refl _) _).alloc (by simp) _
  have hg := only_cells (g := w.heap.size) (plV k r f).toList 0 ((w.alloc (.cells (plV 0 0 0) 69)).alloc (.cells zvtV 37))
  have hv3 := hv.grown hg (by simp)
  have hb3 := hb.cells_all (plV k r f) rfl
  obtain ⟨w4, h4, hv4, hg4⟩ := hv3.st_vt zvtV_size m
  refine ⟨_, w4, run_storeAt_mid (P := Tryz.prog) _ w.heap.size 0 69 (plV k r f) (fun j hj => by
    have hj3 : j < 3 := hj
    rw [hb.cell, hb.free, Array.getElem?_eq_getElem (by exact (by omega : 0 + j < 3))]
    exact ⟨rfl, rfl⟩) (pl_size k r f) (by have := all_oneCell_toArray (pl_one k r f); simpa using this), h4, hb3.grown hg4 (by simp), hv4, ?_⟩
  exact (hF.trans (below_only hg (Nat.le_refl _) hF.size)).trans (below_only hg4 (by omega) (Nat.le_trans hF.size (below_only hg (Nat.le_refl _) hF.size).size))

set_option maxRecDepth 100000 in
theorem own_ge {w : World} {base n s : Nat} {e : TypeId} {v : Value} {xs : List Value} (h : w.ownsRow base e s v n xs) : ∀ g, v.ownBlock = some g → base ≤ g := by
  intro g hg
  rcases h.2 with ⟨rfl, _⟩ | ⟨g', cap, cur, rfl, hb, _⟩
  · simp [Value.ownBlock] at hg
  · simp [Value.ownBlock] at hg
    omega
set_option maxRecDepth 100000 in
/-- The walk of a map goes on where a row of one's own is written. -/
theorem IterIs.own {κ : Type} {K : MKey κ} {w w' : World} {mv : Option Nat} {r : Nat} {es done : List (κ × Value)} {cnt : Nat} (h : IterIs K w mv r es done cnt) {base n s : Nat} {e : TypeId} {v : Value} {xs : List Value} (ho : w.ownsRow base e s v n xs) (hr : r < base) (hm : ∀ mb, mv = some mb → mb < base) (hg : w.grownBy w' v.ownBlock) : IterIs K w' mv r es done cnt :=
  h.grown hg (fun mb hmb e => by have := own_ge ho mb e.symm; have := hm mb hmb; omega) (fun e => by have := own_ge ho r e.symm; omega)
set_option maxRecDepth 100000 in
theorem BoxOr.lt {w : World} {pv mv : Option Nat} {vs : List VtM} (h : BoxOr w pv mv vs) : ∀ mb, mv = some mb → mb < w.heap.size := by
  intro mb e
  subst e
  cases pv
  · exact h.elim
  · exact (BoxIs.map h).lt

attribute [local go_sem ↓] ldVt_def stVt_def ldPl_def stPl_def alVt_def ldDigest_def stDigest_def eqDigest_def apAll_def
set_option maxRecDepth 100000 in
set_option maxHeartbeats 4000000 in
theorem members_any (pv mv : Option Nat) (vs : List VtM) (kind round : Int) (d : List UInt8) (hd : d.length = 32) (hl : vs.length < 1000000) (w : World) (hB : BoxOr w pv mv vs) :
    Calls Tryz.prog 27 #[ptrO pv, .int .i64 kind, .int .i64 round, .agg (d.map bv).toArray] w fun e w' => ∃ v, e = .returned v ∧ IntK.Own w' w.heap.size v (srt (forF kind round d (vs.map VtM.x))) ∧ Below w.heap.size w w' := by
  obtain ⟨w1, hw1⟩ : ∃ w1, w1 = w.alloc (.cells (d.map bv).toArray 24) := ⟨_, rfl⟩
  have HD : Hid (Box w1 w.heap.size 24 (d.map bv).toArray) := by rw [hw1]; exact Box.made w _ _
  have HF : Hid (Below w.heap.size w w1) := by rw [hw1]; exact (Below.refl _ _).alloc (Nat.le_refl _) _
  have HB := Lib.hid (hB.call HF.out)
  have HAL := Lib.hid (all_or pv mv vs w1 HB.out)
  have HDL := Lib.hid hd
  have HL := Lib.hid hl
  have HOK := Lib.hid hB.ok
  obtain ⟨pp, hpp⟩ : ∃ pp, pp = ptrO pv := ⟨_, rfl⟩
  rw [← hpp] at HAL ⊢
  clear hpp hd hl hB
  go_enter Tryz.func27, Tryz.ntmps27
  go_upto_region 1 with fail
  change Code.wp _ _ _ _ (w.alloc (.cells (d.map bv).toArray 24))
  rw [← hw1]
  clear hw1
  go_wp2_with (first
    | (go_at_call 48; (with_reducible refine (HAL.out).mono ?_); rintro e w2 ⟨rfl, hb2⟩; have HB2 := Lib.hid (HB.out.call hb2); have HF2 := Lib.hid (HF.out.trans (hb2.mono HF.out.size)); have HD2 := Lib.hid (HD.out.below hb2 HD.out.lt); clear hb2)
    | (at_range; refine wpList_range_is plKey _ rfl _ 65 rfl 37 Tryz.underlying65 mv _ rfl HB2.out.map ?_; intro w3 cnt hit hg3 hs3))
  go_frame
  have HI3 := Lib.hid hit
  have hb3 : Below w2.heap.size w2 w3 := ⟨hg3.os, hg3.tape, hg3.output, hg3.size, fun i hi => hg3.block i hi (by simp)⟩
  have HRL : Hid (w2.heap.size < w3.heap.size) := Lib.hid (by omega)
  have HML : Hid (∀ mb, mv = some mb → mb < w3.heap.size) := Lib.hid (fun mb e => by have := HB2.out.lt mb e; omega)
  have HES : Hid ((vs.map VtM.ent).filterMap (entFor kind round d) = forF kind round d (vs.map VtM.x)) := Lib.hid (entFor_all HOK.out)
  have HEM : Hid (∀ e ∈ vs.map VtM.ent, ∃ m ∈ vs, e = m.ent) := Lib.hid (fun e he => by obtain ⟨m, hm, rfl⟩ := List.mem_map.1 he; exact ⟨m, hm, rfl⟩)
  have HEL : Hid ((vs.map VtM.ent).length < 1000000) := Lib.hid (by rw [List.length_map]; exact HL.out)
  generalize vs.map VtM.ent = es at *
  have HW3 : Hid (Below w2.heap.size w2 w3) := Lib.hid hb3
  have HFR : Hid (w.heap.size ≤ w2.heap.size ∧ w.heap.size < w2.heap.size) := Lib.hid ⟨HF2.out.size, HD2.out.lt⟩
  have HN3 : Hid (w2.heap.size + 1 = w3.heap.size) := Lib.hid hs3.symm
  clear hit hg3 hs3 hb3 HB2 HB HAL HD HF HL
  generalize w2.heap.size = r at *
  go_loopw [9] (fun s wr => ∃ A n c cnt done, s = .slice A n c ∧ Hid (IterIs plKey wr mv r es done cnt) ∧ Hid (IntK.Own wr w3.heap.size (.slice A n c) (done.filterMap (entFor kind round d))) ∧ Hid (Below r w2 wr) ∧ Hid (w3.heap.size ≤ wr.heap.size)) (fun _ wr => wr.rangeLeft (mv.getD r) r)
  case atStart => exact ⟨none, 0, 0, _, [], rfl, HI3, Lib.hid (EK.own_nil _ _ _), HW3, Lib.hid (Nat.le_refl _)⟩
  case round =>
    obtain ⟨A, n, c, cnt2, done, rfl, HI, HO, HW, HWS⟩ := hrel
    clear HI3
    go_upto_region 4 with (at_next; refine wpList_next_is plKey _ rfl _ rfl mv r _ _ _ rfl HI.out (fun hperm => ?_) (fun x v w4 cnt4 hmem hnot hit4 hlt4 hg4 hs4 hen => ?_))
    · have HPM := Lib.hid hperm
      clear hperm
      have HSO := Lib.hid (sort_ints HO.out (by
        have h1 := (HPM.out.filterMap (entFor kind round d)).length_eq
        have h2 := List.length_filterMap_le (entFor kind round d) es
        have := HEL.out
        omega))
      have HSE : Hid (srt (done.filterMap (entFor kind round d)) = srt (forF kind round d (vs.map VtM.x))) := Lib.hid (srt_eq (by rw [← HES.out]; exact HPM.out.filterMap _))
      go_wp2_with (go_at_call 49; (with_reducible refine (HSO.out).mono ?_); rintro e w5 ⟨rfl, ho5, hg5⟩; have HO5 := Lib.hid ho5; have HG5 := Lib.hid hg5; clear ho5 hg5)
      go_ret
      rw [HSE.out] at HO5
      have HSZ : Hid (w.heap.size ≤ r ∧ r < w3.heap.size) := Lib.hid ⟨HFR.out.1, HRL.out⟩
      refine ⟨_, rfl, EK.Own.base HO5.out (by have := HSZ.out; omega), ?_⟩
      exact (HF2.out.trans (HW.out.mono HSZ.out.1)).trans ((below_own HO.out HG5.out HWS.out).mono (by have := HSZ.out; omega))
    · obtain ⟨m, hm, hxv⟩ := HEM.out _ hmem
      obtain ⟨rfl, rfl⟩ : x = m.x.at_ ∧ v = .agg m.cells.toArray := by
        unfold VtM.ent at hxv
        exact Prod.mk.injEq .. ▸ hxv
      have HXE := Lib.hid (HOK.out m hm).1
      rw [HXE.out.at_enc] at hen ⊢
      have HI4 := Lib.hid hit4
      have HO4 : Hid (IntK.Own w4 w3.heap.size (.slice A n c) (done.filterMap (entFor kind round d))) := Lib.hid (World.ownsRow.kept HO.out hg4 (by cases A with
        | none => exact .inl rfl
        | some ad => exact .inr (fun e => by have := own_ge HO.out r e; have := HRL.out; omega)))
      have HW4 : Hid (Below r w2 w4) := Lib.hid (HW.out.trans (below_only hg4 (Nat.le_refl _) (by have := HI.out.lt; omega)))
      have HLT : Hid (w4.rangeLeft (mv.getD r) r < wr.rangeLeft (mv.getD r) r) := Lib.hid (by rw [hit4.left_eq, HI.out.left_eq]; exact hlt4)
      have HWS4 : Hid (w3.heap.size ≤ w4.heap.size) := Lib.hid (by rw [hs4]; exact HWS.out)
      have HFE : Hid ((done ++ [m.ent]).filterMap (entFor kind round d) = done.filterMap (entFor kind round d) ++ (if isFor kind round d m.x then [m.x.frm] else [])) := Lib.hid (by
        rw [List.filterMap_append, List.filterMap_cons, entFor_ent HXE.out]
        cases isFor kind round d m.x <;> rfl)
      have HNL : Hid ((done.filterMap (entFor kind round d)).length < 1000000) := Lib.hid (by
        have h1 := List.length_filterMap_le (entFor kind round d) done
        have h2 := HI.out.sub
        have h3 := List.Nodup.length_le_of_subset h2.1 (fun e he => h2.2 e he)
        have := HEL.out
        omega)
      clear hmem hnot hit4 hlt4 hg4 hs4 hxv HI HO HW HWS
      obtain ⟨w5, w6, hst5, hst6, hp6, hv6, hb6⟩ := laid_both w4 m.x.kind m.x.round m.x.frm m
      have hal := al_vt
      have HW6 : Hid (Below r w2 w6) := Lib.hid (HW4.out.trans (hb6.mono (by have := HWS4.out; have := HRL.out; omega)))
      have HI6 := Lib.hid (HI4.out.call hb6)
      have HO6 := Lib.hid (EK.Own.keep HO4.out hb6)
      have HL6 : Hid (w6.rangeLeft (mv.getD r) r < wr.rangeLeft (mv.getD r) r) := Lib.hid (by rw [HI6.out.left_eq, ← HI4.out.left_eq]; exact HLT.out)
      have HWS6 : Hid (w3.heap.size ≤ w6.heap.size) := Lib.hid (Nat.le_trans HWS4.out hb6.size)
      have hd6 := HD2.out.below HW6.out HFR.out.2
      have HC6 : Hid (w6.cell? ⟨w4.heap.size, 0, none⟩ = some (.int .i64 m.x.kind) ∧ w6.cell? ⟨w4.heap.size, 1, none⟩ = some (.int .i64 m.x.round) ∧ w6.cell? ⟨w4.heap.size, 2, none⟩ = some (.int .i64 m.x.frm)) := Lib.hid ⟨hp6.cell 0, hp6.cell 1, hp6.cell 2⟩
      have HLV : Hid ((ldDigest (.pointer (some ⟨w4.heap.size + 1, 4, none⟩))).run Tryz.prog w6 = .ok (.agg (m.x.dig.map bv).toArray) w6) := Lib.hid (range_load hv6.vt_dig m.x.len)
      have HLD : Hid ((ldDigest (.pointer (some ⟨w.heap.size, 0, none⟩))).run Tryz.prog w6 = .ok (.agg (d.map bv).toArray) w6) := Lib.hid (range_load hd6.range HDL.out)
      clear hp6 hv6 hb6 hd6
      go_upto_region 5 with fail
      clear hst5 hst6 hal HI4 HO4 HW4 HLT HWS4 hen
      obtain ⟨c0, c1, c2⟩ := HC6.out
      have lv := HLV.out
      have ld := HLD.out
      have hq : ∀ w', (eqDigest (.agg (m.x.dig.map bv).toArray) (.agg (d.map bv).toArray)).run Tryz.prog w' = .ok (decide (m.x.dig = d)) w' := fun w' => eq_digest _ _ m.x.len HDL.out w'
      generalize w4.heap.size = q at *
      by_cases h1 : m.x.kind = kind <;> by_cases h2 : m.x.round = round <;> by_cases h3 : m.x.dig = d
      · have HE : Hid (isFor kind round d m.x = true) := Lib.hid (by unfold isFor; simp [h1, h2, h3])
        rw [HE.out, if_pos rfl] at HFE
        have hal6 : Below w6.heap.size w6 (w6.alloc (.cells #[.int .i64 m.x.frm] 3)) := (Below.refl _ _).alloc (Nat.le_refl _) _
        have hO7 := EK.Own.keep HO6.out hal6
        obtain ⟨v8, w8, hap0, ho8, hg8⟩ := IntK.append hO7 (A := some ⟨w6.heap.size, 0, none⟩) (m := 1) (c := 1) (es := [m.x.frm]) rfl (IntK.see_one w6 m.x.frm) (by have := HNL.out; omega) (by have := HNL.out; show (_ + 1) * 8 ≤ _; omega) (Nat.le_trans HWS6.out hal6.size)
        obtain ⟨A8, c8, rfl⟩ := ho8.slice
        obtain ⟨n8, hn8⟩ : ∃ n8, n8 = (done.filterMap (entFor kind round d) ++ [m.x.frm]).length := ⟨_, rfl⟩
        have hap : (apAll #[72, 72] 72 #[.slice A n c, .slice (some ⟨w6.heap.size, 0, none⟩) 1 1]).run Tryz.prog (w6.alloc (.cells #[.int .i64 m.x.frm] 3)) = .ok (.slice A8 n8 c8) w8 := by rw [hn8]; exact hap0
        have HI8 := Lib.hid ((HI6.out.call hal6).own hO7 HRL.out HML.out hg8)
        have HW8 := Lib.hid ((HW6.out.trans (hal6.mono (by have := HWS6.out; have := HRL.out; omega))).trans ((below_own hO7 hg8 (Nat.le_trans HWS6.out hal6.size)).mono (Nat.le_of_lt HRL.out)))
        have HWS8 := Lib.hid (Nat.le_trans HWS6.out (Nat.le_trans hal6.size hg8.size))
        have HL8 : Hid (w8.rangeLeft (mv.getD r) r < wr.rangeLeft (mv.getD r) r) := Lib.hid (by rw [HI8.out.left_eq, ← HI6.out.left_eq]; exact HL6.out)
        have HO8 : Hid (IntK.Own w8 w3.heap.size (.slice A8 n8 c8) (done.filterMap (entFor kind round d) ++ [m.x.frm])) := Lib.hid (by rw [hn8]; exact ho8)
        clear hal6 hO7 hap0 ho8 hg8 hn8
        have hq2 : ∀ w', (eqDigest (.agg (d.map bv).toArray) (.agg (d.map bv).toArray)).run Tryz.prog w' = .ok true w' := fun w' => by rw [eq_digest d d HDL.out HDL.out w', decide_eq_true rfl]
        clear hq
        go_wp2
        go_roundw
        case rel => exact ⟨A8, n8, c8, cnt4, _, rfl, HI8, Lib.hid (by have := HFE.out; unfold VtM.ent at this; rw [this]; exact HO8.out), HW8, HWS8⟩
        case measure => exact HL8.out
      · have HE : Hid (isFor kind round d m.x = false) := Lib.hid (by unfold isFor; simp [h3])
        rw [HE.out, if_neg (by simp), List.append_nil] at HFE
        go_wp2
        go_roundw
        case rel => exact ⟨A, n, c, cnt4, _, rfl, HI6, Lib.hid (by have := HFE.out; unfold VtM.ent at this; rw [this]; exact HO6.out), HW6, HWS6⟩
        case measure => exact HL6.out
      · have HE : Hid (isFor kind round d m.x = false) := Lib.hid (by unfold isFor; simp [h2])
        rw [HE.out, if_neg (by simp), List.append_nil] at HFE
        go_wp2
        go_roundw
        case rel => exact ⟨A, n, c, cnt4, _, rfl, HI6, Lib.hid (by have := HFE.out; unfold VtM.ent at this; rw [this]; exact HO6.out), HW6, HWS6⟩
        case measure => exact HL6.out
      · have HE : Hid (isFor kind round d m.x = false) := Lib.hid (by unfold isFor; simp [h2])
        rw [HE.out, if_neg (by simp), List.append_nil] at HFE
        go_wp2
        go_roundw
        case rel => exact ⟨A, n, c, cnt4, _, rfl, HI6, Lib.hid (by have := HFE.out; unfold VtM.ent at this; rw [this]; exact HO6.out), HW6, HWS6⟩
        case measure => exact HL6.out
      · have HE : Hid (isFor kind round d m.x = false) := Lib.hid (by unfold isFor; simp [h1])
        rw [HE.out, if_neg (by simp), List.append_nil] at HFE
        go_wp2
        go_roundw
        case rel => exact ⟨A, n, c, cnt4, _, rfl, HI6, Lib.hid (by have := HFE.out; unfold VtM.ent at this; rw [this]; exact HO6.out), HW6, HWS6⟩
        case measure => exact HL6.out
      · have HE : Hid (isFor kind round d m.x = false) := Lib.hid (by unfold isFor; simp [h1])
        rw [HE.out, if_neg (by simp), List.append_nil] at HFE
        go_wp2
        go_roundw
        case rel => exact ⟨A, n, c, cnt4, _, rfl, HI6, Lib.hid (by have := HFE.out; unfold VtM.ent at this; rw [this]; exact HO6.out), HW6, HWS6⟩
        case measure => exact HL6.out
      · have HE : Hid (isFor kind round d m.x = false) := Lib.hid (by unfold isFor; simp [h1])
        rw [HE.out, if_neg (by simp), List.append_nil] at HFE
        go_wp2
        go_roundw
        case rel => exact ⟨A, n, c, cnt4, _, rfl, HI6, Lib.hid (by have := HFE.out; unfold VtM.ent at this; rw [this]; exact HO6.out), HW6, HWS6⟩
        case measure => exact HL6.out
      · have HE : Hid (isFor kind round d m.x = false) := Lib.hid (by unfold isFor; simp [h1])
        rw [HE.out, if_neg (by simp), List.append_nil] at HFE
        go_wp2
        go_roundw
        case rel => exact ⟨A, n, c, cnt4, _, rfl, HI6, Lib.hid (by have := HFE.out; unfold VtM.ent at this; rw [this]; exact HO6.out), HW6, HWS6⟩
        case measure => exact HL6.out

set_option maxRecDepth 100000 in
theorem count_any13 (pv mv : Option Nat) (vs : List VtM) (kind round : Int) (d : List UInt8) (hd : d.length = 32) (hl : vs.length < 1000000) (w : World) (hB : BoxOr w pv mv vs) :
    Calls Tryz.prog 12 #[ptrO pv, .int .i64 kind, .int .i64 round, .agg (d.map bv).toArray] w fun e w' => e = .returned (.int .i64 ((forF kind round d (vs.map VtM.x)).length : Int)) ∧ Below w.heap.size w w' := by
  obtain ⟨w1, hw1⟩ : ∃ w1, w1 = w.alloc (.cells (d.map bv).toArray 24) := ⟨_, rfl⟩
  have hD : Box w1 w.heap.size 24 (d.map bv).toArray := by rw [hw1]; exact Box.made w _ _
  have HF : Hid (Below w.heap.size w w1) := by rw [hw1]; exact (Below.refl _ _).alloc (Nat.le_refl _) _
  have HM := Lib.hid (members_any pv mv vs kind round d hd hl w1 (hB.call HF.out))
  have ld : (ldDigest (.pointer (some ⟨w.heap.size, 0, none⟩))).run Tryz.prog w1 = .ok (.agg (d.map bv).toArray) w1 := range_load hD.range hd
  obtain ⟨pp, hpp⟩ : ∃ pp, pp = ptrO pv := ⟨_, rfl⟩
  rw [← hpp] at HM ⊢
  clear hpp hd hl hB hD
  go_enter Tryz.func12, Tryz.ntmps12
  go_upto_region 1 with fail
  change Code.wp _ _ _ _ (w.alloc (.cells (d.map bv).toArray 24))
  rw [← hw1]
  clear hw1
  go_wp2_with (go_at_call 27; (with_reducible refine (HM.out).mono ?_); rintro e w2 ⟨v, rfl, ho, hb⟩; obtain ⟨A, c, rfl⟩ := ho.slice; have HB := Lib.hid (HF.out.trans (hb.mono HF.out.size)); clear ho hb)
  go_ret
  exact ⟨by rw [srt_len]; rfl, HB.out⟩
end Go.Proofs.YtadnnnbdlkjnkaaGreatDoor

namespace Go.Proofs.YtadnnnbdlkjnkaaGreatDoor
open Go.RowKit Go.Maps Go.Sort

/-! ### On plain lists -/
/-- Of pairs of members and rounds: each member's last round. -/
structure LastQ (ps : List (Int × Int)) (ls : List (ZX × Value)) : Prop where
  val : ∀ e ∈ ls, ∃ r, e.2 = .int .i64 r ∧ (e.1.1, r) ∈ ps ∧ ∀ r', (e.1.1, r') ∈ ps → r' ≤ r
  all : ∀ p ∈ ps, ∃ e ∈ ls, e.1.1 = p.1
set_option maxRecDepth 100000 in
theorem LastQ.start : LastQ [] [] := ⟨fun e he => (by cases he), fun p hp => (by cases hp)⟩
set_option maxRecDepth 100000 in
theorem LastQ.perm {ps qs : List (Int × Int)} {ls : List (ZX × Value)} (h : LastQ ps ls) (hp : ps.Perm qs) : LastQ qs ls :=
  ⟨fun e he => by
    obtain ⟨r, h1, h2, h3⟩ := h.val e he
    exact ⟨r, h1, hp.mem_iff.1 h2, fun r' hr' => h3 r' (hp.mem_iff.2 hr')⟩, fun p hp' => h.all p (hp.mem_iff.2 hp')⟩
def valOf : Value → Int
  | .int _ n => n
  | _ => 0
set_option maxRecDepth 100000 in
theorem LastQ.look {ps : List (Int × Int)} {ls : List (ZX × Value)} (h : LastQ ps ls) (i : ZX) : ∃ c, (lookL ls i).getD (.int .i64 0) = .int .i64 c ∧ ((∃ e ∈ ls, e.1 = i ∧ e.2 = .int .i64 c) ∨ (c = 0 ∧ ∀ e ∈ ls, e.1 ≠ i)) := by
  cases e : lookL ls i with
  | some v =>
    obtain ⟨r, h1, _⟩ := h.val _ (lookL_mem e)
    exact ⟨r, h1, .inl ⟨_, lookL_mem e, rfl, h1⟩⟩
  | none => exact ⟨0, rfl, .inr ⟨rfl, lookL_none e⟩⟩
set_option maxRecDepth 100000 in
theorem LastQ.step {ps : List (Int × Int)} {ls : List (ZX × Value)} (h : LastQ ps ls) {i : ZX} {r c : Int} (h0 : 0 ≤ r) (hc : (∃ e ∈ ls, e.1 = i ∧ e.2 = .int .i64 c) ∨ (c = 0 ∧ ∀ e ∈ ls, e.1 ≠ i)) : LastQ (ps ++ [(i.1, r)]) (setL ls i (.int .i64 (max c r))) := by
  refine ⟨fun e he => ?_, fun p hp => ?_⟩
  · rcases (mem_setL e).1 he with rfl | ⟨he, hne⟩
    · refine ⟨max c r, rfl, ?_, fun r' hr' => ?_⟩
      · rcases hc with ⟨e, he, h1, h2⟩ | ⟨rfl, _⟩
        · obtain ⟨r1, h3, h4, h5⟩ := h.val e he
          rw [h2] at h3
          injection h3 with _ h3
          subst h3
          rw [h1] at h4
          by_cases hle : c ≤ r
          · rw [Int.max_eq_right hle]; simp
          · rw [Int.max_eq_left (by omega)]; simp [h4]
        · rw [Int.max_eq_right h0]; simp
      · rcases List.mem_append.1 hr' with hr' | hr'
        · rcases hc with ⟨e, he, h1, h2⟩ | ⟨rfl, h6⟩
          · obtain ⟨r1, h3, h4, h5⟩ := h.val e he
            rw [h2] at h3
            injection h3 with _ h3
            subst h3
            have := h5 r' (by rw [h1]; exact hr')
            omega
          · obtain ⟨e, he, h7⟩ := h.all _ hr'
            exact absurd (Subtype.ext h7) (h6 e he)
        · simp only [List.mem_singleton, Prod.mk.injEq, true_and] at hr'
          omega
    · obtain ⟨r1, h3, h4, h5⟩ := h.val e he
      refine ⟨r1, h3, List.mem_append.2 (.inl h4), fun r' hr' => ?_⟩
      rcases List.mem_append.1 hr' with hr' | hr'
      · exact h5 r' hr'
      · simp only [List.mem_singleton, Prod.mk.injEq] at hr'
        exact absurd (Subtype.ext hr'.1) hne
  · rcases List.mem_append.1 hp with hp | hp
    · obtain ⟨e, he, h1⟩ := h.all p hp
      by_cases hi : e.1 = i
      · exact ⟨(i, .int .i64 (max c r)), (mem_setL _).2 (.inl rfl), by rw [← hi]; exact h1⟩
      · exact ⟨e, (mem_setL e).2 (.inr ⟨he, hi⟩), h1⟩
    · rw [List.mem_singleton.1 hp]
      exact ⟨(i, .int .i64 (max c r)), (mem_setL _).2 (.inl rfl), rfl⟩
set_option maxRecDepth 100000 in
theorem setL_le {κ : Type} [DecidableEq κ] (es : List (κ × Value)) (x : κ) (v : Value) : (setL es x v).length ≤ es.length + 1 := by
  unfold setL
  split
  · rw [List.length_map]; omega
  · simp
def entPr (e : PlX × Value) : Int × Int := (e.1.1.2.2, e.1.1.2.1)
def prX (x : VtX) : Int × Int := (x.frm, x.round)
set_option maxRecDepth 100000 in
theorem entPr_ent {m : VtM} (h : VOk m.x) : entPr m.ent = prX m.x := by
  unfold entPr VtM.ent prX
  simp only [h.at_val]
set_option maxRecDepth 100000 in
theorem entPr_all {vs : List VtM} (h : ∀ m ∈ vs, VOk m.x ∧ VFew m.x) : (vs.map VtM.ent).map entPr = (vs.map VtM.x).map prX := by
  rw [List.map_map, List.map_map]
  exact List.map_congr_left fun m hm => entPr_ent (h m hm).1

noncomputable def lkZ (m k : Value) : Sem Value := Instr.lookup 74 m k false
set_option maxRecDepth 100000 in
theorem lkZ_def (m k : Value) : Instr.lookup 74 m k false = lkZ m k := rfl
noncomputable def upZ (m k v : Value) : Sem Unit := Instr.mapUpdate 74 m k v
set_option maxRecDepth 100000 in
theorem upZ_def (m k v : Value) : Instr.mapUpdate 74 m k v = upZ m k v := rfl

attribute [local go_sem ↓] stPl_def lkZ_def upZ_def
set_option maxRecDepth 100000 in
set_option maxHeartbeats 4000000 in
theorem last_any (pv mv : Option Nat) (vs : List VtM) (hl : vs.length < 1000000) (hr : ∀ m ∈ vs, 0 ≤ m.x.round) (w : World) (hB : BoxOr w pv mv vs) :
    Calls Tryz.prog 28 #[ptrO pv] w fun e w' => ∃ mb2 ls, e = .returned (.map (some mb2)) ∧ MapIs zKey w' mb2 ls ∧ LastQ ((vs.map VtM.x).map prX) ls ∧ ls.length ≤ vs.length ∧ Below w.heap.size w w' := by
  obtain ⟨w1, hw1⟩ : ∃ w1, w1 = w.alloc (.map #[] 0) := ⟨_, rfl⟩
  have HF : Hid (Below w.heap.size w w1) := by rw [hw1]; exact (Below.refl _ _).alloc (Nat.le_refl _) _
  have HM : Hid (MapIs zKey w1 w.heap.size []) := by rw [hw1]; exact Lib.hid (MapIs.made zKey w)
  have HB := Lib.hid (hB.call HF.out)
  have HAL := Lib.hid (all_or pv mv vs w1 HB.out)
  have HL := Lib.hid hl
  have HR := Lib.hid hr
  have HOK := Lib.hid hB.ok
  have HML : Hid (∀ mb, mv = some mb → mb < w.heap.size) := Lib.hid hB.lt
  have HZ : Hid (w.heap.size < w1.heap.size) := by rw [hw1]; exact Lib.hid (by simp)
  have hmm := @run_makeMap Tryz.prog
  obtain ⟨pp, hpp⟩ : ∃ pp, pp = ptrO pv := ⟨_, rfl⟩
  rw [← hpp] at HAL ⊢
  clear hpp hl hr hB
  go_enter Tryz.func28, Tryz.ntmps28
  go_upto_region 2 with fail
  change Code.wp _ _ _ _ (w.alloc (.map #[] 0))
  rw [← hw1]
  clear hw1 hmm
  go_wp2_with (first
    | (go_at_call 48; (with_reducible refine (HAL.out).mono ?_); rintro e w2 ⟨rfl, hb2⟩; have HB2 := Lib.hid (HB.out.call hb2); have HF2 := Lib.hid (HF.out.trans (hb2.mono HF.out.size)); have HM2 := Lib.hid (HM.out.call hb2); have HZ2 := Lib.hid (Nat.lt_of_lt_of_le HZ.out hb2.size); clear hb2)
    | (at_range; refine wpList_range_is plKey _ rfl _ 65 rfl 37 Tryz.underlying65 mv _ rfl HB2.out.map ?_; intro w3 cnt hit hg3 hs3))
  go_frame
  have HI3 := Lib.hid hit
  have hb3 : Below w2.heap.size w2 w3 := ⟨hg3.os, hg3.tape, hg3.output, hg3.size, fun i hi => hg3.block i hi (by simp)⟩
  have HF3 := Lib.hid (HF2.out.trans (hb3.mono HF2.out.size))
  have HM3 := Lib.hid (HM2.out.call hb3)
  have HES : Hid ((vs.map VtM.ent).map entPr = (vs.map VtM.x).map prX) := Lib.hid (entPr_all HOK.out)
  have HEM : Hid (∀ e ∈ vs.map VtM.ent, ∃ m ∈ vs, e = m.ent) := Lib.hid (fun e he => by obtain ⟨m, hm, rfl⟩ := List.mem_map.1 he; exact ⟨m, hm, rfl⟩)
  have HEL : Hid ((vs.map VtM.ent).length = vs.length) := Lib.hid (by rw [List.length_map])
  have HRZ : Hid (w.heap.size < w2.heap.size) := HZ2
  clear hit hg3 hs3 hb3 HB2 HF2 HB HAL HF HM HM2 HZ HZ2
  generalize vs.map VtM.ent = es at *
  generalize w2.heap.size = r at *
  go_loopw [] (fun wr => ∃ cnt done ls, Hid (IterIs plKey wr mv r es done cnt) ∧ Hid (MapIs zKey wr w.heap.size ls) ∧ Hid (LastQ (done.map entPr) ls) ∧ Hid (ls.length ≤ done.length) ∧ Hid (Below w.heap.size w wr)) (fun wr => wr.rangeLeft (mv.getD r) r)
  case atStart => exact ⟨_, [], [], HI3, HM3, Lib.hid LastQ.start, Lib.hid (Nat.le_refl _), HF3⟩
  case round =>
    obtain ⟨cnt2, done, ls, HI, HM, HQ, HN, HW⟩ := hrel
    clear HI3 HM3
    go_upto_region 4 with (at_next; refine wpList_next_is plKey _ rfl _ rfl mv r _ _ _ rfl HI.out (fun hperm => ?_) (fun x v w4 cnt4 hmem hnot hit4 hlt4 hg4 hs4 hen => ?_))
    · have HQ2 : Hid (LastQ ((vs.map VtM.x).map prX) ls) := Lib.hid (HQ.out.perm (by rw [← HES.out]; exact hperm.map _))
      have HN2 : Hid (ls.length ≤ vs.length) := Lib.hid (by rw [← HEL.out, ← hperm.length_eq]; exact HN.out)
      clear hperm
      go_wp2
      go_ret
      exact ⟨_, ls, rfl, HM.out, HQ2.out, HN2.out, HW.out⟩
    · obtain ⟨m, hm, hxv⟩ := HEM.out _ hmem
      obtain ⟨rfl, rfl⟩ : x = m.x.at_ ∧ v = .agg m.cells.toArray := by
        unfold VtM.ent at hxv
        exact Prod.mk.injEq .. ▸ hxv
      have HXE := Lib.hid (HOK.out m hm).1
      have HR0 := Lib.hid (HR.out m hm)
      rw [HXE.out.at_enc] at hen ⊢
      have hz2 := HRZ.out
      have hml := HML.out
      have hdl : (done ++ [(m.x.at_, Value.agg m.cells.toArray)]).length ≤ es.length := List.Nodup.length_le_of_subset hit4.sub.1 (fun e he => hit4.sub.2 e he)
      have HNM : Hid (ls.length < maxLen) := Lib.hid (by
        have h1 := HN.out
        have h2 := HEL.out
        have h3 := HL.out
        rw [List.length_append, List.length_singleton] at hdl
        unfold maxLen
        omega)
      have hM4 : MapIs zKey w4 w.heap.size ls := HM.out.grown hg4 (by intro e; injection e with e; omega)
      have hW4 : Below w.heap.size w w4 := HW.out.trans (below_only hg4 (by omega) HW.out.size)
      obtain ⟨w6, hst0, hp6, hb6⟩ := laid_pl w4 m.x.kind m.x.round m.x.frm
      have hst := hst0
      have hM6 := hM4.call hb6
      have hI6 := hit4.call hb6
      obtain ⟨c, hc1, hc2⟩ := HQ.out.look ⟨m.x.frm, HXE.out.frm⟩
      have c1 : w6.cell? ⟨w4.heap.size, 1, none⟩ = some (.int .i64 m.x.round) := hp6.cell 1
      have c2 : w6.cell? ⟨w4.heap.size, 2, none⟩ = some (.int .i64 m.x.frm) := hp6.cell 2
      have hlk : (lkZ (.map (some w.heap.size)) (.int .i64 m.x.frm)).run Tryz.prog w6 = .ok (.int .i64 c) w6 := by
        have h := hM6.look Tryz.underlying74 (z := .int .i64 0) (by kernel_rfl) ⟨m.x.frm, HXE.out.frm⟩
        rw [hc1] at h
        exact h
      obtain ⟨w7, hup0, hM7, hg7⟩ := hM6.put Tryz.underlying74 HNM.out ⟨m.x.frm, HXE.out.frm⟩ (.int .i64 (max c m.x.round))
      have hup : (upZ (.map (some w.heap.size)) (.int .i64 m.x.frm) (.int .i64 (max c m.x.round))).run Tryz.prog w6 = .ok () w7 := hup0
      have HI7 := Lib.hid (hI6.grown hg7 (fun mb hmb e => by injection e with e; have := hml mb hmb; omega) (by intro e; injection e with e; omega))
      have HM7 := Lib.hid hM7
      have HQ7 : Hid (LastQ ((done ++ [(m.x.at_, Value.agg m.cells.toArray)]).map entPr) (setL ls ⟨m.x.frm, HXE.out.frm⟩ (.int .i64 (max c m.x.round)))) := Lib.hid (by
        rw [List.map_append, List.map_singleton]
        have h := entPr_ent HXE.out
        unfold VtM.ent prX at h
        rw [h]
        exact HQ.out.step HR0.out hc2)
      have HN7 : Hid ((setL ls ⟨m.x.frm, HXE.out.frm⟩ (.int .i64 (max c m.x.round))).length ≤ (done ++ [(m.x.at_, Value.agg m.cells.toArray)]).length) := Lib.hid (by
        have h1 := setL_le ls ⟨m.x.frm, HXE.out.frm⟩ (.int .i64 (max c m.x.round))
        have h2 := HN.out
        rw [List.length_append, List.length_singleton]
        omega)
      have hF6 := hW4.trans (hb6.mono hW4.size)
      have HF7 := Lib.hid (hF6.trans (below_only hg7 (Nat.le_refl _) hF6.size))
      have HLT : Hid (w7.rangeLeft (mv.getD r) r < wr.rangeLeft (mv.getD r) r) := Lib.hid (by rw [HI7.out.left_eq, HI.out.left_eq]; exact hlt4)
      clear hmem hnot hit4 hlt4 hg4 hs4 hxv hM4 hW4 hst0 hp6 hb6 hM6 hI6 hc1 hc2 hup0 hM7 hg7 hF6 hdl hz2 hml
      go_wp2
      go_roundw
      case rel => exact ⟨cnt4, _, _, HI7, HM7, HQ7, HN7, HF7⟩
      case measure => exact HLT.out
end Go.Proofs.YtadnnnbdlkjnkaaGreatDoor

namespace Go.Proofs.YtadnnnbdlkjnkaaGreatDoor
open Go.RowKit Go.Maps Go.Sort

/-! ### On plain lists -/
/-- Has a member a vote of a round or a later one? -/
def votB (xs : List VtX) (round : Int) (f : Nat) : Bool := xs.any fun x => decide (x.frm = (f : Int)) && decide (round ≤ x.round)
def votN (xs : List VtX) (round : Int) : Nat := ((List.range 64).filter (votB xs round)).length
set_option maxRecDepth 100000 in
theorem votB_iff {xs : List VtX} {round : Int} {f : Nat} : votB xs round f = true ↔ ∃ x ∈ xs, x.frm = (f : Int) ∧ round ≤ x.round := by
  unfold votB
  rw [List.any_eq_true]
  simp only [Bool.and_eq_true, decide_eq_true_eq]
def lateB (round : Int) (e : ZX × Value) : Bool := decide (round ≤ valOf e.2)
set_option maxRecDepth 100000 in
theorem late_count {xs : List VtX} {ls : List (ZX × Value)} (h : LastQ (xs.map prX) ls) (hn : (ls.map Prod.fst).Nodup) (hx : ∀ x ∈ xs, 1 ≤ x.frm ∧ x.frm ≤ 63) (round : Int) : (ls.filter (lateB round)).length = votN xs round := by
  have h1 : ((ls.filter (lateB round)).map fun e => e.1.1.toNat).Nodup := by
    have h2 : ls.Pairwise fun a b => a.1 ≠ b.1 := by
      unfold List.Nodup at hn
      rw [List.pairwise_map] at hn
      exact hn
    unfold List.Nodup
    rw [List.pairwise_map]
    refine List.Pairwise.imp_of_mem (fun {a b} ha hb hab e => hab ?_) (h2.filter _)
    obtain ⟨r1, _, h3, _⟩ := h.val a (List.mem_filter.1 ha).1
    obtain ⟨r2, _, h4, _⟩ := h.val b (List.mem_filter.1 hb).1
    obtain ⟨x1, hx1, e1⟩ := List.mem_map.1 h3
    obtain ⟨x2, hx2, e2⟩ := List.mem_map.1 h4
    unfold prX at e1 e2
    simp only [Prod.mk.injEq] at e1 e2
    have g1 := hx x1 hx1
    have g2 := hx x2 hx2
    exact Subtype.ext (by omega)
  have h5 : ((List.range 64).filter (votB xs round)).Nodup := (List.nodup_range).filter _
  have hp : ((ls.filter (lateB round)).map fun e => e.1.1.toNat).Perm ((List.range 64).filter (votB xs round)) := by
    refine (List.perm_ext_iff_of_nodup h1 h5).2 fun f => ?_
    rw [List.mem_map, List.mem_filter, List.mem_range, votB_iff]
    constructor
    · rintro ⟨e, he, rfl⟩
      obtain ⟨he1, he2⟩ := List.mem_filter.1 he
      obtain ⟨r, h6, h7, _⟩ := h.val e he1
      obtain ⟨x, hx1, e1⟩ := List.mem_map.1 h7
      unfold prX at e1
      simp only [Prod.mk.injEq] at e1
      unfold lateB at he2
      rw [h6] at he2
      have he3 : round ≤ r := of_decide_eq_true he2
      have g1 := hx x hx1
      exact ⟨by omega, x, hx1, by omega, by omega⟩
    · rintro ⟨hf, x, hx1, e1, e2⟩
      obtain ⟨e, he, h6⟩ := h.all (prX x) (List.mem_map.2 ⟨x, hx1, rfl⟩)
      obtain ⟨r, h7, h8, h9⟩ := h.val e he
      have h10 := h9 x.round (List.mem_map.2 ⟨x, hx1, by unfold prX; rw [h6]; rfl⟩)
      refine ⟨e, List.mem_filter.2 ⟨he, ?_⟩, ?_⟩
      · unfold lateB
        rw [h7]
        exact decide_eq_true (show round ≤ r by omega)
      · rw [h6]
        unfold prX
        show x.frm.toNat = f
        omega
  have := hp.length_eq
  rw [List.length_map] at this
  exact this

set_option maxRecDepth 100000 in
set_option maxHeartbeats 4000000 in
theorem voters_any (pv mv : Option Nat) (vs : List VtM) (round : Int) (hl : vs.length < 1000000) (w : World) (hB : BoxOr w pv mv vs) :
    Calls Tryz.prog 13 #[ptrO pv, .int .i64 round] w fun e w' => e = .returned (.int .i64 (votN (vs.map VtM.x) round : Int)) ∧ Below w.heap.size w w' := by
  have HLS := Lib.hid (last_any pv mv vs hl (fun m hm => (hB.ok m hm).1.low) w hB)
  have HG : Hid (∀ x ∈ vs.map VtM.x, 1 ≤ x.frm ∧ x.frm ≤ 63) := Lib.hid (fun x hx => by
    obtain ⟨m, hm, rfl⟩ := List.mem_map.1 hx
    exact ⟨(hB.ok m hm).1.one, (hB.ok m hm).1.most⟩)
  have HL := Lib.hid hl
  obtain ⟨pp, hpp⟩ : ∃ pp, pp = ptrO pv := ⟨_, rfl⟩
  rw [← hpp] at HLS ⊢
  clear hpp hl hB
  go_enter Tryz.func13, Tryz.ntmps13
  go_wp2_with (first
    | (go_at_call 28; (with_reducible refine (HLS.out).mono ?_); rintro e w2 ⟨mb, ls, rfl, hm2, hq2, hl2, hb2⟩; have HM2 := Lib.hid hm2; have HQ2 := Lib.hid hq2; have HL2 := Lib.hid hl2; have HF2 := Lib.hid hb2; clear hm2 hq2 hl2 hb2)
    | (at_range; refine wpList_range_is zKey _ rfl _ 74 rfl 3 Tryz.underlying74 (some mb) _ rfl HM2.out ?_; intro w3 cnt hit hg3 hs3))
  go_frame
  have HI3 := Lib.hid hit
  have hb3 : Below w2.heap.size w2 w3 := ⟨hg3.os, hg3.tape, hg3.output, hg3.size, fun i hi => hg3.block i hi (by simp)⟩
  have HF3 := Lib.hid (HF2.out.trans (hb3.mono HF2.out.size))
  have HLC : Hid ((ls.filter (lateB round)).length = votN (vs.map VtM.x) round) := Lib.hid (late_count HQ2.out HM2.out.keys HG.out round)
  have HLN : Hid (ls.length < 1000000) := Lib.hid (by have := HL2.out; have := HL.out; omega)
  have HRL : Hid (w.heap.size ≤ w2.heap.size) := Lib.hid HF2.out.size
  clear hit hg3 hs3 hb3 HM2 HF2 HL HL2
  generalize w2.heap.size = r at *
  go_loopw [5] (fun n wr => ∃ cnt done, n = .int .i64 ((done.filter (lateB round)).length : Int) ∧ Hid (IterIs zKey wr (some mb) r ls done cnt) ∧ Hid (Below w.heap.size w wr)) (fun _ wr => wr.rangeLeft mb r)
  case atStart => exact ⟨_, [], rfl, HI3, HF3⟩
  case round =>
    obtain ⟨cnt2, done, rfl, HI, HW⟩ := hrel
    clear HI3
    go_upto_region 4 with (at_next; refine wpList_next_is zKey _ rfl _ rfl (some mb) r _ _ _ rfl HI.out (fun hperm => ?_) (fun x v w4 cnt4 hmem hnot hit4 hlt4 hg4 hs4 hen => ?_))
    · have HE : Hid ((done.filter (lateB round)).length = votN (vs.map VtM.x) round) := Lib.hid (by rw [← HLC.out]; exact (hperm.filter _).length_eq)
      clear hperm
      go_wp2
      go_ret
      exact ⟨by rw [HE.out]; rfl, HW.out⟩
    · obtain ⟨r1, hr1, _, _⟩ := HQ2.out.val _ hmem
      have hr2 : v = .int .i64 r1 := hr1
      subst hr2
      have he : zKey.enc x = .int .i64 x.1 := rfl
      rw [he] at hen ⊢
      have HI4 := Lib.hid hit4
      have HLT : Hid (w4.rangeLeft mb r < wr.rangeLeft mb r) := Lib.hid (by
        have h1 := hit4.left_eq
        have h2 := HI.out.left_eq
        simp only [Option.getD_some] at h1 h2
        rw [h1, h2]
        exact hlt4)
      have HW4 : Hid (Below w.heap.size w w4) := Lib.hid (HW.out.trans (below_only hg4 HRL.out HW.out.size))
      have HFE : Hid ((done ++ [(x, Value.int .i64 r1)]).filter (lateB round) = done.filter (lateB round) ++ (if round ≤ r1 then [(x, Value.int .i64 r1)] else [])) := Lib.hid (by
        rw [List.filter_append, List.filter_cons]
        by_cases h : round ≤ r1
        · have h2 : lateB round (x, Value.int .i64 r1) = true := decide_eq_true h
          rw [if_pos h, if_pos h2]
          rfl
        · have h2 : lateB round (x, Value.int .i64 r1) = false := decide_eq_false h
          rw [if_neg h, if_neg (by rw [h2]; simp)]
          rfl)
      have HNL : Hid ((done.filter (lateB round)).length < 1000000) := Lib.hid (by
        have h1 := List.length_filter_le (lateB round) done
        have h2 := HI.out.sub
        have h3 := List.Nodup.length_le_of_subset h2.1 (fun e he => h2.2 e he)
        have := HLN.out
        omega)
      have wk : IntKind.i64.wrap (((done.filter (lateB round)).length : Int) + 1) = (((done.filter (lateB round)).length + 1 : Nat) : Int) := by
        rw [IntKind.wrap_i64]
        have := HNL.out
        omega
      clear hmem hnot hit4 hlt4 hg4 hs4 hr1
      by_cases h : round ≤ r1
      · rw [if_pos h] at HFE
        go_wp2
        go_roundw
        case rel => exact ⟨cnt4, _, by rw [HFE.out, List.length_append, List.length_singleton]; first | rfl | (congr 1), HI4, HW4⟩
        case measure => exact HLT.out
      · rw [if_neg h, List.append_nil] at HFE
        go_wp2
        go_roundw
        case rel => exact ⟨cnt4, _, by rw [HFE.out], HI4, HW4⟩
        case measure => exact HLT.out
end Go.Proofs.YtadnnnbdlkjnkaaGreatDoor

namespace Go.Proofs.YtadnnnbdlkjnkaaGreatDoor
open Go.RowKit Go.Maps Go.Sort

section
variable {κ : Type} (K : MKey κ) {F : Fence} {n : Nat} (w : World) {ops : Array Oper} {rest : List Oper} {o : Oper} {a : Act} {Q : Exit → Act → World → Prop}
set_option maxRecDepth 100000 in
theorem wpListIn_range_is (hg : o.guard = none) (m : Operand) (t : TypeId) (hop : o.op = Op.range t m) (e : TypeId) (ht : Tryz.prog.underlying t = some (.map K.t e)) (mb : Nat) (es : List (κ × Value))
    (hm : a.eval m = .map (some mb)) (h : MapIs K w mb es)
    (hK : ∀ w' cnt, cnt = es.length → IterIs K w' (some mb) w.heap.size es [] cnt → w.grownBy w' none → w'.heap.size = w.heap.size + 1 → wpListIn F n Tryz.prog ops Q rest (a.put o.dst (.pointer (some ⟨w.heap.size, 0, none⟩))) w') :
    wpListIn F n Tryz.prog ops Q (o :: rest) a w := by
  obtain ⟨D, nn, h1, h2⟩ := h.own
  refine wpListIn_range_own w hg m t hop K.t e K.keyed ht anyV mb nn D hm h1 fun w' h3 h4 h5 => hK w' _ (h2.size h1) ⟨D, nn, _, h3, h2, fun e he => ?_, List.nodup_nil, fun e he => (by cases he)⟩ h4 h5
  rw [h2.has_iff]
  exact ⟨fun _ => by simp, fun _ => ⟨e, he, rfl⟩⟩
set_option maxRecDepth 100000 in
theorem wpListIn_next_is (hg : o.guard = none) (it : Operand) (hop : o.op = Op.next it false) (mb : Nat) (r : Nat) (es done : List (κ × Value)) (cnt : Nat)
    (hit : a.eval it = .pointer (some ⟨r, 0, none⟩)) (h : IterIs K w (some mb) r es done cnt)
    (hDone : done.Perm es → wpListIn F n Tryz.prog ops Q rest (a.put o.dst (.tuple #[.bool false])) w)
    (hMore : ∀ (x : κ) (v : Value) (w' : World) (cnt' : Nat), (x, v) ∈ es → (x, v) ∉ done → IterIs K w' (some mb) r es (done ++ [(x, v)]) cnt' → cnt' < cnt →
      w.grownBy w' (some r) → w'.heap.size = w.heap.size → (Instr.entry (.pointer (some ⟨r, 0, none⟩))).run Tryz.prog w' = .ok (.tuple #[K.enc x, v]) w' → wpListIn F n Tryz.prog ops Q rest (a.put o.dst (.tuple #[.bool true, K.enc x, v])) w') :
    wpListIn F n Tryz.prog ops Q (o :: rest) a w := by
  obtain ⟨D, nn, left, h1, h2, h3, h4, h5⟩ := h
  refine wpListIn_next_ranges w hg it hop K.t K.keyed anyV K.enc id K.inv (fun v _ _ => ⟨v, rfl⟩) mb r nn D left cnt hit h1 (fun _ hl => hDone (IterIs.whole h2.keys h3 h4 h5 hl)) fun x v kl y w' cnt' hkey hlk hv hat hrg hlt hgr hsz hen => ?_
  have e1 := K.of x
  rw [hkey] at e1
  injection e1 with e1
  subst e1
  have e2 : y.1 = .held v := by
    simp only [anyV, Option.some.injEq, id_eq] at hv
    rw [← hv]
  obtain ⟨s1, s2, s3, s4, s5⟩ := IterIs.step h2 h3 h4 h5 hlk (fun z => (hat z).trans e2)
  exact hMore x v w' cnt' s1 s2 ⟨D, nn, _, hrg, h2, s3, s4, s5⟩ hlt hgr hsz hen
end
set_option maxRecDepth 100000 in
theorem IterIs.of_walks {κ : Type} {K : MKey κ} {w w' : World} {mb r : Nat} {es done : List (κ × Value)} {cnt : Nat} (h : IterIs K w (some mb) r es done cnt) (hk : KeepsWalks w w') : IterIs K w' (some mb) r es done cnt := by
  obtain ⟨D, nn, left, h1, h2, h3, h4, h5⟩ := h
  exact ⟨D, nn, left, h1.of_walks hk, h2, h3, h4, h5⟩
set_option maxRecDepth 100000 in
theorem IterIs.iter_walk {κ : Type} {K : MKey κ} {w : World} {mb r : Nat} {es done : List (κ × Value)} {cnt : Nat} (h : IterIs K w (some mb) r es done cnt) : ∃ o : Obj, w.heap[r]? = some o ∧ o.isWalk = true := by
  obtain ⟨D, nn, left, h1, _⟩ := h
  exact h1.iter_walk

set_option maxRecDepth 100000 in
set_option maxHeartbeats 2000000 in
theorem vals_gives (F : Fence) (n : Nat) (hF : F.fn 51) (hro : F.round = none) (hn : 1 ≤ n) (Bm b : Nat) (ls : List (ZX × Value)) (w : World) (hBm : Bm < w.heap.size) (hm : w.cell? ⟨Bm, 0, none⟩ = some (.map (some b))) (hM : MapIs zKey w b ls) (hv : ∀ e ∈ ls, ∃ r, e.2 = .int .i64 r) :
    SeqGives F n Tryz.prog 51 #[.pointer (some ⟨Bm, 0, none⟩)] encZ (fun zs => zs.Perm (ls.map fun e => valOf e.2)) ls.length w := by
  intro l J W hW hJ hY h0
  have hcm : W.cell? ⟨Bm, 0, none⟩ = some (.map (some b)) := (hW.cell (p := ⟨Bm, 0, none⟩) hBm).trans hm
  have hMW := hM.call hW
  clear hm hM hW
  refine callsIn_of_wp Tryz.func51 rfl hF ?_ hro
  simp only [Tryz.ntmps51, List.size_toArray, List.length_cons, List.length_nil, Nat.reduceAdd, Nat.reduceSub, Array.replicate_succ, Array.replicate_zero, List.push_toArray, List.append_toArray, List.nil_append, List.cons_append]
  gi_wp2_with (first
    | (gi_at_range; refine wpListIn_range_is zKey _ rfl _ 74 rfl 3 Tryz.underlying74 b _ rfl hMW ?_; intro w0 cnt0 hc0 hit0 hg0 hs0)
    | gi_in)
  go_frame
  gi_loopw [4] (fun _ wr => ∃ (cnt : Nat) (done : List (ZX × Value)), IterIs zKey wr (some b) W.heap.size ls done cnt ∧ J (done.map fun e => valOf e.2) wr)
    (fun _ wr => wr.rangeLeft b W.heap.size)
  case atStart =>
    exact ⟨_, [], hit0, hJ [] W w0 none h0 hg0 (fun r e => by cases e)⟩
  case round =>
    obtain ⟨cnt, done, hit, hJs⟩ := hrel
    gi_wp2_with (first
      | (gi_at_next; refine wpListIn_next_is zKey _ rfl _ rfl b W.heap.size _ _ _ rfl hit (fun hperm => ?_) (fun x v w2 cnt2 hmem hnot hit2 hlt hg2 hs2 hen => ?_))
      | gi_in)
    · gi_wp2
      go_end0
      exact ⟨⟨_, rfl⟩, _, hperm.map _, hJs⟩
    · obtain ⟨r1, hr1⟩ := hv _ hmem
      have hr2 : v = .int .i64 r1 := hr1
      subst hr2
      have HI2 := Lib.hid hit2
      have HJ2 : Hid (J (done.map fun e => valOf e.2) w2) := hJ _ wr w2 (some W.heap.size) hJs hg2 (fun r e => by cases e; exact ⟨Nat.le_refl _, hit.iter_walk⟩)
      have HLE : Hid ((done.map fun e => valOf e.2).length < ls.length) := Lib.hid (by
        have h1 := List.Nodup.length_le_of_subset hit2.sub.1 (fun e he => hit2.sub.2 e he)
        rw [List.length_append, List.length_singleton] at h1
        rw [List.length_map]
        omega)
      have HLT := Lib.hid hlt
      have HLQ : Hid (wr.rangeLeft b W.heap.size = cnt) := Lib.hid (by have h1 := hit.left_eq; simpa using h1)
      obtain ⟨fn, tmps, assign, body, hy, hR⟩ := hY _ r1 w2 HJ2.out HLE.out
      have HRR := Lib.hid hR
      clear hmem hnot hit2 hlt hg2 hs2 hen hr1 hR hJs hit
      rw [hy]
      gi_wp2
      refine HRR.out.mono ?_
      rintro e W3 ⟨rfl, hJ3, hk3⟩
      have HK3 := Lib.hid hk3
      have HJ4 := Lib.hid hJ3
      clear hk3 hJ3
      gi_wp2
      have hI3 := HI2.out.of_walks HK3.out
      go_roundw
      case rel => exact ⟨cnt2, _, hI3, by rw [List.map_append]; exact HJ4.out⟩
      case measure =>
        have h1 := hI3.left_eq
        simp only [Option.getD_some] at h1
        rw [h1, HLQ.out]
        exact HLT.out
set_option maxRecDepth 100000 in
theorem values_any (mb : Option Nat) (w : World) : Calls Tryz.prog 30 #[.map mb] w fun e w' => e = .returned (.func (.func 51) #[] #[.pointer (some ⟨w.heap.size, 0, none⟩)]) ∧ w' = w.alloc (.cells #[.map mb] 74) := by
  go_enter Tryz.func30, Tryz.ntmps30
  go_wp2
  go_ret
  exact ⟨rfl, rfl⟩
set_option maxRecDepth 100000 in
theorem sortsI (m : Nat) : AnyZI.SortsIn Tryz.prog sortedIRen Fence.wide m :=
  ⟨fun blk off cap ss W hH hblk hsz => callsIn_wide.2 (AnyM.slices_Sort_int sortILay blk off cap ss W hH hblk hsz),
   fun p cap W => callsIn_wide.2 (AnyM.slices_Sort_int_none sortILay p cap W)⟩
set_option maxRecDepth 100000 in
/-- slices.Sorted of what maps.Values handed back. -/
theorem sorted_vals (Bm b : Nat) (ls : List (ZX × Value)) (hl : ls.length < 1000000) (w : World) (hBm : Bm < w.heap.size) (hm : w.cell? ⟨Bm, 0, none⟩ = some (.map (some b))) (hM : MapIs zKey w b ls) (hv : ∀ e ∈ ls, ∃ r, e.2 = .int .i64 r) :
    Calls Tryz.prog 29 #[.func (.func 51) #[] #[.pointer (some ⟨Bm, 0, none⟩)]] w fun e w' => ∃ v, e = .returned v ∧ IntK.Own w' w.heap.size v (srt (ls.map fun e => valOf e.2)) ∧ Below w.heap.size w w' := by
  refine (callsIn_wide (n := 5)).1 ?_
  have hseq := vals_gives Fence.wide 2 trivial rfl (by omega) Bm b ls w hBm hm hM hv
  have cS := AnyZI.sorted_in sortedILay Fence.wide 5 trivial trivial trivial trivial rfl (by omega) (sortsI _) (enters_of Tryz.func49 (by kernel_rfl) rfl) 51 #[.pointer (some ⟨Bm, 0, none⟩)] trivial (enters_of Tryz.func51 (by kernel_rfl) rfl) _ ls.length (by unfold maxLen; omega) (by omega) w hseq
  change CallsIn _ _ Tryz.prog 29 _ _ _ at cS
  refine cS.mono ?_
  rintro e w' ⟨v, ss, rfl, hS, hrow, _, hb⟩
  refine ⟨v, rfl, ?_, hb⟩
  have e1 : srt (ls.map fun e => valOf e.2) = srt ss := (srt_eq hS).symm
  rw [e1]
  show World.ownsRow _ _ 3 1 _ (srt ss).length (IntK.flat (srt ss))
  rw [IntK_flat, srt_len]
  exact hrow
end Go.Proofs.YtadnnnbdlkjnkaaGreatDoor
