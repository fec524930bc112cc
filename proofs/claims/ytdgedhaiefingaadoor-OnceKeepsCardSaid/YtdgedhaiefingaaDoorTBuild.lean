/-
  A slice literal of digests, frozen: what it makes.
-/
import Derived.Test.YtdgedhaiefingaaDoorTGen
namespace Go.Proofs.YtdgedhaiefingaaDoor
open Go.RowKit

noncomputable def bsAll (n : Nat) (parts : Array (Nat × Value)) : Sem Value := Instr.buildSlice 27 n parts
theorem bsAll_def (n : Nat) (parts : Array (Nat × Value)) : Instr.buildSlice 27 n parts = bsAll n parts := rfl

theorem fold_mid : ∀ (l : List Value) (k off : Nat) (pre mid post : List Value), pre.length = off + k → mid.length = l.length →
    (l.zipIdx k).foldl (fun (cs : Array Value) (x : Value × Nat) => cs.setIfInBounds (off + x.2) x.1) (pre ++ (mid ++ post)).toArray = (pre ++ (l ++ post)).toArray
  | [], k, off, pre, mid, post, _, hm => by
    rw [List.eq_nil_of_length_eq_zero hm]
    rfl
  | v :: l, k, off, pre, [], post, _, hm => by simp at hm
  | v :: l, k, off, pre, m :: mid, post, hp, hm => by
    rw [List.zipIdx_cons, List.foldl_cons]
    have e : (pre ++ (m :: mid ++ post)).toArray.setIfInBounds (off + k) v = ((pre ++ [v]) ++ (mid ++ post)).toArray := by
      apply Array.ext'
      rw [Array.toList_setIfInBounds]
      show (pre ++ m :: (mid ++ post)).set (off + k) v = _
      rw [← hp, List.set_append_right _ _ (Nat.le_refl _), Nat.sub_self, List.set_cons_zero]
      simp
    show (l.zipIdx (k + 1)).foldl _ ((pre ++ (m :: mid ++ post)).toArray.setIfInBounds (off + k) v) = _
    rw [e, fold_mid l (k + 1) off (pre ++ [v]) mid post (by rw [List.length_append, List.length_singleton]; omega) (by simpa using hm)]
    simp

def partsFrom : Nat → List (List UInt8) → List (Nat × Value)
  | _, [] => []
  | k, d :: r => (k, .agg (d.map bv).toArray) :: partsFrom (k + 1) r
theorem fill_digs : ∀ (r : List (List UInt8)) (k : Nat) (pre : List Value), AllD r → pre.length = k * 32 →
    Instr.fill (fun i => some (i * 32, 32)) (pre ++ zerosD (r.length * 32)).toArray (partsFrom k r) = some (pre ++ r.flatten.map bv).toArray
  | [], k, pre, _, _ => rfl
  | d :: r, k, pre, h, hp => by
    have hd := h d (List.mem_cons_self ..)
    have e : zerosD ((d :: r).length * 32) = zerosD 32 ++ zerosD (r.length * 32) := by
      unfold zerosD
      rw [List.replicate_append_replicate, List.length_cons]
      congr 1
      omega
    have hz : (zerosD 32).length = 32 := rfl
    have hz2 : (zerosD (r.length * 32)).length = r.length * 32 := by unfold zerosD; exact List.length_replicate
    rw [e]
    unfold partsFrom Instr.fill
    have hsz : (Value.agg (d.map bv).toArray).cells.size = 32 := by
      show (d.map bv).toArray.size = 32
      rw [List.size_toArray, List.length_map, hd]
    have hf : (Value.agg (d.map bv).toArray).cells.zipIdx.foldl (fun (cs : Array Value) (x : Value × Nat) => cs.setIfInBounds (k * 32 + x.2) x.1) (pre ++ (zerosD 32 ++ zerosD (r.length * 32))).toArray = ((pre ++ d.map bv) ++ zerosD (r.length * 32)).toArray := by
      show (d.map bv).toArray.zipIdx.foldl _ _ = _
      rw [← Array.foldl_toList, Array.toList_zipIdx, List.toList_toArray, fold_mid (d.map bv) 0 (k * 32) pre (zerosD 32) _ (by rw [hp, Nat.add_zero]) (by rw [List.length_map, hd, hz]), List.append_assoc]
    simp only [hsz]
    rw [if_neg (by simp [hz, hz2, hp])]
    refine (congrArg (fun c => Instr.fill _ c _) hf).trans ?_
    rw [fill_digs r (k + 1) (pre ++ d.map bv) h.tail (by rw [List.length_append, List.length_map, hd, hp]; omega), List.flatten_cons, List.map_append, List.append_assoc]

/-- A slice literal of digests. -/
theorem build_digs (ds : List (List UInt8)) (h : AllD ds) (hn : ds.length ≤ 1000) (hp : 0 < ds.length) (w : World) :
    (bsAll ds.length (partsFrom 0 ds).toArray).run Tryd.prog w = .ok (.slice (some ⟨w.heap.size, 0, none⟩) ds.length ds.length) (w.alloc (.cells (ds.flatten.map bv).toArray 23)) := by
  obtain ⟨i0, hi0, hz0, hz1, hz2⟩ := info_parts dig_info3
  have hu : Tryd.prog.underlying 27 = some (.slice 23) := Tryd.underlying27
  have hzer : ((Array.range (ds.length * 32)).map fun x => (List.replicate 32 (Value.int .u8 0)).toArray[x % (List.replicate 32 (Value.int .u8 0)).toArray.size]!) = ([] ++ zerosD (ds.length * 32)).toArray := by
    rw [List.nil_append, ← made_zeros]
    rfl
  have hfill := fill_digs ds 0 [] h (by simp)
  have h1 : ¬ 16777216 < ds.length * 32 := by omega
  have h2 : ds.length * 32 ≠ 0 := by omega
  unfold bsAll Instr.buildSlice
  have hs : (sizeOf 23).run Tryd.prog w = .ok 32 w := by kernel_rfl
  have hz : (zeroValue 23).run Tryd.prog w = .ok (.agg (List.replicate 32 (Value.int .u8 0)).toArray) w := by kernel_rfl
  have hcl : (Value.agg (List.replicate 32 (Value.int .u8 0)).toArray).cells = (List.replicate 32 (Value.int .u8 0)).toArray := rfl
  simp only [Sem.run_bind, run_underlying hu, Result.andThen_ok, hs, h1, h2, if_false, hz, hcl, Sem.run_pure, show (2 : Nat) ^ 24 = 16777216 from rfl, gt_iff_lt]
  rw [hzer, hfill]
  simp [newRow]
end Go.Proofs.YtdgedhaiefingaaDoor
