/-
  A signature in memory: its two lists of digests, while they are filled and then.
-/
import Derived.Test.YtdgedhaiefingaaDoorTOwn
import Derived.Test.YtdgedhaiefingaaDoorOPlain
namespace Go.Proofs.YtdgedhaiefingaaDoor
open Go.RowKit

/-- The first k digests of X, and zeros. -/
def fillD (X : List (List UInt8)) (k : Nat) : Array Value := ((X.take k).flatten.map bv ++ zerosD ((X.length - k) * 32)).toArray
theorem fillD_size {k : Nat} {X : List (List UInt8)} (h : AllD X) (hk : k ≤ X.length) : (fillD X k).size = X.length * 32 := by
  have := (h.take k).flat
  rw [List.length_take] at this
  unfold fillD zerosD
  rw [List.size_toArray, List.length_append, List.length_map, List.length_replicate, this]
  omega
theorem fillD_zero (X : List (List UInt8)) : fillD X 0 = (zerosD (X.length * 32)).toArray := by
  unfold fillD
  simp
theorem fillD_all (X : List (List UInt8)) : fillD X X.length = (X.flatten.map bv).toArray := by
  unfold fillD zerosD
  simp
theorem Box.fill_put {w : World} {g : Nat} {t : TypeId} {X : List (List UInt8)} {k : Nat} (h : Box w g t (fillD X k)) (ha : AllD X) (hk : k < X.length) : Box (w.setCells g (k * 32) ((X.getD k []).map bv)) g t (fillD X (k + 1)) := by
  have hf := (ha.take k).flat
  rw [List.length_take] at hf
  unfold fillD at h ⊢
  have e : zerosD ((X.length - k) * 32) = zerosD 32 ++ zerosD ((X.length - (k + 1)) * 32) := by
    unfold zerosD
    rw [List.replicate_append_replicate]
    congr 1
    omega
  rw [e] at h
  have hp := h.put_mid (o := k * 32) (vs := (X.getD k []).map bv) (by rw [List.length_map, hf]; omega) (by rw [List.length_map, ha.get hk []]; unfold zerosD; rw [List.length_replicate])
  have e2 : (X.take k).flatten.map bv ++ ((X.getD k []).map bv ++ zerosD ((X.length - (k + 1)) * 32)) = (X.take (k + 1)).flatten.map bv ++ zerosD ((X.length - (k + 1)) * 32) := by
    rw [List.take_succ_eq_append_getElem hk, List.flatten_append, List.map_append, List.append_assoc, List.getD_eq_getElem?_getD, List.getElem?_eq_getElem hk]
    simp
  rw [e2] at hp
  exact hp
theorem sign_lens (seed : List UInt8) (leaf : Int) (d : List UInt8) : (openT seed leaf d).length = 32 ∧ (shutT seed leaf d).length = 32 := by
  unfold openT shutT
  constructor <;> simp
theorem open_all (seed : List UInt8) (leaf : Int) (d : List UInt8) : AllD (openT seed leaf d) := by
  intro x hx
  obtain ⟨i, _, rfl⟩ := List.mem_map.1 hx
  rfl
theorem shut_all (seed : List UInt8) (leaf : Int) (d : List UInt8) : AllD (shutT seed leaf d) := by
  intro x hx
  obtain ⟨i, _, rfl⟩ := List.mem_map.1 hx
  rfl
theorem open_at (seed : List UInt8) (leaf : Int) (d : List UInt8) {i : Nat} (h : i < 32) : (openT seed leaf d).getD i [] = secT seed leaf (2 * i + bitT d i) := by
  unfold openT
  rw [List.getD_eq_getElem?_getD, List.getElem?_map, List.getElem?_range h]
  rfl
theorem shut_at (seed : List UInt8) (leaf : Int) (d : List UInt8) {i : Nat} (h : i < 32) : (shutT seed leaf d).getD i [] = shaOf (secT seed leaf (2 * i + (1 - bitT d i))) := by
  unfold shutT
  rw [List.getD_eq_getElem?_getD, List.getElem?_map, List.getElem?_range h]
  rfl

/-- A signature's value: two slices. -/
abbrev onceV (g h : Nat) (c c' : Nat) : Array Value := #[.slice (some ⟨g, 0, none⟩) 32 c, .slice (some ⟨h, 0, none⟩) 32 c']

/-- What the walk of Sign carries of memory. -/
structure SgW (w1 : World) (a g h : Nat) (X Y : List (List UInt8)) (k l : Nat) (w : World) : Prop where
  own : Box w a 29 (onceV g h 32 32)
  op : Box w g 23 (fillD X k)
  sh : Box w h 23 (fillD Y l)
  far : Below w1.heap.size w1 w
  ha : w1.heap.size ≤ a
  hg : w1.heap.size ≤ g
  hh : w1.heap.size ≤ h
  ne : g ≠ h
theorem SgW.call {w1 w w' : World} {a g h : Nat} {X Y : List (List UInt8)} {k l : Nat} (s : SgW w1 a g h X Y k l w) (hb : Below w.heap.size w w') : SgW w1 a g h X Y k l w' :=
  ⟨s.own.below hb s.own.lt, s.op.below hb s.op.lt, s.sh.below hb s.sh.lt, s.far.trans (hb.mono s.far.size), s.ha, s.hg, s.hh, s.ne⟩
theorem SgW.drew {w1 w : World} {a g h : Nat} {X Y : List (List UInt8)} {k l : Nat} (s : SgW w1 a g h X Y k l w) : SgW w1 a g h X Y k l w.drew := s.call (Below.refl _ _).drew
theorem SgW.put_op {w1 w : World} {a g h : Nat} {X Y : List (List UInt8)} {k l : Nat} (s : SgW w1 a g h X Y k l w) (hX : AllD X) (hk : k < X.length) : SgW w1 a g h X Y (k + 1) l (w.setCells g (k * 32) ((X.getD k []).map bv)) := by
  have hg := only_cells (g := g) ((X.getD k []).map bv) (k * 32) w
  have hag := Box.apart s.own s.op (by decide)
  exact ⟨s.own.grown hg (fun e => hag (by injection e)), s.op.fill_put hX hk, s.sh.grown hg (fun e => s.ne (by injection e with e; exact e.symm)), below_cells s.far s.hg s.far.size _ _, s.ha, s.hg, s.hh, s.ne⟩
theorem SgW.put_sh {w1 w : World} {a g h : Nat} {X Y : List (List UInt8)} {k l : Nat} (s : SgW w1 a g h X Y k l w) (hY : AllD Y) (hl : l < Y.length) : SgW w1 a g h X Y k (l + 1) (w.setCells h (l * 32) ((Y.getD l []).map bv)) := by
  have hg := only_cells (g := h) ((Y.getD l []).map bv) (l * 32) w
  have hah := Box.apart s.own s.sh (by decide)
  exact ⟨s.own.grown hg (fun e => hah (by injection e)), s.op.grown hg (fun e => s.ne (by injection e)), s.sh.fill_put hY hl, below_cells s.far s.hh s.far.size _ _, s.ha, s.hg, s.hh, s.ne⟩

/-- What Sign answers: two lists of digests, in new memory, not the same. -/
def SignIs (w : World) (X Y : List (List UInt8)) (e : Ending) (w' : World) : Prop :=
  ∃ g h, e = .returned (.agg (onceV g h 32 32)) ∧ Box w' g 23 (X.flatten.map bv).toArray ∧ Box w' h 23 (Y.flatten.map bv).toArray ∧ w.heap.size ≤ g ∧ w.heap.size ≤ h ∧ g ≠ h ∧ Below w.heap.size w w'
theorem SgW.is {w1 w : World} {a g h : Nat} {X Y : List (List UInt8)} (s : SgW w1 a g h X Y X.length Y.length w) : Box w g 23 (X.flatten.map bv).toArray ∧ Box w h 23 (Y.flatten.map bv).toArray := by
  have h1 := s.op
  have h2 := s.sh
  rw [fillD_all] at h1 h2
  exact ⟨h1, h2⟩
theorem once_size (g h c c' : Nat) : (Tryd.prog.info? 29).map (·.size) = some (onceV g h c c').size := by
  show _ = some 2
  kernel_rfl
theorem once_list (g h c c' : Nat) : (Tryd.prog.info? 29).map (·.size) = some (onceV g h c c').toList.length := by
  show _ = some 2
  kernel_rfl
theorem once_one (g h c c' : Nat) : ∀ v ∈ (onceV g h c c').toList, v.oneCell' = true := by
  intro v hv
  simp at hv
  rcases hv with rfl | rfl <;> rfl
end Go.Proofs.YtdgedhaiefingaaDoor
