/-
  A digest's bit: once.bit, and the document's (wapentakeref04.Bit).
  A signature in memory: its two lists of digests, while they are filled and then.
  The document's bytes of a number (wapentakeref01.Num).
  A secret's digest: once.shut, and the document's (wapentakeref04.Shut).
-/
import Derived.Test.YtbclepdcngaonaaDoorTG
import Derived.Test.YtbclepdcngaonaaDoorOX
import Derived.Test.YtbclepdcngaonaaDoorWr
import Derived.Test.YtbclepdcngaonaaDoorSRef
import Derived.Test.YtbclepdcngaonaaDoorSD
namespace Go.Proofs.YtbclepdcngaonaaDoor
open Go.RowKit

theorem d_cell {d : List UInt8} (hd : d.length = 32) {i : Nat} (hi : i < 32) {w : World} {g : Nat} {t : TypeId} (h : Box w g t (d.map bv).toArray) : w.cell? ⟨g, i / 8, none⟩ = some (.int .u8 ((d.getD (i / 8) 0).toNat : Int)) := by
  have hj : i / 8 < d.length := by omega
  rw [h.cell, List.getElem?_toArray, List.getElem?_map, List.getElem?_eq_getElem hj, List.getD_eq_getElem?_getD, List.getElem?_eq_getElem hj]
  rfl
theorem and_one (n : Nat) (hn : n < 256) : bits .and .i64 (n : Int) 1 = ((n % 2 : Nat) : Int) := by
  revert n
  decide +kernel
theorem bit_of_byte (b k : Nat) (hb : b < 256) : bits .and .i64 (wrap64 ((b : Int) / 2 ^ k)) 1 = ((b / 2 ^ k % 2 : Nat) : Int) := by
  have h0 : b / 2 ^ k < 256 := Nat.lt_of_le_of_lt (Nat.div_le_self _ _) hb
  have e : ((b : Int) / 2 ^ k) = ((b / 2 ^ k : Nat) : Int) := by
    rw [Int.natCast_ediv, Int.natCast_pow]
    rfl
  rw [e]
  have e2 : wrap64 ((b / 2 ^ k : Nat) : Int) = ((b / 2 ^ k : Nat) : Int) := by
    generalize b / 2 ^ k = m at *
    unfold wrap64
    omega
  rw [e2]
  exact and_one _ h0

set_option maxRecDepth 100000 in
set_option maxHeartbeats 800000 in
theorem bit_any (d : List UInt8) (hd : d.length = 32) (i : Nat) (hi : i < 32) (w : World) :
    Calls Tryd.prog 64 #[.agg (d.map bv).toArray, .int .i64 (i : Int)] w fun e w' => e = .returned (.int .i64 (bitT d i : Int)) ∧ Below w.heap.size w w' := by
  have hB : Box (w.alloc (.cells (d.map bv).toArray 32)) w.heap.size 32 (d.map bv).toArray := Box.made w _ _
  have hc := d_cell hd hi hB
  have HF : Hid (Below w.heap.size w (w.alloc (.cells (d.map bv).toArray 32))) := (Below.refl _ _).alloc (Nat.le_refl _) _
  clear hB
  have HE : Hid (bits .and .i64 (wrap64 (((d.getD (i / 8) 0).toNat : Int) / 2 ^ (7 - i % 8))) 1 = (bitT d i : Int)) := bit_of_byte _ _ (UInt8.toNat_lt _)
  generalize d.getD (i / 8) 0 = b at *
  go_enter Tryd.func64, Tryd.ntmps64
  go_upto_region 1 with fail
  change Code.wp _ _ _ _ (w.alloc (.cells (d.map bv).toArray 32))
  generalize w.alloc (.cells (d.map bv).toArray 32) = w1 at *
  go_wp2
  go_ret
  exact ⟨ret_val (congrArg (Value.int .i64) HE.out), HF.out⟩

end Go.Proofs.YtbclepdcngaonaaDoor

namespace Go.Proofs.YtbclepdcngaonaaDoor
open Go.RowKit

/-- The first k digests of X, and zeros. -/
def fillD (X : List (List UInt8)) (k : Nat) : Array Value := ((X.take k).flatten.map bv ++ zerosD ((X.length - k) * 32)).toArray
theorem fillD_size {k : Nat} {X : List (List UInt8)} (h : AllD X) (hk : k ≤ X.length) : (fillD X k).size = X.length * 32 := by
  have := (h.take k).flat
  rw [List.length_take] at this
  unfold fillD zerosD
  rw [List.size_toArray, List.length_append, List.length_map, List.length_replicate, this]
  omega
theorem fillD_zero (X : List (List UInt8)) : fillD X 0 = (zerosD (X.length * 32)).toArray := by
  unfold fillD
  simp
theorem fillD_all (X : List (List UInt8)) : fillD X X.length = (X.flatten.map bv).toArray := by
  unfold fillD zerosD
  simp
theorem Box.fill_put {w : World} {g : Nat} {t : TypeId} {X : List (List UInt8)} {k : Nat} (h : Box w g t (fillD X k)) (ha : AllD X) (hk : k < X.length) : Box (w.setCells g (k * 32) ((X.getD k []).map bv)) g t (fillD X (k + 1)) := by
  have hf := (ha.take k).flat
  rw [List.length_take] at hf
  unfold fillD at h ⊢
  have e : zerosD ((X.length - k) * 32) = zerosD 32 ++ zerosD ((X.length - (k + 1)) * 32) := by
    unfold zerosD
    rw [List.replicate_append_replicate]
    congr 1
    omega
  rw [e] at h
  have hp := h.put_mid (o := k * 32) (vs := (X.getD k []).map bv) (by rw [List.length_map, hf]; omega) (by rw [List.length_map, ha.get hk []]; unfold zerosD; rw [List.length_replicate])
  have e2 : (X.take k).flatten.map bv ++ ((X.getD k []).map bv ++ zerosD ((X.length - (k + 1)) * 32)) = (X.take (k + 1)).flatten.map bv ++ zerosD ((X.length - (k + 1)) * 32) := by
    rw [List.take_succ_eq_append_getElem hk, List.flatten_append, List.map_append, List.append_assoc, List.getD_eq_getElem?_getD, List.getElem?_eq_getElem hk]
    simp
  rw [e2] at hp
  exact hp
theorem sign_lens (seed : List UInt8) (leaf : Int) (d : List UInt8) : (openT seed leaf d).length = 32 ∧ (shutT seed leaf d).length = 32 := by
  unfold openT shutT
  constructor <;> simp
theorem open_all (seed : List UInt8) (leaf : Int) (d : List UInt8) : AllD (openT seed leaf d) := by
  intro x hx
  obtain ⟨i, _, rfl⟩ := List.mem_map.1 hx
  rfl
theorem shut_all (seed : List UInt8) (leaf : Int) (d : List UInt8) : AllD (shutT seed leaf d) := by
  intro x hx
  obtain ⟨i, _, rfl⟩ := List.mem_map.1 hx
  rfl
theorem open_at (seed : List UInt8) (leaf : Int) (d : List UInt8) {i : Nat} (h : i < 32) : (openT seed leaf d).getD i [] = secT seed leaf (2 * i + bitT d i) := by
  unfold openT
  rw [List.getD_eq_getElem?_getD, List.getElem?_map, List.getElem?_range h]
  rfl
theorem shut_at (seed : List UInt8) (leaf : Int) (d : List UInt8) {i : Nat} (h : i < 32) : (shutT seed leaf d).getD i [] = shaOf (secT seed leaf (2 * i + (1 - bitT d i))) := by
  unfold shutT
  rw [List.getD_eq_getElem?_getD, List.getElem?_map, List.getElem?_range h]
  rfl

/-- A signature's value: two slices. -/
abbrev onceV (g h : Nat) (c c' : Nat) : Array Value := #[.slice (some ⟨g, 0, none⟩) 32 c, .slice (some ⟨h, 0, none⟩) 32 c']

/-- What the walk of Sign carries of memory. -/
structure SgW (w1 : World) (a g h : Nat) (X Y : List (List UInt8)) (k l : Nat) (w : World) : Prop where
  own : Box w a 52 (onceV g h 32 32)
  op : Box w g 32 (fillD X k)
  sh : Box w h 32 (fillD Y l)
  far : Below w1.heap.size w1 w
  ha : w1.heap.size ≤ a
  hg : w1.heap.size ≤ g
  hh : w1.heap.size ≤ h
  ne : g ≠ h
theorem SgW.call {w1 w w' : World} {a g h : Nat} {X Y : List (List UInt8)} {k l : Nat} (s : SgW w1 a g h X Y k l w) (hb : Below w.heap.size w w') : SgW w1 a g h X Y k l w' :=
  ⟨s.own.below hb s.own.lt, s.op.below hb s.op.lt, s.sh.below hb s.sh.lt, s.far.trans (hb.mono s.far.size), s.ha, s.hg, s.hh, s.ne⟩
theorem SgW.drew {w1 w : World} {a g h : Nat} {X Y : List (List UInt8)} {k l : Nat} (s : SgW w1 a g h X Y k l w) : SgW w1 a g h X Y k l w.drew := s.call (Below.refl _ _).drew
theorem SgW.put_op {w1 w : World} {a g h : Nat} {X Y : List (List UInt8)} {k l : Nat} (s : SgW w1 a g h X Y k l w) (hX : AllD X) (hk : k < X.length) : SgW w1 a g h X Y (k + 1) l (w.setCells g (k * 32) ((X.getD k []).map bv)) := by
  have hg := only_cells (g := g) ((X.getD k []).map bv) (k * 32) w
  have hag := Box.apart s.own s.op (by decide)
  exact ⟨s.own.grown hg (fun e => hag (by injection e)), s.op.fill_put hX hk, s.sh.grown hg (fun e => s.ne (by injection e with e; exact e.symm)), below_cells s.far s.hg s.far.size _ _, s.ha, s.hg, s.hh, s.ne⟩
theorem SgW.put_sh {w1 w : World} {a g h : Nat} {X Y : List (List UInt8)} {k l : Nat} (s : SgW w1 a g h X Y k l w) (hY : AllD Y) (hl : l < Y.length) : SgW w1 a g h X Y k (l + 1) (w.setCells h (l * 32) ((Y.getD l []).map bv)) := by
  have hg := only_cells (g := h) ((Y.getD l []).map bv) (l * 32) w
  have hah := Box.apart s.own s.sh (by decide)
  exact ⟨s.own.grown hg (fun e => hah (by injection e)), s.op.grown hg (fun e => s.ne (by injection e)), s.sh.fill_put hY hl, below_cells s.far s.hh s.far.size _ _, s.ha, s.hg, s.hh, s.ne⟩

/-- What Sign answers: two lists of digests, in new memory, not the same. -/
def SignIs (w : World) (X Y : List (List UInt8)) (e : Ending) (w' : World) : Prop :=
  ∃ g h, e = .returned (.agg (onceV g h 32 32)) ∧ Box w' g 32 (X.flatten.map bv).toArray ∧ Box w' h 32 (Y.flatten.map bv).toArray ∧ w.heap.size ≤ g ∧ w.heap.size ≤ h ∧ g ≠ h ∧ Below w.heap.size w w'
theorem SgW.is {w1 w : World} {a g h : Nat} {X Y : List (List UInt8)} (s : SgW w1 a g h X Y X.length Y.length w) : Box w g 32 (X.flatten.map bv).toArray ∧ Box w h 32 (Y.flatten.map bv).toArray := by
  have h1 := s.op
  have h2 := s.sh
  rw [fillD_all] at h1 h2
  exact ⟨h1, h2⟩
theorem once_size (g h c c' : Nat) : (Tryd.prog.info? 52).map (·.size) = some (onceV g h c c').size := by
  show _ = some 2
  kernel_rfl
theorem once_list (g h c c' : Nat) : (Tryd.prog.info? 52).map (·.size) = some (onceV g h c c').toList.length := by
  show _ = some 2
  kernel_rfl
theorem once_one (g h c c' : Nat) : ∀ v ∈ (onceV g h c c').toList, v.oneCell' = true := by
  intro v hv
  simp at hv
  rcases hv with rfl | rfl <;> rfl
end Go.Proofs.YtbclepdcngaonaaDoor

namespace Go.Proofs.YtbclepdcngaonaaDoor
open Go.RowKit

/-- 'byte(n >> 8i)' of a signed word. -/
theorem shr_byte (n : Int) (i : Nat) (hi : i < 8) : IntKind.u8.wrap (n / 256 ^ i) = ((UInt8.ofNat ((n % 18446744073709551616).toNat / 256 ^ i)).toNat : Int) := by
  rw [IntKind.wrap_u8', UInt8.toNat_ofNat']
  have e : ((2 : Nat) ^ 8) = 256 := rfl
  rw [e]
  have h0 : 0 ≤ n % 18446744073709551616 := Int.emod_nonneg _ (by decide)
  obtain ⟨N, hN⟩ : ∃ N : Nat, (N : Int) = n % 18446744073709551616 := ⟨(n % 18446744073709551616).toNat, by omega⟩
  rw [← hN, Int.toNat_natCast]
  match i, hi with
  | 0, _ => simp; omega
  | 1, _ => simp; omega
  | 2, _ => simp; omega
  | 3, _ => simp; omega
  | 4, _ => simp; omega
  | 5, _ => simp; omega
  | 6, _ => simp; omega
  | 7, _ => simp; omega

theorem set_back (m : Nat) (b : UInt8) (L : List UInt8) : ((List.replicate (m + 1) 0 ++ L).map bv).toArray.setIfInBounds m (bv b) = ((List.replicate m 0 ++ b :: L).map bv).toArray := by
  rw [List.setIfInBounds_toArray]
  congr 1
  rw [List.replicate_succ', List.append_assoc, List.map_append, List.map_append, List.set_append_right _ _ (by simp)]
  simp

end Go.Proofs.YtbclepdcngaonaaDoor

namespace Go.Proofs.YtbclepdcngaonaaDoor
open Go.RowKit

set_option maxRecDepth 100000 in
set_option maxHeartbeats 1000000 in
theorem shut_any (s : List UInt8) (hs : s.length = 32) (w : World) (hR : Roots w) :
    Calls Tryd.prog 63 #[.agg (s.map bv).toArray] w fun e w' => e = .returned (.agg ((shaOf s).map bv).toArray) ∧ Below w.heap.size w w' := by
  have hS : Box ((w.alloc (.cells (s.map bv).toArray 32)).alloc (.cells zs32 32)) w.heap.size 32 (s.map bv).toArray := (Box.made w _ _).alloc _
  have HO : Hid (Box ((w.alloc (.cells (s.map bv).toArray 32)).alloc (.cells zs32 32)) (w.heap.size + 1) 32 zs32) := Box.made_at (by simp) _ _
  have HF : Hid (Below w.heap.size w ((w.alloc (.cells (s.map bv).toArray 32)).alloc (.cells zs32 32))) := ((Below.refl _ _).alloc (Nat.le_refl _) _).alloc (by simp) _
  have HN : Hid (((w.alloc (.cells (s.map bv).toArray 32)).alloc (.cells zs32 32)).heap.size = w.heap.size + 1 + 1) := Lib.hid (by simp)
  go_enter Tryd.func63, Tryd.ntmps63
  go_upto_region 1 with fail
  change Code.wp _ _ _ _ ((w.alloc (.cells (s.map bv).toArray 32)).alloc (.cells zs32 32))
  generalize (w.alloc (.cells (s.map bv).toArray 32)).alloc (.cells zs32 32) = w1 at *
  have hFW : Below w1.heap.size w1 (w1.alloc (.cells #[.slice (some ⟨w.heap.size, 0, none⟩) 32 32] 76)) := (Below.refl _ _).alloc (Nat.le_refl _) _
  have hBV : Box (w1.alloc (.cells #[.slice (some ⟨w.heap.size, 0, none⟩) 32 32] 76)) w1.heap.size 76 #[.slice (some ⟨w.heap.size, 0, none⟩) 32 32] := Box.made _ _ _
  have hBS := hS.below hFW hS.lt
  have hp : Pieces (w1.alloc (.cells #[.slice (some ⟨w.heap.size, 0, none⟩) 32 32] 76)) _ (some ⟨w1.heap.size, 0, none⟩) [s] :=
    Pieces.one (p := s) (by rw [hs]; exact hBV) hBV.lt (by omega) (by simp [maxLen]) (Sees.of_box hBS hBS.lt)
  have hfl : ([s] : List (List UInt8)).flatten = s := by simp
  have HOF := Lib.hid (of_any [s] (some ⟨w1.heap.size, 0, none⟩) 1 _ hp (by simp) (by rw [hfl]; omega) (hR.of_below (HF.out.trans (hFW.mono HF.out.size))))
  rw [hfl] at HOF
  have HDL : Hid ((shaOf s).length = 32) := Lib.hid rfl
  generalize hd : shaOf s = d at *
  have HD := Lib.hid hd
  have HFW := Lib.hid hFW
  have HSM := Lib.hid (dig_same d HDL.out)
  have HSZ := Lib.hid (dig_size d HDL.out)
  clear hFW hBV hBS hp hfl hS hd
  go_wp2_with (first
    | (go_at_call 24; refine (HOF.out).mono ?_; rintro e w6 ⟨rfl, hB6⟩; have HB6 := Lib.hid (HFW.out.trans (hB6.mono HFW.out.size)); clear hB6)
    | (((with_reducible show wpList _ _ _ ((⟨none, Op.store _ (.tmp 2) (.tmp 5), _, _, _, _⟩ : Oper) :: _) _ _)); refine wpList_store_box rfl 32 (.tmp 2) (.tmp 5) rfl (w.heap.size + 1) (d.map bv).toArray rfl rfl 32 zs32 (HO.out.below HB6.out HO.out.lt) HSM.out HSZ.out (bv_one _) ?_; intro w7 hb7 hg7))
  exact ret_dig rfl rfl rfl hb7 HDL.out ⟨by rw [HD.out], (HF.out.trans (HB6.out.mono HF.out.size)).trans (below_only hg7 (by omega) (HF.out.trans (HB6.out.mono HF.out.size)).size)⟩

end Go.Proofs.YtbclepdcngaonaaDoor
