/-
  The Reader of package code, on: Digest, and Read.
-/
import Derived.Test.YtkafpdfjdnklaaaRead2
import Derived.Deep.Cut
namespace Go.Proofs.Ytkafpdfjdnklaaa
open Go.RowKit

/-- A digest as a value: 32 bytes. -/
def dg (l : List UInt8) : Value := .agg (l.map bv).toArray
def zeros : List UInt8 := List.replicate 32 0
def zcells : Array Value := (zeros.map bv).toArray
theorem zcells_size : zcells.size = 32 := rfl

/-- What Digest answers. -/
def digV (l : List UInt8) (bad : Bool) : List UInt8 := if (tk 32 l bad).2.2 = true then zeros else (tk 32 l bad).1
theorem digV_len (l : List UInt8) (bad : Bool) : (digV l bad).length = 32 := by
  unfold digV tk
  by_cases h : bad = false ∧ 32 ≤ l.length
  · rw [if_pos h]
    show (l.take 32).length = 32
    rw [List.length_take]
    exact Nat.min_eq_left h.2
  · rw [if_neg h]
    rfl
theorem splice_dig (l : List UInt8) (bad : Bool) : (tk 32 l bad).1.map bv ++ (zeros.map bv).drop (tk 32 l bad).1.length = (digV l bad).map bv := by
  unfold digV tk
  by_cases h : bad = false ∧ 32 ≤ l.length
  · rw [if_pos h]
    have e : (l.take 32).length = 32 := by rw [List.length_take]; exact Nat.min_eq_left h.2
    simp only [e]
    simp [zeros]
  · rw [if_neg h]
    simp

set_option maxHeartbeats 400000 in
theorem digest_any (a : Nat) (l : List UInt8) (bad : Bool) (w : World) (h : Rd w a l bad) :
    Calls Try.prog 24 #[.pointer (some ⟨a, 0, none⟩)] w fun e w' => e = .returned (dg (digV l bad)) ∧ Rd w' a (tk 32 l bad).2.1 (tk 32 l bad).2.2 ∧ w.grownBy w' (some a) := by
  have hlt := h.lt
  have HR := Lib.hid ((h.alloc (.cells zcells 39)).alloc (.cells zcells 39))
  have HL := Lib.hid (tk_len 32 l bad)
  have HSP := Lib.hid (splice_dig l bad)
  clear h
  generalize hd : digV l bad = D at *
  generalize ht : tk 32 l bad = t at *
  have HT := Lib.hid ht
  have HD := Lib.hid hd
  have HDL := Lib.hid (hd ▸ digV_len l bad)
  clear ht hd
  have B0 := Lib.hid ((Box.made w 39 zcells).alloc (.cells zcells 39))
  have B1 := Lib.hid (Box.made (w.alloc (.cells zcells 39)) 39 zcells)
  have G0 := Lib.hid (only_made (only_made (only_refl w (some a)) (.cells zcells 39)) (.cells zcells 39))
  go_enter Try.func24, Try.ntmps24
  go_wp2_with fail
  show Calls _ _ _ ((w.alloc (.cells zcells 39)).alloc (.cells zcells 39)) _
  have hsz : (w.alloc (.cells zcells 39)).heap.size = w.heap.size + 1 := by simp
  rw [hsz] at B1
  clear hsz
  generalize (w.alloc (.cells zcells 39)).alloc (.cells zcells 39) = W at *
  refine (take_any a 32 l bad W HR.out (by decide)).mono ?_
  rw [HT.out]
  rintro e w1 ⟨A, c, rfl, hs, hr, ho⟩
  have HS := Lib.hid hs
  have HR1 := Lib.hid hr
  have G1 := Lib.hid (only_trans G0.out ho)
  have B01 := Lib.hid (B0.out.grown ho (by simp; omega))
  have B11 := Lib.hid (B1.out.grown ho (by simp; omega))
  clear hs hr ho B0 B1 HR G0
  have hone := Lib.hid (bv_one t.1)
  have B12 : Hid (Box w1 (w.heap.size + 1) 39 (zeros.map bv).toArray) := B11.out
  have HL2 : Hid (t.1.length ≤ (zeros.map bv).length) := by
    show t.1.length ≤ _
    rw [List.length_map]
    exact HL.out
  have hlen : Hid ((t.1.map bv).length = t.1.length) := List.length_map ..
  go_upto_region 4 with (with_reducible show wpList _ _ _ ((⟨some 13, _, _, _, _, _⟩ : Oper) :: _) _ _; refine wpList_copy_box rfl (.tmp 11) (.tmp 12) _ _ rfl 5 Try.underlying27 (by kernel_rfl) (w.heap.size + 1) 32 32 (zeros.map bv) rfl 39 B12.out a A t.1.length c (t.1.map bv) rfl rfl HS.out hlen.out HL2.out hone.out ?_; intro w2 hb2 hg2; have HB2 := Lib.hid hb2; have HG2 := Lib.hid hg2; clear hb2 hg2)
  have HB3 : Hid (Box w2 (w.heap.size + 1) 39 (D.map bv).toArray) := by
    have e := HB2.out
    rw [HSP.out] at e
    exact e
  have HB4 := Lib.hid (B01.out.grown HG2.out (by simp))
  have hsz : Hid ((Try.prog.info? 39).map (·.size) = some (D.map bv).toArray.size) := by
    show _ = _
    rw [List.size_toArray, List.length_map, HDL.out]
    kernel_rfl
  have hsz2 : Hid ((D.map bv).toArray.size = zcells.size) := by
    show _ = _
    rw [List.size_toArray, List.length_map, HDL.out]
    rfl
  have hone2 : Hid (∀ v ∈ (D.map bv).toArray.toList, v.oneCell' = true) := bv_one D
  clear HB2 HSP HL2 B12 B11 B01 hone hlen HS HL
  go_step
  refine wpList_load_row (o := ⟨some 14, _, _, _, _, _⟩) rfl 39 (.tmp 3) rfl (w.heap.size + 1) rfl 39 (D.map bv).toArray (0, 0) _ HB3.out Try.underlying39 rfl hsz.out ?_
  refine wpList_store_box (op := ⟨none, _, _, _, _, _⟩) rfl 39 (.tmp 2) (.tmp 14) rfl w.heap.size (D.map bv).toArray (by simp [Act.eval, Act.put]) (by simp [Act.eval, Act.put]) 39 zcells HB4.out hsz2.out hsz.out hone2.out ?_
  intro w3 hb3 hg3
  have HB5 := Lib.hid hb3
  have HG5 := Lib.hid hg3
  clear hb3 hg3
  simp only [Act.put]
  go_wp2
  refine bodyPost_ret (v := dg D) (results_cell_row rfl _ w3 w.heap.size 39 (D.map bv).toArray (0, 0) _ rfl HB5.out Try.underlying39 rfl hsz.out) rfl ⟨rfl, ?_, ?_⟩
  · exact ((HR1.out).only HG2.out (by omega)).only HG5.out hlt
  · exact only_new (only_new G1.out HG2.out (by omega)) HG5.out (Nat.le_refl _)

set_option maxHeartbeats 400000 in
theorem digest_nil (w : World) : Calls Try.prog 24 #[.pointer none] w fun e w' => e = .returned (dg zeros) ∧ Below w.heap.size w w' := by
  have B0 := Lib.hid ((Box.made w 39 zcells).alloc (.cells zcells 39))
  have B1 := Lib.hid (Box.made (w.alloc (.cells zcells 39)) 39 zcells)
  have G0 := Lib.hid (((Below.refl w.heap.size w).alloc (Nat.le_refl _) (.cells zcells 39)).alloc (by simp) (.cells zcells 39))
  go_enter Try.func24, Try.ntmps24
  go_wp2_with fail
  show Calls _ _ _ ((w.alloc (.cells zcells 39)).alloc (.cells zcells 39)) _
  have hsz : (w.alloc (.cells zcells 39)).heap.size = w.heap.size + 1 := by simp
  rw [hsz] at B1
  clear hsz
  generalize (w.alloc (.cells zcells 39)).alloc (.cells zcells 39) = W at *
  refine (take_nil 32 W).mono ?_
  rintro e w1 ⟨rfl, rfl⟩
  have B12 : Hid (Box W (w.heap.size + 1) 39 (zeros.map bv).toArray) := B1.out
  have hS : Hid (Sees W 0 none []) := .inl rfl
  have hone : Hid (∀ u ∈ ([] : List Value), u.oneCell' = true) := fun _ h => by cases h
  go_upto_region 4 with (with_reducible show wpList _ _ _ ((⟨some 13, _, _, _, _, _⟩ : Oper) :: _) _ _; refine wpList_copy_box rfl (.tmp 11) (.tmp 12) _ _ rfl 5 Try.underlying27 (by kernel_rfl) (w.heap.size + 1) 32 32 (zeros.map bv) rfl 39 B12.out 0 none 0 0 [] rfl rfl hS.out rfl (Nat.zero_le _) hone.out ?_; intro w2 hb2 hg2; have HB2 := Lib.hid hb2; have HG2 := Lib.hid hg2; clear hb2 hg2)
  have HB3 : Hid (Box w2 (w.heap.size + 1) 39 zcells) := HB2.out
  have HB4 := Lib.hid (B0.out.grown HG2.out (by simp))
  have hsz : Hid ((Try.prog.info? 39).map (·.size) = some zcells.size) := by
    show _ = _
    kernel_rfl
  have hone2 : Hid (∀ v ∈ zcells.toList, v.oneCell' = true) := bv_one zeros
  clear HB2 B12 B1 B0 hone hS
  go_step
  refine wpList_load_row (o := ⟨some 14, _, _, _, _, _⟩) rfl 39 (.tmp 3) rfl (w.heap.size + 1) rfl 39 zcells (0, 0) _ HB3.out Try.underlying39 rfl hsz.out ?_
  refine wpList_store_box (op := ⟨none, _, _, _, _, _⟩) rfl 39 (.tmp 2) (.tmp 14) rfl w.heap.size zcells (by simp [Act.eval, Act.put]) (by simp [Act.eval, Act.put]) 39 zcells HB4.out rfl hsz.out hone2.out ?_
  intro w3 hb3 hg3
  have HB5 := Lib.hid hb3
  have HG5 := Lib.hid hg3
  clear hb3 hg3
  simp only [Act.put]
  go_wp2
  refine bodyPost_ret (v := dg zeros) (results_cell_row rfl _ w3 w.heap.size 39 zcells (0, 0) _ rfl HB5.out Try.underlying39 rfl hsz.out) rfl ⟨rfl, ?_⟩
  have hs := G0.out.size
  exact (G0.out.trans (below_only HG2.out (by omega) hs)).trans (below_only HG5.out (Nat.le_refl _) (Nat.le_trans hs HG2.out.size))

theorem byte_info : (Try.prog.info? 5).map (fun i => (i.zero, i.size, i.bytes)) = some (some (.int .u8 0), 1, 1) := by kernel_rfl
set_option maxHeartbeats 400000 in
/-- Read: a Reader of a copy of what is seen. -/
theorem read_any (B : Nat) (A : Option Addr) (l : List UInt8) (c : Nat) (w : World) (hs : Sees w B A (l.map bv)) (hB : B ≤ w.heap.size) (hl : l.length ≤ 70368744177664) :
    Calls Try.prog 19 #[.slice A l.length c] w fun e w' => ∃ a, e = .returned (.pointer (some ⟨a, 0, none⟩)) ∧ Rd w' a l false ∧ w.heap.size ≤ a ∧ Below w.heap.size w w' := by
  obtain ⟨i0, hi, hz0, hz1, hz2⟩ := info_parts byte_info
  have hmk : (Instr.makeSlice 27 (.int .i64 (l.length : Int)) (.int .i64 (l.length : Int))).run Try.prog w = .ok (.slice (some ⟨w.heap.size, 0, none⟩) l.length l.length) (w.alloc (.cells (madeCells #[.int .u8 0] l.length) 5)) := by
    have h := run_make (P := Try.prog) w 27 5 i0 (.int .u8 0) Try.underlying27 hi hz0 .i64 .i64 (l.length : Int) (l.length : Int) (by omega) (Int.le_refl _) (by rw [hz2]; omega) (by omega)
    simp only [Int.toNat_natCast, hz1, Nat.mul_one] at h
    exact h
  have hb0 : Hid (Box (w.alloc (.cells (madeCells #[.int .u8 0] l.length) 5)) w.heap.size 5 (List.replicate l.length (Value.int .u8 0)).toArray) := by
    have h := Box.made w 5 (madeCells #[.int .u8 0] l.length)
    have e : madeCells #[.int .u8 0] l.length = (List.replicate l.length (Value.int .u8 0)).toArray := by
      rw [← toList_madeCells_one]
    rw [e] at h ⊢
    exact h
  have hS := Lib.hid ((hs.more hB).keep (w' := w.alloc (.cells (madeCells #[.int .u8 0] l.length) 5)) (fun p hp => World.cell?_alloc_lt w _ p hp))
  have hone := Lib.hid (bv_one l)
  have hlen : Hid ((l.map bv).length = l.length) := List.length_map ..
  have hlen2 : Hid ((List.replicate l.length (Value.int .u8 0)).length = l.length) := List.length_replicate
  have hle : Hid (l.length ≤ (List.replicate l.length (Value.int .u8 0)).length) := by
    show _ ≤ _
    rw [List.length_replicate]
    exact Nat.le_refl _
  have hG0 := Lib.hid ((Below.refl w.heap.size w).alloc (Nat.le_refl _) (.cells (madeCells #[.int .u8 0] l.length) 5))
  clear hs hi hz0 hz1 hz2
  go_enter Try.func19, Try.ntmps19
  go_wp2_with (with_reducible show wpList _ _ _ ((⟨some 9, _, _, _, _, _⟩ : Oper) :: _) _ _; refine wpList_copy_box rfl (.tmp 7) (.tmp 8) _ _ rfl 5 Try.underlying27 (by kernel_rfl) w.heap.size l.length l.length (List.replicate l.length (Value.int .u8 0)) hlen2.out 5 hb0.out w.heap.size A l.length c (l.map bv) rfl rfl hS.out hlen.out hle.out hone.out ?_; intro w2 hb2 hg2; have HB2 := Lib.hid hb2; have HG2 := Lib.hid hg2; clear hb2 hg2)
  go_ret
  have hs0 := hG0.out.size
  have hlt := HB2.out.lt
  have e : (l.map bv ++ (List.replicate l.length (Value.int .u8 0)).drop l.length).toArray = (l.map bv).toArray := by simp
  have hbb := HB2.out
  rw [e] at hbb
  have hB2 : Below w.heap.size w w2 := hG0.out.trans (below_only HG2.out (Nat.le_refl _) (by simp))
  refine ⟨w2.heap.size, rfl, ⟨some ⟨w.heap.size, 0, none⟩, l.length, Box.made _ _ _, Nat.le_refl _, by unfold maxLen; omega, ?_⟩, hB2.size, hB2.alloc hB2.size _⟩
  have := Sees.of_box (hbb.alloc (.cells #[.slice (some ⟨w.heap.size, 0, none⟩) l.length l.length, .bool false] 60)) hlt
  simpa using this

end Go.Proofs.Ytkafpdfjdnklaaa
