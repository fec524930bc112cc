/-
  Pieces in memory: their cells, what is loaded, stored and built; slices that read as pieces.
  A registry's bytes on plain lists: what is written. No program, no memory.
  A configuration written: config.Write.
-/
import Derived.Test.YtbclepdcngaonaaGreatDoorNA
import Derived.Test.YtbclepdcngaonaaGreatDoorRB
namespace Go.Proofs.YtbclepdcngaonaaGreatDoor
open Go.RowKit

/-- A piece. -/
structure PcX where
  pos : Int
  cnt : Int
  tree : List UInt8
  data : ByteArray
  path : List (List UInt8)
  len : tree.length = 32
/-- A piece as memory has it: where its path lies. -/
structure PcM where
  x : PcX
  A : Option Addr
  z : Nat
def pcL (p n : Int) (t : List UInt8) (d : ByteArray) (A : Option Addr) (m z : Nat) : List Value := .int .i64 p :: .int .i64 n :: (t.map bv ++ [.string d, .slice A m z])
set_option maxRecDepth 100000 in
theorem pcL_len {t : List UInt8} (ht : t.length = 32) (p n : Int) (d : ByteArray) (A : Option Addr) (m z : Nat) : (pcL p n t d A m z).length = 36 := by
  unfold pcL
  simp [ht]
set_option maxRecDepth 100000 in
theorem pcL_one (p n : Int) (t : List UInt8) (d : ByteArray) (A : Option Addr) (m z : Nat) : ∀ v ∈ pcL p n t d A m z, v.oneCell' = true := by
  intro v hv
  unfold pcL at hv
  rcases List.mem_cons.1 hv with rfl | hv
  · rfl
  rcases List.mem_cons.1 hv with rfl | hv
  · rfl
  rcases List.mem_append.1 hv with hv | hv
  · exact bv_one _ v hv
  simp only [List.mem_cons, List.not_mem_nil, or_false] at hv
  rcases hv with rfl | rfl <;> rfl
def PcM.cells (p : PcM) : List Value := pcL p.x.pos p.x.cnt p.x.tree p.x.data p.A p.x.path.length p.z
set_option maxRecDepth 100000 in
theorem PcM.cells_len (p : PcM) : p.cells.length = 36 := pcL_len p.x.len _ _ _ _ _ _
set_option maxRecDepth 100000 in
theorem PcM.cells_one (p : PcM) : ∀ v ∈ p.cells, v.oneCell' = true := pcL_one _ _ _ _ _ _ _
section
variable {w : World} {g o : Nat} {t : TypeId} {x : PcM}
end

end Go.Proofs.YtbclepdcngaonaaGreatDoor

namespace Go.Proofs.YtbclepdcngaonaaGreatDoor
open Go.RowKit

/-- A member's bytes, a configuration's, a pair's, a reply's, a state's. -/
def memB (m : MemX) : List UInt8 := [m.id, m.high].flatMap numBytes ++ m.root
def cfgB (ep : Int) (ms : List MemX) : List UInt8 := [ep, (ms.length : Int)].flatMap numBytes ++ ms.flatMap memB
set_option maxRecDepth 100000 in
theorem memB_len (m : MemX) : (memB m).length = 48 := by
  unfold memB
  rw [List.length_append, nums_len, m.len]
  rfl
set_option maxRecDepth 100000 in
theorem mems_len (ms : List MemX) : (ms.flatMap memB).length = 48 * ms.length := by
  induction ms with
  | nil => rfl
  | cons m r ih =>
    rw [List.flatMap_cons, List.length_append, ih, memB_len, List.length_cons]
    omega
set_option maxRecDepth 100000 in
theorem flat_snoc {α : Type} (f : α → List UInt8) (l : List α) (k : Nat) (h : k < l.length) : (l.take (k + 1)).flatMap f = (l.take k).flatMap f ++ f (l[k]'h) := by
  rw [List.take_succ_eq_append_getElem h, List.flatMap_append]
  simp
set_option maxRecDepth 100000 in
theorem flat_le {α : Type} (f : α → List UInt8) (l : List α) (k : Nat) : ((l.take k).flatMap f).length ≤ (l.flatMap f).length := by
  conv => rhs; rw [← List.take_append_drop k l, List.flatMap_append, List.length_append]
  omega
end Go.Proofs.YtbclepdcngaonaaGreatDoor

namespace Go.Proofs.YtbclepdcngaonaaGreatDoor
open Go.RowKit

attribute [local go_sem ↓] ldDigest_def stDigest_def bsAll_def ldMem_def stMem_def

set_option maxRecDepth 100000 in
theorem MemX.root_at (x : MemX) {w : World} {g : Nat} {t : TypeId} (h : Box w g t x.cells.toArray) : w.rangeAt g 1 (x.root.map bv) := Box.range_mid (pre := [.int .i64 x.id]) (post := [.int .i64 x.high]) h rfl

set_option maxRecDepth 100000 in
set_option maxHeartbeats 2000000 in
theorem cfgwrite_any (base a : Nat) (bs : List UInt8) (ep : Int) (ms : List MemX) (A : Option Addr) (c : Nat) (w : World) (h : Wr w base a bs) (hbs : bs.length ≤ 1099511627776) (hn : ms.length ≤ 1073741824) (hM : MK.See w base A ms) :
    Calls Tryz.prog 33 #[.pointer (some ⟨a, 0, none⟩), .agg (cfgV ep A ms.length c)] w fun e w' => e = .returned (.tuple #[]) ∧ Wr w' base a (bs ++ cfgB ep ms) ∧ WF a w w' := by
  have hF1 : Below w.heap.size w (w.alloc (.cells (cfgV ep A ms.length c) 24)) := (Below.refl _ _).alloc (Nat.le_refl _) _
  have HB1 : Hid (Box (w.alloc (.cells (cfgV ep A ms.length c) 24)) w.heap.size 24 (cfgV ep A ms.length c)) := Box.made _ _ _
  have HW1 := Lib.hid (h.below_size hF1)
  have HA1 := Lib.hid (WF.of_below hF1 h.lt)
  have HM1 : Hid (MK.See (w.alloc (.cells (cfgV ep A ms.length c) 24)) base A ms) := Lib.hid (Sees.below hM (hF1.mono h.2.1))
  have HL : Hid (bs.length ≤ 1099511627776 ∧ ms.length ≤ 1073741824) := ⟨hbs, hn⟩
  clear hbs hn hM h hF1
  go_enter Tryz.func33, Tryz.ntmps33
  go_upto_region 1 with fail
  change Code.wp _ _ _ _ (w.alloc (.cells (cfgV ep A ms.length c) 24))
  generalize hg1 : w.alloc (.cells (cfgV ep A ms.length c) 24) = w1 at *
  clear hg1
  have c0 : w1.cell? ⟨w.heap.size, 0, none⟩ = some (.int .i64 ep) := HB1.out.cell 0
  have c1 : w1.cell? ⟨w.heap.size, 1, none⟩ = some (.slice A ms.length c) := HB1.out.cell 1
  have HN : Hid (Calls Tryz.prog 62 #[.pointer (some ⟨a, 0, none⟩), .slice (some ⟨w1.heap.size, 0, none⟩) 2 2] (w1.alloc (.cells #[.int .i64 ep, .int .i64 (ms.length : Int)] 3)) fun e w' => e = .returned (.tuple #[]) ∧ Wr w' base a (bs ++ [ep, (ms.length : Int)].flatMap numBytes) ∧ WF a w1 w') :=
    wnum_made [ep, (ms.length : Int)] HW1.out (by have := HL.out; simp only [List.length_cons, List.length_nil]; omega)
  go_upto_region 2 with (go_at_call 62; (with_reducible refine (HN.out).mono ?_); rintro e w2 ⟨rfl, hw, hf⟩; have HB2 := Lib.hid (hf.box HW1.out HB1.out (by decide) (by decide)); have HM2 : Hid (MK.See w2 base A ms) := Lib.hid (Sees.below HM1.out (hf.below HW1.out)); have HW2 := Lib.hid hw; have HA2 := Lib.hid (HA1.out.trans hf); clear hw hf)
  clear c0 c1 HN HB1 HW1 HA1 HM1
  have c1 : w2.cell? ⟨w.heap.size, 1, none⟩ = some (.slice A ms.length c) := HB2.out.cell 1
  have HCL : Hid ((bs ++ [ep, (ms.length : Int)].flatMap numBytes).length ≤ 1099511628000) := Lib.hid (by have := HL.out; rw [List.length_append, nums_len]; simp only [List.length_cons, List.length_nil]; omega)
  have HE : Hid (bs ++ cfgB ep ms = (bs ++ [ep, (ms.length : Int)].flatMap numBytes) ++ ms.flatMap memB) := Lib.hid (by unfold cfgB; rw [List.append_assoc])
  generalize bs ++ [ep, (ms.length : Int)].flatMap numBytes = b0 at *
  go_upto_region 3 with fail
  clear c1 HB2
  go_loopw [17] (fun i wr => ∃ k : Nat, k ≤ ms.length ∧ i = .int .i64 (k : Int) ∧ Hid (Wr wr base a (b0 ++ (ms.take k).flatMap memB)) ∧ Hid (WF a w2 wr)) (fun i _ => ms.length - (intOf i).toNat)
  case atStart => exact ⟨0, Nat.zero_le _, rfl, Lib.hid (by simpa using HW2.out), Lib.hid (WF.refl _ _)⟩
  case round =>
    obtain ⟨k, hk, rfl, HWk, HAk⟩ := hrel
    by_cases hlt : k < ms.length
    · have HLT := Lib.hid hlt
      obtain ⟨g, o, hA, _, hr⟩ := EK.See.range (Sees.below HM2.out (HAk.out.below HW2.out)) hlt
      have lk : (ldMem (.pointer (some ⟨g, o + k * 34, none⟩))).run Tryz.prog wr = .ok (.agg (ms[k]'hlt).cells.toArray) wr := range_ldm (hr k hlt)
      obtain ⟨w3, hst0, hb3, hbl3⟩ := laid_mem wr (ms[k]'hlt)
      have hst := hst0
      unfold MemX.enc zmemV at hst
      have HW3 := Lib.hid (HWk.out.below_size hbl3)
      have HA3 := Lib.hid (HAk.out.trans (WF.of_below hbl3 HWk.out.lt))
      have HB3 := Lib.hid hb3
      have HSN := Lib.hid (flat_snoc memB ms k hlt)
      have HLN : Hid ((b0 ++ (ms.take k).flatMap memB).length ≤ 8796093022208) := Lib.hid (by have h1 := flat_le memB ms k; have h2 := mems_len ms; have := HCL.out; have := HL.out; rw [List.length_append]; omega)
      have d0 : w3.cell? ⟨wr.heap.size, 0, none⟩ = some (.int .i64 (ms[k]'hlt).id) := by rw [hb3.cell, List.getElem?_toArray, MemX.cell0]
      have d33 : w3.cell? ⟨wr.heap.size, 33, none⟩ = some (.int .i64 (ms[k]'hlt).high) := by rw [hb3.cell, List.getElem?_toArray, MemX.cell33]
      rw [hA]
      have i1 : (k : Int) < (ms.length : Int) := by omega
      have i0 : (0 : Int) ≤ (k : Int) := by omega
      have wk : IntKind.i64.wrap ((k : Int) + 1) = ((k + 1 : Nat) : Int) := by rw [IntKind.wrap_i64]; have := HL.out; omega
      generalize ms[k]'hlt = m at *
      have HEQ : Hid ((b0 ++ (ms.take k).flatMap memB) ++ [m.id, m.high].flatMap numBytes ++ m.root = b0 ++ (ms.take (k + 1)).flatMap memB) := Lib.hid (by rw [HSN.out]; unfold memB; simp only [List.append_assoc])
      generalize b0 ++ (ms.take k).flatMap memB = bk at *
      have HN : Hid (Calls Tryz.prog 62 #[.pointer (some ⟨a, 0, none⟩), .slice (some ⟨w3.heap.size, 0, none⟩) 2 2] (w3.alloc (.cells #[.int .i64 m.id, .int .i64 m.high] 3)) fun e w' => e = .returned (.tuple #[]) ∧ Wr w' base a (bk ++ [m.id, m.high].flatMap numBytes) ∧ WF a w3 w') :=
        wnum_made [m.id, m.high] HW3.out (by have := HLN.out; simp only [List.length_cons, List.length_nil]; omega)
      clear hr hst0 hb3 hbl3
      go_upto_region 6 with (go_at_call 62; (with_reducible refine (HN.out).mono ?_); rintro e w4 ⟨rfl, hw, hf⟩; have HB4 := Lib.hid (hf.box HW3.out HB3.out (by decide) (by decide)); have HW4 := Lib.hid hw; have HA4 := Lib.hid (HA3.out.trans hf); clear hw hf)
      clear lk hst d0 d33 HN HB3 HW3 HA3
      have ld := range_load (m.root_at HB4.out) m.len
      have hbs := build_one m.root m.len w4
      have HL4 : Hid ((bk ++ [m.id, m.high].flatMap numBytes).length ≤ 8796093022300) := Lib.hid (by have := HLN.out; rw [List.length_append, nums_len]; simp only [List.length_cons, List.length_nil]; omega)
      have HN := Lib.hid (wdig_made m.len HW4.out (by have := HL4.out; omega))
      go_wp2_with (go_at_call 64; (with_reducible refine (HN.out).mono ?_); rintro e w5 ⟨rfl, hw, hf⟩; have HW5 := Lib.hid hw; have HA5 := Lib.hid (HA4.out.trans hf); clear hw hf)
      rw [HEQ.out] at HW5
      go_roundw
      case rel => exact ⟨k + 1, HLT.out, by go_num, HW5, HA5⟩
      case measure => have := HLT.out; simp [intOf]; omega
    · have i1 : ¬ (k : Int) < (ms.length : Int) := by omega
      have hke : k = ms.length := by omega
      subst hke
      rw [List.take_length, ← HE.out] at HWk
      clear hk
      go_wp2
      go_end0
      exact ⟨rfl, HWk.out, HA2.out.trans HAk.out⟩
end Go.Proofs.YtbclepdcngaonaaGreatDoor
