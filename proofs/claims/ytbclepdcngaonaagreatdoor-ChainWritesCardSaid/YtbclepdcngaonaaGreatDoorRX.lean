/-
  Opening the handed arguments of config's laws: configurations, changes, keys.
  Opening the handed arguments of request's laws: requests, replies, bytes.
  Opening the handed arguments of state's laws: states, requests, lists of requests, strings.
  Opening the handed arguments of chunk's laws: lists of pieces.
-/
import Derived.Test.YtbclepdcngaonaaGreatDoorCA
import Derived.Test.YtbclepdcngaonaaGreatDoorKA
import Derived.Deep.Strs
import Derived.ProofKit
import Derived.OpenShut
import Derived.SizedLaws
import Derived.Carry
import Derived.ChangeAt
import Derived.JoinedOf
import Derived.ChangeShapes
import Derived.Deep.Slices
import Derived.Deep.DeepHandedRow
import Derived.Test.YtbclepdcngaonaaGreatDoorRB
import Derived.Test.YtbclepdcngaonaaGreatDoorRD
import Derived.Test.YtbclepdcngaonaaGreatDoorNG
import Derived.Test.YtbclepdcngaonaaGreatDoorHA
namespace Go.Proofs.YtbclepdcngaonaaGreatDoor
open Go.ChangeShapes Go.WideShapes Go.ChangeAt Go.RowKit Go.Deep

set_option maxRecDepth 100000 in
theorem cells_byte8 : Tryz.prog.cellsOf 5 = 1 := by kernel_rfl
set_option maxRecDepth 100000 in
theorem cells_digest8 : Tryz.prog.cellsOf 29 = 32 := by kernel_rfl
set_option maxRecDepth 100000 in
theorem cells_key8 : Tryz.prog.cellsOf 64 = 33 := by kernel_rfl
set_option maxRecDepth 100000 in
theorem cells_int8 : Tryz.prog.cellsOf 3 = 1 := by kernel_rfl
set_option maxRecDepth 100000 in
theorem cells_mem8 : Tryz.prog.cellsOf 66 = 34 := by kernel_rfl
set_option maxRecDepth 100000 in
theorem cells_cfg8 : Tryz.prog.cellsOf 24 = 2 := by kernel_rfl
set_option maxRecDepth 100000 in
theorem cells_mems8 : Tryz.prog.cellsOf 22 = 1 := by kernel_rfl
set_option maxRecDepth 100000 in
theorem i64_wf8 {n : Int} (h : (Lit.int .i64 n).wf = true) : -9223372036854775808 ≤ n ∧ n ≤ 9223372036854775807 := by
  simp [Lit.wf, IntKind.min, IntKind.max, IntKind.signed, IntKind.bits] at h
  exact ⟨by omega, by omega⟩
set_option maxRecDepth 100000 in
theorem sees_of_addr8 {w : World} {a : Addr} {xs : List Value} (h : ∀ j u, xs[j]? = some u → w.cell? (a.add j) = some u) : Sees w w.heap.size (some a) xs := by
  rcases xs with _ | ⟨x, r⟩
  · exact .inl rfl
  · have h1 := h 0 x rfl
    obtain ⟨g, o, sp⟩ := a
    have hsp : sp = none := by
      rcases sp with _ | sp
      · rfl
      · exfalso
        simp [World.cell?, Addr.add] at h1
        split at h1 <;> simp_all
    subst hsp
    refine .inr ⟨g, o, rfl, ?_, fun j u hu => ?_⟩
    · have := World.block_lt_of_cell? w _ h1
      simpa [plain_add] using this
    · rw [← plain_add]
      exact h j u hu
set_option maxRecDepth 100000 in
theorem add_two8 (a : Addr) (x y : Nat) : (a.add x).add y = a.add (x + y) := by
  obtain ⟨b, o, sp⟩ := a
  unfold Addr.add
  by_cases hx : x = 0
  · subst hx
    simp
  · by_cases hy : y = 0
    · subst hy
      simp
    · simp [hx, hy]
      omega
set_option maxRecDepth 100000 in
theorem open_digest8 {H : Type} {enc : TypeId × Value → H} {w : World} {base : Nat} {spare : Nat → Bool} {held : Bool} {fuel : Nat} {cs : List Value} {x : DataW H × List MemPlace} (h : DataW.trod enc Tryz.prog w base spare held fuel 29 cs = some x) : ∃ d : List UInt8, d.length = 32 ∧ cs = d.map bv := by
  obtain ⟨xs, m, _, _, hl, hxl, hf⟩ := DataW.trod_array Tryz.underlying29 h
  rw [cells_digest8] at hl
  have hv : ∀ i, i < 32 → ∃ b : UInt8, cs[i]? = some (bv b) := by
    intro i hi
    have h1 := hf i hi
    rw [cells_byte8, Nat.mul_one] at h1
    have hx : xs[i]? = some (xs[i]'(by omega)) := List.getElem?_eq_getElem (by omega)
    rw [hx] at h1
    obtain ⟨n, e1, _, hw⟩ := DataW.trod_int Tryz.underlying5 h1
    have e2 : cs[i]? = some (.int .u8 n) := by
      have := congrArg (fun l : List Value => l[0]?) e1
      simpa using this
    have hb : 0 ≤ n ∧ n ≤ 255 := by
      simp [Lit.wf, IntKind.min, IntKind.max, IntKind.signed, IntKind.bits] at hw
      exact ⟨by omega, by omega⟩
    refine ⟨UInt8.ofNat n.toNat, ?_⟩
    rw [e2]
    unfold bv
    have e3 : ((UInt8.ofNat n.toNat).toNat : Int) = n := by
      rw [UInt8.toNat_ofNat']
      omega
    rw [e3]
  refine ⟨cs.map fun v => match v with | .int _ n => UInt8.ofNat n.toNat | _ => 0, by rw [List.length_map]; exact hl, ?_⟩
  apply List.ext_getElem?
  intro i
  rcases Nat.lt_or_ge i 32 with hi | hi
  · obtain ⟨b, hb⟩ := hv i hi
    rw [hb]
    simp only [List.getElem?_map, hb, Option.map_some]
    unfold bv
    simp
  · rw [List.getElem?_eq_none (by omega), List.getElem?_eq_none (by simp; omega)]
set_option maxRecDepth 100000 in
theorem open_key8 {H : Type} {enc : TypeId × Value → H} {w : World} {base : Nat} {spare : Nat → Bool} {held : Bool} {fuel : Nat} {cs : List Value} {x : DataW H × List MemPlace} (h : DataW.trod enc Tryz.prog w base spare held fuel 64 cs = some x) :
    ∃ (r : List UInt8) (k : Int), r.length = 32 ∧ (-9223372036854775808 ≤ k ∧ k ≤ 9223372036854775807) ∧ cs = keyL r k := by
  obtain ⟨y0, y1, n, _, hl, h0, h1⟩ := trod_struct2 Tryz.underlying64 h
  rw [cells_key8] at hl
  have e0 : DataW.trod enc Tryz.prog w base spare held n 29 (cs.take 32) = some y0 := by
    have h := h0
    rw [cells_digest8] at h
    exact h
  have e1 : DataW.trod enc Tryz.prog w base spare held n 3 ((cs.drop 32).take 1) = some y1 := by
    have h := h1
    rw [cells_int8] at h
    exact h
  obtain ⟨r, hr, hc⟩ := open_digest8 e0
  obtain ⟨k, hk, _, hw⟩ := DataW.trod_int Tryz.underlying3 e1
  refine ⟨r, k, hr, i64_wf8 hw, ?_⟩
  have e : cs = cs.take 32 ++ cs.drop 32 := (List.take_append_drop 32 cs).symm
  have e2 : (cs.drop 32).take 1 = cs.drop 32 := List.take_of_length_le (by rw [List.length_drop, hl]; omega)
  rw [e, hc, ← e2, hk]
  rfl

set_option maxRecDepth 100000 in
theorem open_mem8 {H : Type} {enc : TypeId × Value → H} {w : World} {base : Nat} {spare : Nat → Bool} {held : Bool} {fuel : Nat} {cs : List Value} {x : DataW H × List MemPlace} (h : DataW.trod enc Tryz.prog w base spare held fuel 66 cs = some x) : ∃ y : MemX, cs = y.cells := by
  obtain ⟨y0, y1, n, _, hl, h0, h1⟩ := trod_struct2 Tryz.underlying66 h
  rw [cells_mem8] at hl
  have e0 : DataW.trod enc Tryz.prog w base spare held n 3 (cs.take 1) = some y0 := by
    have h := h0
    rw [cells_int8] at h
    exact h
  have e1 : DataW.trod enc Tryz.prog w base spare held n 64 ((cs.drop 1).take 33) = some y1 := by
    have h := h1
    rw [cells_key8] at h
    exact h
  obtain ⟨i, hi, _, _⟩ := DataW.trod_int Tryz.underlying3 e0
  obtain ⟨r, k, hr, _, hc⟩ := open_key8 e1
  refine ⟨⟨i, r, k, hr⟩, ?_⟩
  have e : cs = cs.take 1 ++ cs.drop 1 := (List.take_append_drop 1 cs).symm
  have e2 : (cs.drop 1).take 33 = cs.drop 1 := List.take_of_length_le (by rw [List.length_drop, hl]; omega)
  rw [e, hi, ← e2, hc]
  rfl
set_option maxRecDepth 100000 in
theorem open_mems8 {H : Type} {enc : TypeId × Value → H} {w : World} {base : Nat} {spare : Nat → Bool} {held : Bool} {fuel : Nat} {cs : List Value} {x : DataW H × List MemPlace}
    (h : DataW.trod enc Tryz.prog w base spare held fuel 22 cs = some x) :
    ∃ (A : Option Addr) (ms : List MemX) (cap : Nat), cs = [.slice A ms.length cap] ∧ ms.length ≤ cap ∧ cap ≤ maxLen ∧ Mems w w.heap.size A ms := by
  rcases open_slice Tryz.underlying22 h with ⟨rfl, rfl⟩ | ⟨a, len, cap, m, n, D, Pl, rfl, hb, hl, hm, hmm, rfl, hi⟩
  · exact ⟨none, [], 0, rfl, Nat.le_refl _, by simp [maxLen], .inl rfl⟩
  · have hlm : len ≤ m := by rw [hmm]; split <;> omega
    have hex : ∀ i, i < len → ∃ y : MemX, ∀ j, j < 34 → w.cell? (a.add (i * 34 + j)) = y.cells[j]? := by
      intro i hil
      obtain ⟨cs', hc, ht⟩ := hi i (by omega)
      rw [cells_mem8] at hc
      obtain ⟨_, hcl, hat⟩ := World.cells?_some hc
      obtain ⟨y, e⟩ := open_mem8 ht
      subst e
      refine ⟨y, fun j hj => ?_⟩
      have h1 := hat j hj
      rw [add_two8] at h1
      exact h1
    obtain ⟨F, hF⟩ : ∃ F : Nat → MemX, ∀ i, i < len → ∀ j, j < 34 → w.cell? (a.add (i * 34 + j)) = (F i).cells[j]? :=
      ⟨fun i => if hi : i < len then (hex i hi).choose else zmem, fun i hi => by
        simp only [dif_pos hi]
        exact (hex i hi).choose_spec⟩
    have hlen : ((List.range len).map F).length = len := by simp
    refine ⟨some a, (List.range len).map F, cap, by rw [hlen], by rw [hlen]; exact hl, hm, sees_of_addr8 fun j u hu => ?_⟩
    have hj : j < len * 34 := by
      have := (List.getElem?_eq_some_iff.1 hu).1
      rw [flatM_len, hlen] at this
      omega
    obtain ⟨y, h1, h2⟩ := cf_get MemX.cells 34 MemX.cells_len ((List.range len).map F) j (by rw [hlen]; exact hj)
    rw [h2] at hu
    have hk : j / 34 < len := by omega
    rw [List.getElem?_map, List.getElem?_range hk] at h1
    obtain rfl : F (j / 34) = y := by simpa using h1
    have hc := hF (j / 34) hk (j % 34) (Nat.mod_lt _ (by decide))
    rw [show j / 34 * 34 + j % 34 = j by omega] at hc
    rw [hc, hu]
set_option maxRecDepth 100000 in
theorem open_cfg8 {H : Type} {enc : TypeId × Value → H} {w : World} {base : Nat} {spare : Nat → Bool} {held : Bool} {fuel : Nat} {cs : List Value} {x : DataW H × List MemPlace} (h : DataW.trod enc Tryz.prog w base spare held fuel 24 cs = some x) :
    ∃ (ep : Int) (A : Option Addr) (ms : List MemX) (c : Nat), cs = [.int .i64 ep, .slice A ms.length c] ∧ ms.length ≤ maxLen ∧ Mems w w.heap.size A ms := by
  obtain ⟨y0, y1, n, _, hl, h0, h1⟩ := trod_struct2 Tryz.underlying24 h
  rw [cells_cfg8] at hl
  match cs, hl with
  | [a, b], _ =>
    have e0 : DataW.trod enc Tryz.prog w base spare held n 3 [a] = some y0 := by
      have h := h0
      rw [cells_int8] at h
      exact h
    have e1 : DataW.trod enc Tryz.prog w base spare held n 22 [b] = some y1 := by
      have h := h1
      rw [cells_mems8] at h
      exact h
    obtain ⟨ep, ha, _, _⟩ := DataW.trod_int Tryz.underlying3 e0
    obtain ⟨A, ms, c, hb, hlc, hcm, hM⟩ := open_mems8 e1
    injection ha with ha
    injection hb with hb
    subst ha
    subst hb
    exact ⟨ep, A, ms, c, rfl, Nat.le_trans hlc hcm, hM⟩
end Go.Proofs.YtbclepdcngaonaaGreatDoor

namespace Go.Proofs.YtbclepdcngaonaaGreatDoor
open Go.ChangeShapes Go.WideShapes Go.ChangeAt Go.RowKit Go.Deep

set_option maxRecDepth 100000 in
theorem row_own9 : ownKnob Tryz.prog.godebug = none := by kernel_rfl
set_option maxRecDepth 100000 in
theorem row_laidOut9 : laidOutB Tryz.prog = true := by kernel_rfl
set_option maxRecDepth 100000 in
theorem cells_byte9 : Tryz.prog.cellsOf 5 = 1 := by kernel_rfl
set_option maxRecDepth 100000 in
theorem cells_digest9 : Tryz.prog.cellsOf 29 = 32 := by kernel_rfl
set_option maxRecDepth 100000 in
theorem cells_key9 : Tryz.prog.cellsOf 64 = 33 := by kernel_rfl
set_option maxRecDepth 100000 in
theorem cells_int9 : Tryz.prog.cellsOf 3 = 1 := by kernel_rfl
set_option maxRecDepth 100000 in
theorem cells_string9 : Tryz.prog.cellsOf 9 = 1 := by kernel_rfl
set_option maxRecDepth 100000 in
theorem cells_chg9 : Tryz.prog.cellsOf 96 = 36 := by kernel_rfl
set_option maxRecDepth 100000 in
theorem cells_op9 : Tryz.prog.cellsOf 98 = 40 := by kernel_rfl
set_option maxRecDepth 100000 in
theorem cells_req9 : Tryz.prog.cellsOf 100 = 42 := by kernel_rfl
set_option maxRecDepth 100000 in
theorem i64_wf9 {n : Int} (h : (Lit.int .i64 n).wf = true) : R64 n := by
  simp [Lit.wf, IntKind.min, IntKind.max, IntKind.signed, IntKind.bits] at h
  exact ⟨by omega, by omega⟩
set_option maxRecDepth 100000 in
theorem sees_of_addr9 {w : World} {a : Addr} {xs : List Value} (h : ∀ j u, xs[j]? = some u → w.cell? (a.add j) = some u) : Sees w w.heap.size (some a) xs := by
  rcases xs with _ | ⟨x, r⟩
  · exact .inl rfl
  · have h1 := h 0 x rfl
    obtain ⟨g, o, sp⟩ := a
    have hsp : sp = none := by
      rcases sp with _ | sp
      · rfl
      · exfalso
        simp [World.cell?, Addr.add] at h1
        split at h1 <;> simp_all
    subst hsp
    refine .inr ⟨g, o, rfl, ?_, fun j u hu => ?_⟩
    · have := World.block_lt_of_cell? w _ h1
      simpa [plain_add] using this
    · rw [← plain_add]
      exact h j u hu
section
variable {H : Type} {enc : TypeId × Value → H} {w : World} {base : Nat} {spare : Nat → Bool} {held : Bool} {fuel : Nat} {cs : List Value} {x : DataW H × List MemPlace}
set_option maxRecDepth 100000 in
theorem open_digest9 (h : DataW.trod enc Tryz.prog w base spare held fuel 29 cs = some x) : ∃ d : List UInt8, d.length = 32 ∧ cs = d.map bv := by
  obtain ⟨xs, m, _, _, hl, hxl, hf⟩ := DataW.trod_array Tryz.underlying29 h
  rw [cells_digest9] at hl
  have hv : ∀ i, i < 32 → ∃ b : UInt8, cs[i]? = some (bv b) := by
    intro i hi
    have h1 := hf i hi
    rw [cells_byte9, Nat.mul_one] at h1
    have hx : xs[i]? = some (xs[i]'(by omega)) := List.getElem?_eq_getElem (by omega)
    rw [hx] at h1
    obtain ⟨n, e1, _, hw⟩ := DataW.trod_int Tryz.underlying5 h1
    have e2 : cs[i]? = some (.int .u8 n) := by
      have := congrArg (fun l : List Value => l[0]?) e1
      simpa using this
    have hb : 0 ≤ n ∧ n ≤ 255 := by
      simp [Lit.wf, IntKind.min, IntKind.max, IntKind.signed, IntKind.bits] at hw
      exact ⟨by omega, by omega⟩
    refine ⟨UInt8.ofNat n.toNat, ?_⟩
    rw [e2]
    unfold bv
    have e3 : ((UInt8.ofNat n.toNat).toNat : Int) = n := by
      rw [UInt8.toNat_ofNat']
      omega
    rw [e3]
  refine ⟨cs.map fun v => match v with | .int _ n => UInt8.ofNat n.toNat | _ => 0, by rw [List.length_map]; exact hl, ?_⟩
  apply List.ext_getElem?
  intro i
  rcases Nat.lt_or_ge i 32 with hi | hi
  · obtain ⟨b, hb⟩ := hv i hi
    rw [hb]
    simp only [List.getElem?_map, hb, Option.map_some]
    unfold bv
    simp
  · rw [List.getElem?_eq_none (by omega), List.getElem?_eq_none (by simp; omega)]
set_option maxRecDepth 100000 in
theorem open_key9 (h : DataW.trod enc Tryz.prog w base spare held fuel 64 cs = some x) : ∃ (r : List UInt8) (k : Int), r.length = 32 ∧ R64 k ∧ cs = keyL r k := by
  obtain ⟨y0, y1, n, _, hl, h0, h1⟩ := trod_struct2 Tryz.underlying64 h
  rw [cells_key9] at hl
  have e0 : DataW.trod enc Tryz.prog w base spare held n 29 (cs.take 32) = some y0 := by
    have h := h0
    rw [cells_digest9] at h
    exact h
  have e1 : DataW.trod enc Tryz.prog w base spare held n 3 ((cs.drop 32).take 1) = some y1 := by
    have h := h1
    rw [cells_int9] at h
    exact h
  obtain ⟨r, hr, hc⟩ := open_digest9 e0
  obtain ⟨k, hk, _, hw⟩ := DataW.trod_int Tryz.underlying3 e1
  refine ⟨r, k, hr, i64_wf9 hw, ?_⟩
  have e : cs = cs.take 32 ++ cs.drop 32 := (List.take_append_drop 32 cs).symm
  have e2 : (cs.drop 32).take 1 = cs.drop 32 := List.take_of_length_le (by rw [List.length_drop, hl]; omega)
  rw [e, hc, ← e2, hk]
  rfl
set_option maxRecDepth 100000 in
theorem cut9 (l : List Value) (o q : Nat) : l.drop o = (l.drop o).take q ++ l.drop (o + q) := by rw [← List.drop_drop, List.take_append_drop]
set_option maxRecDepth 100000 in
theorem open_chg9 (h : DataW.trod enc Tryz.prog w base spare held fuel 96 cs = some x) : ∃ (k i n : Int) (r : List UInt8) (hh : Int), r.length = 32 ∧ R64 k ∧ R64 i ∧ R64 n ∧ R64 hh ∧ cs = chgL k i n r hh := by
  obtain ⟨xs, m, _, _, hl, hxl, hf⟩ := DataW.trod_struct Tryz.underlying96 h
  rw [cells_chg9] at hl
  match xs, hxl with
  | [y0, y1, y2, y3], _ =>
    have h0 : DataW.trod enc Tryz.prog w base spare held m 3 ((cs.drop 0).take (Tryz.prog.cellsOf 3)) = some y0 := hf 0 _ rfl
    have h1 : DataW.trod enc Tryz.prog w base spare held m 3 ((cs.drop 1).take (Tryz.prog.cellsOf 3)) = some y1 := hf 1 _ rfl
    have h2 : DataW.trod enc Tryz.prog w base spare held m 3 ((cs.drop 2).take (Tryz.prog.cellsOf 3)) = some y2 := hf 2 _ rfl
    have h3 : DataW.trod enc Tryz.prog w base spare held m 64 ((cs.drop 3).take (Tryz.prog.cellsOf 64)) = some y3 := hf 3 _ rfl
    rw [cells_int9] at h0 h1 h2
    rw [cells_key9] at h3
    obtain ⟨k, e0, _, w0⟩ := DataW.trod_int Tryz.underlying3 h0
    obtain ⟨i, e1, _, w1⟩ := DataW.trod_int Tryz.underlying3 h1
    obtain ⟨n, e2, _, w2⟩ := DataW.trod_int Tryz.underlying3 h2
    obtain ⟨r, hh, hr, hw, e3⟩ := open_key9 h3
    refine ⟨k, i, n, r, hh, hr, i64_wf9 w0, i64_wf9 w1, i64_wf9 w2, hw, ?_⟩
    have e : cs = cs.drop 0 := rfl
    rw [e, cut9 cs 0 1, e0, cut9 cs (0 + 1) 1, e1, cut9 cs (0 + 1 + 1) 1, e2, cut9 cs (0 + 1 + 1 + 1) 33, e3, List.drop_eq_nil_of_le (by omega)]
    simp [chgL]
set_option maxRecDepth 100000 in
theorem open_op9 (h : DataW.trod enc Tryz.prog w base spare held fuel 98 cs = some x) :
    ∃ (d : Int) (s1 s2 s3 : ByteArray) (k i n : Int) (r : List UInt8) (hh : Int), r.length = 32 ∧ R64 d ∧ R64 k ∧ R64 i ∧ R64 n ∧ R64 hh ∧ cs = .int .i64 d :: .string s1 :: .string s2 :: .string s3 :: chgL k i n r hh := by
  obtain ⟨xs, m, _, _, hl, hxl, hf⟩ := DataW.trod_struct Tryz.underlying98 h
  rw [cells_op9] at hl
  match xs, hxl with
  | [y0, y1, y2, y3, y4], _ =>
    have h0 : DataW.trod enc Tryz.prog w base spare held m 3 ((cs.drop 0).take (Tryz.prog.cellsOf 3)) = some y0 := hf 0 _ rfl
    have h1 : DataW.trod enc Tryz.prog w base spare held m 9 ((cs.drop 1).take (Tryz.prog.cellsOf 9)) = some y1 := hf 1 _ rfl
    have h2 : DataW.trod enc Tryz.prog w base spare held m 9 ((cs.drop 2).take (Tryz.prog.cellsOf 9)) = some y2 := hf 2 _ rfl
    have h3 : DataW.trod enc Tryz.prog w base spare held m 9 ((cs.drop 3).take (Tryz.prog.cellsOf 9)) = some y3 := hf 3 _ rfl
    have h4 : DataW.trod enc Tryz.prog w base spare held m 96 ((cs.drop 4).take (Tryz.prog.cellsOf 96)) = some y4 := hf 4 _ rfl
    rw [cells_int9] at h0
    rw [cells_string9] at h1 h2 h3
    rw [cells_chg9] at h4
    obtain ⟨d, e0, _, w0⟩ := DataW.trod_int Tryz.underlying3 h0
    obtain ⟨s1, e1, _, _⟩ := DataW.trod_string Tryz.underlying9 h1
    obtain ⟨s2, e2, _, _⟩ := DataW.trod_string Tryz.underlying9 h2
    obtain ⟨s3, e3, _, _⟩ := DataW.trod_string Tryz.underlying9 h3
    obtain ⟨k, i, n, r, hh, hr, k1, k2, k3, k4, e4⟩ := open_chg9 h4
    refine ⟨d, s1, s2, s3, k, i, n, r, hh, hr, i64_wf9 w0, k1, k2, k3, k4, ?_⟩
    have e : cs = cs.drop 0 := rfl
    rw [e, cut9 cs 0 1, e0, cut9 cs (0 + 1) 1, e1, cut9 cs (0 + 1 + 1) 1, e2, cut9 cs (0 + 1 + 1 + 1) 1, e3, cut9 cs (0 + 1 + 1 + 1 + 1) 36, e4, List.drop_eq_nil_of_le (by omega)]
    simp
set_option maxRecDepth 100000 in
theorem open_req9 (h : DataW.trod enc Tryz.prog w base spare held fuel 100 cs = some x) :
    ∃ y : ReqX, (R64 y.client ∧ R64 y.num ∧ R64 y.kind ∧ R64 y.ck ∧ R64 y.cid ∧ R64 y.cn ∧ R64 y.high) ∧ cs = y.cells := by
  obtain ⟨xs, m, _, _, hl, hxl, hf⟩ := DataW.trod_struct Tryz.underlying100 h
  rw [cells_req9] at hl
  match xs, hxl with
  | [y0, y1, y2], _ =>
    have h0 : DataW.trod enc Tryz.prog w base spare held m 3 ((cs.drop 0).take (Tryz.prog.cellsOf 3)) = some y0 := hf 0 _ rfl
    have h1 : DataW.trod enc Tryz.prog w base spare held m 3 ((cs.drop 1).take (Tryz.prog.cellsOf 3)) = some y1 := hf 1 _ rfl
    have h2 : DataW.trod enc Tryz.prog w base spare held m 98 ((cs.drop 2).take (Tryz.prog.cellsOf 98)) = some y2 := hf 2 _ rfl
    rw [cells_int9] at h0 h1
    rw [cells_op9] at h2
    obtain ⟨c, e0, _, w0⟩ := DataW.trod_int Tryz.underlying3 h0
    obtain ⟨u, e1, _, w1⟩ := DataW.trod_int Tryz.underlying3 h1
    obtain ⟨d, s1, s2, s3, k, i, n, r, hh, hr, k0, k1, k2, k3, k4, e2⟩ := open_op9 h2
    refine ⟨⟨c, u, d, s1, s2, s3, k, i, n, r, hh, hr⟩, ⟨i64_wf9 w0, i64_wf9 w1, k0, k1, k2, k3, k4⟩, ?_⟩
    have e : cs = cs.drop 0 := rfl
    rw [e, cut9 cs 0 1, e0, cut9 cs (0 + 1) 1, e1, cut9 cs (0 + 1 + 1) 40, e2, List.drop_eq_nil_of_le (by omega)]
    simp [ReqX.cells, opL]
set_option maxRecDepth 100000 in
theorem open_bytes9 (h : DataW.trod enc Tryz.prog w base spare held fuel 45 cs = some x) :
    ∃ (A : Option Addr) (l : List UInt8) (cap : Nat), cs = [.slice A l.length cap] ∧ l.length ≤ cap ∧ cap ≤ maxLen ∧ Sees w w.heap.size A (l.map bv) := by
  rcases open_ints Tryz.underlying45 Tryz.underlying5 cells_byte9 h with ⟨rfl, rfl⟩ | ⟨a, len, cap, zs, rfl, _, hl, hm, hz, _, hc, hw⟩
  · exact ⟨none, [], 0, rfl, Nat.le_refl _, by simp [maxLen], .inl rfl⟩
  · have hzl : len ≤ zs.length := by rw [hz]; split <;> omega
    have e : ((zs.take len).map fun n => UInt8.ofNat n.toNat).length = len := by simp; omega
    refine ⟨some a, (zs.take len).map fun n => UInt8.ofNat n.toNat, cap, by rw [e], by rw [e]; exact hl, hm, sees_of_addr9 fun j u hu => ?_⟩
    rw [List.map_map, List.getElem?_map, List.getElem?_take] at hu
    split at hu
    · rename_i hj
      have hjz : j < zs.length := by omega
      rw [List.getElem?_eq_getElem hjz, Option.map_some, Option.some.injEq] at hu
      rw [hc j hjz, ← hu]
      have hwj := hw zs[j] (List.getElem_mem hjz)
      simp [Lit.wf, IntKind.min, IntKind.max, IntKind.signed, IntKind.bits] at hwj
      simp only [Function.comp_apply, bv, List.getD, List.getElem?_eq_getElem hjz, Option.getD_some, UInt8.toNat_ofNat']
      congr 2
      omega
    · cases hu
set_option maxRecDepth 100000 in
theorem mem_weightsAll9 {H : Type} {P : Program} {e : TypeId} {l : List (DataW H)} {d : DataW H} (h : d ∈ l) {n : Nat} (hn : n ∈ d.weights P e) : n ∈ DataW.weightsAll P e l := by
  induction l with
  | nil => cases h
  | cons y r ih =>
    rcases List.mem_cons.1 h with rfl | h
    · simp [DataW.weightsAll, hn]
    · simp [DataW.weightsAll, ih h]
end
end Go.Proofs.YtbclepdcngaonaaGreatDoor

namespace Go.Proofs.YtbclepdcngaonaaGreatDoor
open Go.ChangeShapes Go.WideShapes Go.ChangeAt Go.RowKit Go.Deep

section
variable {H : Type} {enc : TypeId × Value → H} {w : World} {base : Nat} {spare : Nat → Bool} {held : Bool} {fuel : Nat} {cs : List Value} {x : DataW H × List MemPlace}
set_option maxRecDepth 100000 in
theorem weigh_slice {e t : TypeId} (ht : Tryz.prog.underlying t = some (.slice e)) {ls sp : List (DataW H)} {b : Nat} (h : ∀ u ∈ (DataW.slice ls sp).weights Tryz.prog t, u ≤ b) :
    (ls.length + sp.length) * Tryz.prog.bytesOf e ≤ b ∧ ∀ d ∈ ls, ∀ u ∈ d.weights Tryz.prog e, u ≤ b := by
  simp only [DataW.weights, ht, List.mem_cons, List.mem_append] at h
  exact ⟨h _ (.inl rfl), fun d hd u hu => h u (.inr (.inl (mem_weightsAll9 hd hu)))⟩
set_option maxRecDepth 100000 in
/-- A slice of any kind of elements. -/
theorem open_rowK {α : Type} (K : EK α) (a0 : α) (b : Nat) (P : α → Prop) (hkc : Tryz.prog.cellsOf K.e = K.k) (hbc : Tryz.prog.bytesOf K.e = K.bys)
    (hop : ∀ n cs (y : DataW H × List MemPlace), DataW.trod enc Tryz.prog w base spare held n K.e cs = some y → (∀ u ∈ y.1.weights Tryz.prog K.e, u ≤ b) → ∃ a, cs = K.enc a ∧ P a)
    (hw : ∀ u ∈ x.1.weights Tryz.prog K.sl, u ≤ b) (h : DataW.trod enc Tryz.prog w base spare held fuel K.sl cs = some x) :
    ∃ (A : Option Addr) (xs : List α) (cap : Nat), cs = [.slice A xs.length cap] ∧ xs.length ≤ cap ∧ cap ≤ maxLen ∧ K.See w w.heap.size A xs ∧ xs.length * K.bys ≤ b ∧ ∀ a ∈ xs, P a := by
  rcases open_slice K.und h with ⟨rfl, rfl⟩ | ⟨a, len, cap, m, n, D, Pl, rfl, hb, hl, hm, hmm, rfl, hi⟩
  · exact ⟨none, [], 0, rfl, Nat.le_refl _, by simp [maxLen], .inl rfl, by simp, fun a ha => by cases ha⟩
  · have hlm : len ≤ m := by rw [hmm]; split <;> omega
    obtain ⟨hwb, hwe⟩ := weigh_slice K.und hw
    rw [hbc] at hwb
    have hlb : len * K.bys ≤ b := by
      refine Nat.le_trans (Nat.mul_le_mul_right _ ?_) hwb
      simp
    have hex : ∀ i, i < len → ∃ y : α, P y ∧ ∀ j, j < K.k → w.cell? (a.add (i * K.k + j)) = (K.enc y)[j]? := by
      intro i hil
      obtain ⟨cs', hc, ht⟩ := hi i (by omega)
      rw [hkc] at hc
      obtain ⟨_, hcl, hat⟩ := World.cells?_some hc
      obtain ⟨y, e, hp⟩ := hop _ _ _ ht (hwe _ (List.mem_map.2 ⟨i, List.mem_range.2 hil, rfl⟩))
      subst e
      refine ⟨y, hp, fun j hj => ?_⟩
      have h1 := hat j hj
      rw [add_two8] at h1
      exact h1
    obtain ⟨F, hF⟩ : ∃ F : Nat → α, ∀ i, i < len → P (F i) ∧ ∀ j, j < K.k → w.cell? (a.add (i * K.k + j)) = (K.enc (F i))[j]? :=
      ⟨fun i => if hi : i < len then (hex i hi).choose else a0, fun i hi => by
        simp only [dif_pos hi]
        exact (hex i hi).choose_spec⟩
    have hlen : ((List.range len).map F).length = len := by simp
    refine ⟨some a, (List.range len).map F, cap, by rw [hlen], by rw [hlen]; exact hl, hm, ?_, by rw [hlen]; exact hlb, fun y hy => ?_⟩
    · refine sees_of_addr8 fun j u hu => ?_
      have hk := K.hk
      have hj : j < len * K.k := by
        have := (List.getElem?_eq_some_iff.1 hu).1
        rw [K.flat_len, hlen] at this
        exact this
      obtain ⟨y, h1, h2⟩ := cf_get K.enc K.k K.len ((List.range len).map F) j (by rw [hlen]; exact hj)
      have h2' : (K.flat ((List.range len).map F))[j]? = (K.enc y)[j % K.k]? := h2
      rw [h2'] at hu
      have hkl : j / K.k < len := (Nat.div_lt_iff_lt_mul hk).2 hj
      rw [List.getElem?_map, List.getElem?_range hkl] at h1
      obtain rfl : F (j / K.k) = y := by simpa using h1
      have hc := (hF (j / K.k) hkl).2 (j % K.k) (Nat.mod_lt _ hk)
      rw [Nat.div_add_mod' j K.k] at hc
      rw [hc, hu]
    · obtain ⟨i, hi, rfl⟩ := List.mem_map.1 hy
      exact (hF i (List.mem_range.1 hi)).1
set_option maxRecDepth 100000 in
theorem open_str10 {b : Nat} (hw : ∀ u ∈ x.1.weights Tryz.prog 9, u ≤ b) (h : DataW.trod enc Tryz.prog w base spare held fuel 9 cs = some x) : ∃ s : ByteArray, cs = [.string s] ∧ s.size ≤ b := by
  obtain ⟨s, e, hx, _⟩ := DataW.trod_string Tryz.underlying9 h
  subst hx
  refine ⟨s, e, hw _ ?_⟩
  simp [DataW.weights]
set_option maxRecDepth 100000 in
theorem bytes_req10 : Tryz.prog.bytesOf 100 = 136 := by kernel_rfl
set_option maxRecDepth 100000 in
theorem cut_at10 (l : List Value) (o : Nat) {v : Value} (h : (l.drop o).take 1 = [v]) : l[o]? = some v := by
  have h2 : ((l.drop o).take 1)[0]? = some v := by rw [h]; rfl
  rw [List.getElem?_take, if_pos (by decide), List.getElem?_drop] at h2
  simpa using h2
set_option maxRecDepth 100000 in
theorem size_op10 {b : Nat} (hw : ∀ u ∈ x.1.weights Tryz.prog 98, u ≤ b) (h : DataW.trod enc Tryz.prog w base spare held fuel 98 cs = some x) :
    ∀ s : ByteArray, cs[1]? = some (.string s) ∨ cs[2]? = some (.string s) ∨ cs[3]? = some (.string s) → s.size ≤ b := by
  obtain ⟨xs, m, _, hx, hl, hxl, hf⟩ := DataW.trod_struct Tryz.underlying98 h
  match xs, hxl with
  | [y0, y1, y2, y3, y4], _ =>
    have h1 : DataW.trod enc Tryz.prog w base spare held m 9 ((cs.drop 1).take (Tryz.prog.cellsOf 9)) = some y1 := hf 1 _ rfl
    have h2 : DataW.trod enc Tryz.prog w base spare held m 9 ((cs.drop 2).take (Tryz.prog.cellsOf 9)) = some y2 := hf 2 _ rfl
    have h3 : DataW.trod enc Tryz.prog w base spare held m 9 ((cs.drop 3).take (Tryz.prog.cellsOf 9)) = some y3 := hf 3 _ rfl
    rw [cells_string9] at h1 h2 h3
    subst hx
    simp only [DataW.weights, DataW.weightsEach, Tryz.underlying98, List.map_cons, List.map_nil, List.mem_append, List.not_mem_nil, or_false] at hw
    obtain ⟨s1, e1, w1⟩ := open_str10 (fun u hu => hw u (.inr (.inl hu))) h1
    obtain ⟨s2, e2, w2⟩ := open_str10 (fun u hu => hw u (.inr (.inr (.inl hu)))) h2
    obtain ⟨s3, e3, w3⟩ := open_str10 (fun u hu => hw u (.inr (.inr (.inr (.inl hu))))) h3
    intro s hs
    rw [cut_at10 cs 1 e1, cut_at10 cs 2 e2, cut_at10 cs 3 e3] at hs
    rcases hs with hs | hs | hs <;> injection hs with hs <;> injection hs with hs <;> subst hs <;> assumption
set_option maxRecDepth 100000 in
theorem open_req10 {b : Nat} (hw : ∀ u ∈ x.1.weights Tryz.prog 100, u ≤ b) (h : DataW.trod enc Tryz.prog w base spare held fuel 100 cs = some x) :
    ∃ y : ReqX, cs = y.cells ∧ (R64 y.client ∧ R64 y.num ∧ R64 y.kind ∧ R64 y.ck ∧ R64 y.cid ∧ R64 y.cn ∧ R64 y.high) ∧ y.key.size ≤ b ∧ y.val.size ≤ b ∧ y.old.size ≤ b := by
  obtain ⟨y, hI, rfl⟩ := open_req9 h
  obtain ⟨xs, m, _, hx, hl, hxl, hf⟩ := DataW.trod_struct Tryz.underlying100 h
  match xs, hxl with
  | [y0, y1, y2], _ =>
    have h2 : DataW.trod enc Tryz.prog w base spare held m 98 ((y.cells.drop 2).take (Tryz.prog.cellsOf 98)) = some y2 := hf 2 _ rfl
    rw [cells_op9, show (y.cells.drop 2).take 40 = opL y from by
      show (opL y).take 40 = opL y
      exact List.take_of_length_le (by rw [opL_len]; decide)] at h2
    subst hx
    simp only [DataW.weights, DataW.weightsEach, Tryz.underlying100, List.map_cons, List.map_nil, List.mem_append, List.not_mem_nil, or_false] at hw
    have hz := size_op10 (fun u hu => hw u (.inr (.inr hu))) h2
    exact ⟨y, rfl, hI, hz _ (.inl rfl), hz _ (.inr (.inl rfl)), hz _ (.inr (.inr rfl))⟩
set_option maxRecDepth 100000 in
theorem open_reqs10 {b : Nat} (hw : ∀ u ∈ x.1.weights Tryz.prog 30, u ≤ b) (h : DataW.trod enc Tryz.prog w base spare held fuel 30 cs = some x) :
    ∃ (A : Option Addr) (qs : List ReqX) (cap : Nat), cs = [.slice A qs.length cap] ∧ qs.length * 136 ≤ b ∧ QK.See w w.heap.size A qs ∧ ∀ q ∈ qs, (R64 q.client ∧ R64 q.num ∧ R64 q.kind ∧ R64 q.ck ∧ R64 q.cid ∧ R64 q.cn ∧ R64 q.high) ∧ q.key.size ≤ b ∧ q.val.size ≤ b ∧ q.old.size ≤ b := by
  obtain ⟨A, qs, cap, h1, _, _, h4, h5, h6⟩ := open_rowK QK zreq b (fun q => (R64 q.client ∧ R64 q.num ∧ R64 q.kind ∧ R64 q.ck ∧ R64 q.cid ∧ R64 q.cn ∧ R64 q.high) ∧ q.key.size ≤ b ∧ q.val.size ≤ b ∧ q.old.size ≤ b) cells_req9 bytes_req10 (fun n cs y hy hu => open_req10 hu hy) hw h
  exact ⟨A, qs, cap, h1, h5, h4, h6⟩
end
end Go.Proofs.YtbclepdcngaonaaGreatDoor

namespace Go.Proofs.YtbclepdcngaonaaGreatDoor
open Go.ChangeShapes Go.WideShapes Go.ChangeAt Go.RowKit Go.Deep

noncomputable def DgK : EK {d : List UInt8 // d.length = 32} where
  e := 29
  sl := 68
  k := 32
  bys := 32
  z := .agg (List.replicate 32 (Value.int .u8 0)).toArray
  enc := fun d => d.1.map bv
  hk := by decide
  und := Tryz.underlying68
  els := by kernel_rfl
  info := by kernel_rfl
  hzs := rfl
  zone := by
    intro v hv
    have h : v ∈ List.replicate 32 (Value.int .u8 0) := hv
    rw [List.eq_of_mem_replicate h]
    rfl
  len := fun d => by rw [List.length_map]; exact d.2
  one := fun d v hv => by
    obtain ⟨b, _, rfl⟩ := List.mem_map.1 hv
    rfl
  hby := by decide
set_option maxRecDepth 100000 in
theorem dgk_flat (xs : List {d : List UInt8 // d.length = 32}) : DgK.flat xs = ((xs.map (·.1)).flatten).map bv := by
  induction xs with
  | nil => rfl
  | cons x xs ih =>
    show x.1.map bv ++ DgK.flat xs = _
    rw [ih, List.map_cons, List.flatten_cons, List.map_append]
section
variable {H : Type} {enc : TypeId × Value → H} {w : World} {base : Nat} {spare : Nat → Bool} {held : Bool} {fuel : Nat} {cs : List Value} {x : DataW H × List MemPlace}
set_option maxRecDepth 100000 in
theorem cells_digest11 : Tryz.prog.cellsOf 29 = 32 := by kernel_rfl
set_option maxRecDepth 100000 in
theorem bytes_digest11 : Tryz.prog.bytesOf 29 = 32 := by kernel_rfl
set_option maxRecDepth 100000 in
theorem cells_digests11 : Tryz.prog.cellsOf 68 = 1 := by kernel_rfl
set_option maxRecDepth 100000 in
theorem open_digests11 {b : Nat} (hw : ∀ u ∈ x.1.weights Tryz.prog 68, u ≤ b) (h : DataW.trod enc Tryz.prog w base spare held fuel 68 cs = some x) :
    ∃ (A : Option Addr) (ds : List (List UInt8)) (cap : Nat), cs = [.slice A ds.length cap] ∧ ds.length ≤ cap ∧ ds.length * 32 ≤ b ∧ Digs w w.heap.size A ds := by
  obtain ⟨A, xs, cap, h1, h2, _, h4, h5, _⟩ := open_rowK DgK ⟨List.replicate 32 0, rfl⟩ b (fun _ => True) cells_digest11 bytes_digest11 (fun n cs y hy _ => by
    obtain ⟨d, hd, e⟩ := open_digest8 hy
    exact ⟨⟨d, hd⟩, e, trivial⟩) hw h
  refine ⟨A, xs.map (·.1), cap, by rw [List.length_map]; exact h1, by rw [List.length_map]; exact h2, by rw [List.length_map]; exact h5, ⟨fun d hd => ?_, ?_⟩⟩
  · obtain ⟨y, _, rfl⟩ := List.mem_map.1 hd
    exact y.2
  · have h6 : Sees w w.heap.size A (DgK.flat xs) := h4
    rw [dgk_flat] at h6
    exact h6
end
end Go.Proofs.YtbclepdcngaonaaGreatDoor
