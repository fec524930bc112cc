/-
  Opening the handed arguments of config's laws: configurations, changes, keys.
-/
import Derived.Test.YtbgbidgggjkmmaaGreatDoorCC
import Derived.Deep.Strs
import Derived.ProofKit
import Derived.OpenShut
import Derived.SizedLaws
import Derived.Carry
import Derived.ChangeAt
import Derived.JoinedOf
import Derived.ChangeShapes
import Derived.Deep.Slices
import Derived.Deep.DeepHandedRow
namespace Go.Proofs.YtbgbidgggjkmmaaGreatDoor
open Go.ChangeShapes Go.WideShapes Go.ChangeAt Go.RowKit Go.Deep

set_option maxRecDepth 100000 in
theorem row_own8 : ownKnob Tryz.prog.godebug = none := by kernel_rfl
set_option maxRecDepth 100000 in
theorem row_laidOut8 : laidOutB Tryz.prog = true := by kernel_rfl
set_option maxRecDepth 100000 in
theorem cells_byte8 : Tryz.prog.cellsOf 5 = 1 := by kernel_rfl
set_option maxRecDepth 100000 in
theorem cells_digest8 : Tryz.prog.cellsOf 48 = 32 := by kernel_rfl
set_option maxRecDepth 100000 in
theorem cells_key8 : Tryz.prog.cellsOf 50 = 33 := by kernel_rfl
set_option maxRecDepth 100000 in
theorem cells_int8 : Tryz.prog.cellsOf 3 = 1 := by kernel_rfl
set_option maxRecDepth 100000 in
theorem cells_mem8 : Tryz.prog.cellsOf 74 = 34 := by kernel_rfl
set_option maxRecDepth 100000 in
theorem cells_cfg8 : Tryz.prog.cellsOf 26 = 2 := by kernel_rfl
set_option maxRecDepth 100000 in
theorem cells_mems8 : Tryz.prog.cellsOf 24 = 1 := by kernel_rfl
set_option maxRecDepth 100000 in
theorem cells_chg8 : Tryz.prog.cellsOf 52 = 36 := by kernel_rfl
set_option maxRecDepth 100000 in
theorem i64_wf8 {n : Int} (h : (Lit.int .i64 n).wf = true) : -9223372036854775808 ≤ n ∧ n ≤ 9223372036854775807 := by
  simp [Lit.wf, IntKind.min, IntKind.max, IntKind.signed, IntKind.bits] at h
  exact ⟨by omega, by omega⟩
set_option maxRecDepth 100000 in
theorem u64_wf8 {n : Int} (h : (Lit.int .u64 n).wf = true) : 0 ≤ n ∧ n ≤ 18446744073709551615 := by
  simp [Lit.wf, IntKind.min, IntKind.max, IntKind.signed, IntKind.bits] at h
  exact ⟨by omega, by omega⟩
set_option maxRecDepth 100000 in
theorem sees_of_addr8 {w : World} {a : Addr} {xs : List Value} (h : ∀ j u, xs[j]? = some u → w.cell? (a.add j) = some u) : Sees w w.heap.size (some a) xs := by
  rcases xs with _ | ⟨x, r⟩
  · exact .inl rfl
  · have h1 := h 0 x rfl
    obtain ⟨g, o, sp⟩ := a
    have hsp : sp = none := by
      rcases sp with _ | sp
      · rfl
      · exfalso
        simp [World.cell?, Addr.add] at h1
        split at h1 <;> simp_all
    subst hsp
    refine .inr ⟨g, o, rfl, ?_, fun j u hu => ?_⟩
    · have := World.block_lt_of_cell? w _ h1
      simpa [plain_add] using this
    · rw [← plain_add]
      exact h j u hu
set_option maxRecDepth 100000 in
theorem add_two8 (a : Addr) (x y : Nat) : (a.add x).add y = a.add (x + y) := by
  obtain ⟨b, o, sp⟩ := a
  unfold Addr.add
  by_cases hx : x = 0
  · subst hx
    simp
  · by_cases hy : y = 0
    · subst hy
      simp
    · simp [hx, hy]
      omega
set_option maxRecDepth 100000 in
theorem open_digest8 {H : Type} {enc : TypeId × Value → H} {w : World} {base : Nat} {spare : Nat → Bool} {held : Bool} {fuel : Nat} {cs : List Value} {x : DataW H × List MemPlace} (h : DataW.trod enc Tryz.prog w base spare held fuel 48 cs = some x) : ∃ d : List UInt8, d.length = 32 ∧ cs = d.map bv := by
  obtain ⟨xs, m, _, _, hl, hxl, hf⟩ := DataW.trod_array Tryz.underlying48 h
  rw [cells_digest8] at hl
  have hv : ∀ i, i < 32 → ∃ b : UInt8, cs[i]? = some (bv b) := by
    intro i hi
    have h1 := hf i hi
    rw [cells_byte8, Nat.mul_one] at h1
    have hx : xs[i]? = some (xs[i]'(by omega)) := List.getElem?_eq_getElem (by omega)
    rw [hx] at h1
    obtain ⟨n, e1, _, hw⟩ := DataW.trod_int Tryz.underlying5 h1
    have e2 : cs[i]? = some (.int .u8 n) := by
      have := congrArg (fun l : List Value => l[0]?) e1
      simpa using this
    have hb : 0 ≤ n ∧ n ≤ 255 := by
      simp [Lit.wf, IntKind.min, IntKind.max, IntKind.signed, IntKind.bits] at hw
      exact ⟨by omega, by omega⟩
    refine ⟨UInt8.ofNat n.toNat, ?_⟩
    rw [e2]
    unfold bv
    have e3 : ((UInt8.ofNat n.toNat).toNat : Int) = n := by
      rw [UInt8.toNat_ofNat']
      omega
    rw [e3]
  refine ⟨cs.map fun v => match v with | .int _ n => UInt8.ofNat n.toNat | _ => 0, by rw [List.length_map]; exact hl, ?_⟩
  apply List.ext_getElem?
  intro i
  rcases Nat.lt_or_ge i 32 with hi | hi
  · obtain ⟨b, hb⟩ := hv i hi
    rw [hb]
    simp only [List.getElem?_map, hb, Option.map_some]
    unfold bv
    simp
  · rw [List.getElem?_eq_none (by omega), List.getElem?_eq_none (by simp; omega)]
set_option maxRecDepth 100000 in
theorem open_key8 {H : Type} {enc : TypeId × Value → H} {w : World} {base : Nat} {spare : Nat → Bool} {held : Bool} {fuel : Nat} {cs : List Value} {x : DataW H × List MemPlace} (h : DataW.trod enc Tryz.prog w base spare held fuel 50 cs = some x) :
    ∃ (r : List UInt8) (k : Int), r.length = 32 ∧ (-9223372036854775808 ≤ k ∧ k ≤ 9223372036854775807) ∧ cs = keyL r k := by
  obtain ⟨y0, y1, n, _, hl, h0, h1⟩ := trod_struct2 Tryz.underlying50 h
  rw [cells_key8] at hl
  have e0 : DataW.trod enc Tryz.prog w base spare held n 48 (cs.take 32) = some y0 := by
    have h := h0
    rw [cells_digest8] at h
    exact h
  have e1 : DataW.trod enc Tryz.prog w base spare held n 3 ((cs.drop 32).take 1) = some y1 := by
    have h := h1
    rw [cells_int8] at h
    exact h
  obtain ⟨r, hr, hc⟩ := open_digest8 e0
  obtain ⟨k, hk, _, hw⟩ := DataW.trod_int Tryz.underlying3 e1
  refine ⟨r, k, hr, i64_wf8 hw, ?_⟩
  have e : cs = cs.take 32 ++ cs.drop 32 := (List.take_append_drop 32 cs).symm
  have e2 : (cs.drop 32).take 1 = cs.drop 32 := List.take_of_length_le (by rw [List.length_drop, hl]; omega)
  rw [e, hc, ← e2, hk]
  rfl

set_option maxRecDepth 100000 in
theorem open_mem8 {H : Type} {enc : TypeId × Value → H} {w : World} {base : Nat} {spare : Nat → Bool} {held : Bool} {fuel : Nat} {cs : List Value} {x : DataW H × List MemPlace} (h : DataW.trod enc Tryz.prog w base spare held fuel 74 cs = some x) : ∃ y : MemX, cs = y.cells := by
  obtain ⟨y0, y1, n, _, hl, h0, h1⟩ := trod_struct2 Tryz.underlying74 h
  rw [cells_mem8] at hl
  have e0 : DataW.trod enc Tryz.prog w base spare held n 3 (cs.take 1) = some y0 := by
    have h := h0
    rw [cells_int8] at h
    exact h
  have e1 : DataW.trod enc Tryz.prog w base spare held n 50 ((cs.drop 1).take 33) = some y1 := by
    have h := h1
    rw [cells_key8] at h
    exact h
  obtain ⟨i, hi, _, _⟩ := DataW.trod_int Tryz.underlying3 e0
  obtain ⟨r, k, hr, _, hc⟩ := open_key8 e1
  refine ⟨⟨i, r, k, hr⟩, ?_⟩
  have e : cs = cs.take 1 ++ cs.drop 1 := (List.take_append_drop 1 cs).symm
  have e2 : (cs.drop 1).take 33 = cs.drop 1 := List.take_of_length_le (by rw [List.length_drop, hl]; omega)
  rw [e, hi, ← e2, hc]
  rfl
set_option maxRecDepth 100000 in
theorem open_mems8 {H : Type} {enc : TypeId × Value → H} {w : World} {base : Nat} {spare : Nat → Bool} {held : Bool} {fuel : Nat} {cs : List Value} {x : DataW H × List MemPlace}
    (h : DataW.trod enc Tryz.prog w base spare held fuel 24 cs = some x) :
    ∃ (A : Option Addr) (ms : List MemX) (cap : Nat), cs = [.slice A ms.length cap] ∧ ms.length ≤ cap ∧ cap ≤ maxLen ∧ Mems w w.heap.size A ms := by
  rcases open_slice Tryz.underlying24 h with ⟨rfl, rfl⟩ | ⟨a, len, cap, m, n, D, Pl, rfl, hb, hl, hm, hmm, rfl, hi⟩
  · exact ⟨none, [], 0, rfl, Nat.le_refl _, by simp [maxLen], .inl rfl⟩
  · have hlm : len ≤ m := by rw [hmm]; split <;> omega
    have hex : ∀ i, i < len → ∃ y : MemX, ∀ j, j < 34 → w.cell? (a.add (i * 34 + j)) = y.cells[j]? := by
      intro i hil
      obtain ⟨cs', hc, ht⟩ := hi i (by omega)
      rw [cells_mem8] at hc
      obtain ⟨_, hcl, hat⟩ := World.cells?_some hc
      obtain ⟨y, e⟩ := open_mem8 ht
      subst e
      refine ⟨y, fun j hj => ?_⟩
      have h1 := hat j hj
      rw [add_two8] at h1
      exact h1
    obtain ⟨F, hF⟩ : ∃ F : Nat → MemX, ∀ i, i < len → ∀ j, j < 34 → w.cell? (a.add (i * 34 + j)) = (F i).cells[j]? :=
      ⟨fun i => if hi : i < len then (hex i hi).choose else zmem, fun i hi => by
        simp only [dif_pos hi]
        exact (hex i hi).choose_spec⟩
    have hlen : ((List.range len).map F).length = len := by simp
    refine ⟨some a, (List.range len).map F, cap, by rw [hlen], by rw [hlen]; exact hl, hm, sees_of_addr8 fun j u hu => ?_⟩
    have hj : j < len * 34 := by
      have := (List.getElem?_eq_some_iff.1 hu).1
      rw [flatM_len, hlen] at this
      omega
    obtain ⟨y, h1, h2⟩ := cf_get MemX.cells 34 MemX.cells_len ((List.range len).map F) j (by rw [hlen]; exact hj)
    rw [h2] at hu
    have hk : j / 34 < len := by omega
    rw [List.getElem?_map, List.getElem?_range hk] at h1
    obtain rfl : F (j / 34) = y := by simpa using h1
    have hc := hF (j / 34) hk (j % 34) (Nat.mod_lt _ (by decide))
    rw [show j / 34 * 34 + j % 34 = j by omega] at hc
    rw [hc, hu]
set_option maxRecDepth 100000 in
theorem open_cfg8 {H : Type} {enc : TypeId × Value → H} {w : World} {base : Nat} {spare : Nat → Bool} {held : Bool} {fuel : Nat} {cs : List Value} {x : DataW H × List MemPlace} (h : DataW.trod enc Tryz.prog w base spare held fuel 26 cs = some x) :
    ∃ (ep : Int) (A : Option Addr) (ms : List MemX) (c : Nat), cs = [.int .i64 ep, .slice A ms.length c] ∧ ms.length ≤ maxLen ∧ Mems w w.heap.size A ms := by
  obtain ⟨y0, y1, n, _, hl, h0, h1⟩ := trod_struct2 Tryz.underlying26 h
  rw [cells_cfg8] at hl
  match cs, hl with
  | [a, b], _ =>
    have e0 : DataW.trod enc Tryz.prog w base spare held n 3 [a] = some y0 := by
      have h := h0
      rw [cells_int8] at h
      exact h
    have e1 : DataW.trod enc Tryz.prog w base spare held n 24 [b] = some y1 := by
      have h := h1
      rw [cells_mems8] at h
      exact h
    obtain ⟨ep, ha, _, _⟩ := DataW.trod_int Tryz.underlying3 e0
    obtain ⟨A, ms, c, hb, hlc, hcm, hM⟩ := open_mems8 e1
    injection ha with ha
    injection hb with hb
    subst ha
    subst hb
    exact ⟨ep, A, ms, c, rfl, Nat.le_trans hlc hcm, hM⟩
set_option maxRecDepth 100000 in
theorem open_chg8 {H : Type} {enc : TypeId × Value → H} {w : World} {base : Nat} {spare : Nat → Bool} {held : Bool} {fuel : Nat} {cs : List Value} {x : DataW H × List MemPlace} (h : DataW.trod enc Tryz.prog w base spare held fuel 52 cs = some x) :
    ∃ (k i n : Int) (r : List UInt8) (hh : Int), r.length = 32 ∧ cs = chgL k i n r hh := by
  obtain ⟨xs, m, _, _, hl, hxl, hf⟩ := DataW.trod_struct Tryz.underlying52 h
  rw [cells_chg8] at hl
  match xs, hxl with
  | [y0, y1, y2, y3], _ =>
    have h0 : DataW.trod enc Tryz.prog w base spare held m 3 ((cs.drop 0).take (Tryz.prog.cellsOf 3)) = some y0 := hf 0 _ rfl
    have h1 : DataW.trod enc Tryz.prog w base spare held m 3 ((cs.drop 1).take (Tryz.prog.cellsOf 3)) = some y1 := hf 1 _ rfl
    have h2 : DataW.trod enc Tryz.prog w base spare held m 3 ((cs.drop 2).take (Tryz.prog.cellsOf 3)) = some y2 := hf 2 _ rfl
    have h3 : DataW.trod enc Tryz.prog w base spare held m 50 ((cs.drop 3).take (Tryz.prog.cellsOf 50)) = some y3 := hf 3 _ rfl
    rw [cells_int8] at h0 h1 h2
    rw [cells_key8] at h3
    obtain ⟨k, e0, _, _⟩ := DataW.trod_int Tryz.underlying3 h0
    obtain ⟨i, e1, _, _⟩ := DataW.trod_int Tryz.underlying3 h1
    obtain ⟨n, e2, _, _⟩ := DataW.trod_int Tryz.underlying3 h2
    obtain ⟨r, hh, hr, _, e3⟩ := open_key8 h3
    refine ⟨k, i, n, r, hh, hr, ?_⟩
    have cut : ∀ (l : List Value) (o q : Nat), l.drop o = (l.drop o).take q ++ l.drop (o + q) := fun l o q => by rw [← List.drop_drop, List.take_append_drop]
    have e : cs = cs.drop 0 := rfl
    rw [e, cut cs 0 1, e0, cut cs (0 + 1) 1, e1, cut cs (0 + 1 + 1) 1, e2, cut cs (0 + 1 + 1 + 1) 33, e3, List.drop_eq_nil_of_le (by omega)]
    simp [chgL]
end Go.Proofs.YtbgbidgggjkmmaaGreatDoor
