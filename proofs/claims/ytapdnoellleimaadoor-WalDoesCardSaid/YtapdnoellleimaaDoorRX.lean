/-
  Opening the handed arguments of config's laws: configurations, changes, keys.
  Opening the handed arguments of request's laws: requests, replies, bytes.
  Opening the handed arguments of state's laws: states, requests, lists of requests, strings.
  Opening the handed arguments of chunk's laws: lists of pieces.
-/
import Derived.Test.YtapdnoellleimaaDoorCA
import Derived.Test.YtapdnoellleimaaDoorKA
import Derived.Deep.Strs
import Derived.ProofKit
import Derived.OpenShut
import Derived.SizedLaws
import Derived.Carry
import Derived.ChangeAt
import Derived.JoinedOf
import Derived.ChangeShapes
import Derived.Deep.Slices
import Derived.Deep.DeepHandedRow
import Derived.Test.YtapdnoellleimaaDoorRD
import Derived.Test.YtapdnoellleimaaDoorNG
import Derived.Test.YtapdnoellleimaaDoorHA
namespace Go.Proofs.YtapdnoellleimaaDoor
open Go.ChangeShapes Go.WideShapes Go.ChangeAt Go.RowKit Go.Deep

set_option maxRecDepth 100000 in
theorem row_own8 : ownKnob Tryd.prog.godebug = none := by kernel_rfl
set_option maxRecDepth 100000 in
theorem row_laidOut8 : laidOutB Tryd.prog = true := by kernel_rfl
set_option maxRecDepth 100000 in
theorem cells_byte8 : Tryd.prog.cellsOf 5 = 1 := by kernel_rfl
set_option maxRecDepth 100000 in
theorem cells_digest8 : Tryd.prog.cellsOf 89 = 32 := by kernel_rfl
set_option maxRecDepth 100000 in
theorem cells_int8 : Tryd.prog.cellsOf 3 = 1 := by kernel_rfl
set_option maxRecDepth 100000 in
theorem i64_wf8 {n : Int} (h : (Lit.int .i64 n).wf = true) : -9223372036854775808 ≤ n ∧ n ≤ 9223372036854775807 := by
  simp [Lit.wf, IntKind.min, IntKind.max, IntKind.signed, IntKind.bits] at h
  exact ⟨by omega, by omega⟩
set_option maxRecDepth 100000 in
theorem u64_wf8 {n : Int} (h : (Lit.int .u64 n).wf = true) : 0 ≤ n ∧ n ≤ 18446744073709551615 := by
  simp [Lit.wf, IntKind.min, IntKind.max, IntKind.signed, IntKind.bits] at h
  exact ⟨by omega, by omega⟩
set_option maxRecDepth 100000 in
theorem sees_of_addr8 {w : World} {a : Addr} {xs : List Value} (h : ∀ j u, xs[j]? = some u → w.cell? (a.add j) = some u) : Sees w w.heap.size (some a) xs := by
  rcases xs with _ | ⟨x, r⟩
  · exact .inl rfl
  · have h1 := h 0 x rfl
    obtain ⟨g, o, sp⟩ := a
    have hsp : sp = none := by
      rcases sp with _ | sp
      · rfl
      · exfalso
        simp [World.cell?, Addr.add] at h1
        split at h1 <;> simp_all
    subst hsp
    refine .inr ⟨g, o, rfl, ?_, fun j u hu => ?_⟩
    · have := World.block_lt_of_cell? w _ h1
      simpa [plain_add] using this
    · rw [← plain_add]
      exact h j u hu
set_option maxRecDepth 100000 in
theorem add_two8 (a : Addr) (x y : Nat) : (a.add x).add y = a.add (x + y) := by
  obtain ⟨b, o, sp⟩ := a
  unfold Addr.add
  by_cases hx : x = 0
  · subst hx
    simp
  · by_cases hy : y = 0
    · subst hy
      simp
    · simp [hx, hy]
      omega
set_option maxRecDepth 100000 in
theorem open_digest8 {H : Type} {enc : TypeId × Value → H} {w : World} {base : Nat} {spare : Nat → Bool} {held : Bool} {fuel : Nat} {cs : List Value} {x : DataW H × List MemPlace} (h : DataW.trod enc Tryd.prog w base spare held fuel 89 cs = some x) : ∃ d : List UInt8, d.length = 32 ∧ cs = d.map bv := by
  obtain ⟨xs, m, _, _, hl, hxl, hf⟩ := DataW.trod_array Tryd.underlying89 h
  rw [cells_digest8] at hl
  have hv : ∀ i, i < 32 → ∃ b : UInt8, cs[i]? = some (bv b) := by
    intro i hi
    have h1 := hf i hi
    rw [cells_byte8, Nat.mul_one] at h1
    have hx : xs[i]? = some (xs[i]'(by omega)) := List.getElem?_eq_getElem (by omega)
    rw [hx] at h1
    obtain ⟨n, e1, _, hw⟩ := DataW.trod_int Tryd.underlying5 h1
    have e2 : cs[i]? = some (.int .u8 n) := by
      have := congrArg (fun l : List Value => l[0]?) e1
      simpa using this
    have hb : 0 ≤ n ∧ n ≤ 255 := by
      simp [Lit.wf, IntKind.min, IntKind.max, IntKind.signed, IntKind.bits] at hw
      exact ⟨by omega, by omega⟩
    refine ⟨UInt8.ofNat n.toNat, ?_⟩
    rw [e2]
    unfold bv
    have e3 : ((UInt8.ofNat n.toNat).toNat : Int) = n := by
      rw [UInt8.toNat_ofNat']
      omega
    rw [e3]
  refine ⟨cs.map fun v => match v with | .int _ n => UInt8.ofNat n.toNat | _ => 0, by rw [List.length_map]; exact hl, ?_⟩
  apply List.ext_getElem?
  intro i
  rcases Nat.lt_or_ge i 32 with hi | hi
  · obtain ⟨b, hb⟩ := hv i hi
    rw [hb]
    simp only [List.getElem?_map, hb, Option.map_some]
    unfold bv
    simp
  · rw [List.getElem?_eq_none (by omega), List.getElem?_eq_none (by simp; omega)]
end Go.Proofs.YtapdnoellleimaaDoor

namespace Go.Proofs.YtapdnoellleimaaDoor
open Go.ChangeShapes Go.WideShapes Go.ChangeAt Go.RowKit Go.Deep

set_option maxRecDepth 100000 in
theorem row_own9 : ownKnob Tryd.prog.godebug = none := by kernel_rfl
set_option maxRecDepth 100000 in
theorem row_laidOut9 : laidOutB Tryd.prog = true := by kernel_rfl
set_option maxRecDepth 100000 in
theorem cells_byte9 : Tryd.prog.cellsOf 5 = 1 := by kernel_rfl
set_option maxRecDepth 100000 in
theorem cells_digest9 : Tryd.prog.cellsOf 89 = 32 := by kernel_rfl
set_option maxRecDepth 100000 in
theorem cells_int9 : Tryd.prog.cellsOf 3 = 1 := by kernel_rfl
set_option maxRecDepth 100000 in
theorem cells_string9 : Tryd.prog.cellsOf 9 = 1 := by kernel_rfl
set_option maxRecDepth 100000 in
theorem cells_errno9 : Tryd.prog.cellsOf 32 = 1 := by kernel_rfl
set_option maxRecDepth 100000 in
theorem cells_strings9 : Tryd.prog.cellsOf 39 = 1 := by kernel_rfl
set_option maxRecDepth 100000 in
theorem i64_wf9 {n : Int} (h : (Lit.int .i64 n).wf = true) : R64 n := by
  simp [Lit.wf, IntKind.min, IntKind.max, IntKind.signed, IntKind.bits] at h
  exact ⟨by omega, by omega⟩
set_option maxRecDepth 100000 in
theorem sees_of_addr9 {w : World} {a : Addr} {xs : List Value} (h : ∀ j u, xs[j]? = some u → w.cell? (a.add j) = some u) : Sees w w.heap.size (some a) xs := by
  rcases xs with _ | ⟨x, r⟩
  · exact .inl rfl
  · have h1 := h 0 x rfl
    obtain ⟨g, o, sp⟩ := a
    have hsp : sp = none := by
      rcases sp with _ | sp
      · rfl
      · exfalso
        simp [World.cell?, Addr.add] at h1
        split at h1 <;> simp_all
    subst hsp
    refine .inr ⟨g, o, rfl, ?_, fun j u hu => ?_⟩
    · have := World.block_lt_of_cell? w _ h1
      simpa [plain_add] using this
    · rw [← plain_add]
      exact h j u hu
section
variable {H : Type} {enc : TypeId × Value → H} {w : World} {base : Nat} {spare : Nat → Bool} {held : Bool} {fuel : Nat} {cs : List Value} {x : DataW H × List MemPlace}
set_option maxRecDepth 100000 in
theorem open_digest9 (h : DataW.trod enc Tryd.prog w base spare held fuel 89 cs = some x) : ∃ d : List UInt8, d.length = 32 ∧ cs = d.map bv := by
  obtain ⟨xs, m, _, _, hl, hxl, hf⟩ := DataW.trod_array Tryd.underlying89 h
  rw [cells_digest9] at hl
  have hv : ∀ i, i < 32 → ∃ b : UInt8, cs[i]? = some (bv b) := by
    intro i hi
    have h1 := hf i hi
    rw [cells_byte9, Nat.mul_one] at h1
    have hx : xs[i]? = some (xs[i]'(by omega)) := List.getElem?_eq_getElem (by omega)
    rw [hx] at h1
    obtain ⟨n, e1, _, hw⟩ := DataW.trod_int Tryd.underlying5 h1
    have e2 : cs[i]? = some (.int .u8 n) := by
      have := congrArg (fun l : List Value => l[0]?) e1
      simpa using this
    have hb : 0 ≤ n ∧ n ≤ 255 := by
      simp [Lit.wf, IntKind.min, IntKind.max, IntKind.signed, IntKind.bits] at hw
      exact ⟨by omega, by omega⟩
    refine ⟨UInt8.ofNat n.toNat, ?_⟩
    rw [e2]
    unfold bv
    have e3 : ((UInt8.ofNat n.toNat).toNat : Int) = n := by
      rw [UInt8.toNat_ofNat']
      omega
    rw [e3]
  refine ⟨cs.map fun v => match v with | .int _ n => UInt8.ofNat n.toNat | _ => 0, by rw [List.length_map]; exact hl, ?_⟩
  apply List.ext_getElem?
  intro i
  rcases Nat.lt_or_ge i 32 with hi | hi
  · obtain ⟨b, hb⟩ := hv i hi
    rw [hb]
    simp only [List.getElem?_map, hb, Option.map_some]
    unfold bv
    simp
  · rw [List.getElem?_eq_none (by omega), List.getElem?_eq_none (by simp; omega)]
set_option maxRecDepth 100000 in
theorem cut9 (l : List Value) (o q : Nat) : l.drop o = (l.drop o).take q ++ l.drop (o + q) := by rw [← List.drop_drop, List.take_append_drop]
set_option maxRecDepth 100000 in
theorem open_bytes9 (h : DataW.trod enc Tryd.prog w base spare held fuel 22 cs = some x) :
    ∃ (A : Option Addr) (l : List UInt8) (cap : Nat), cs = [.slice A l.length cap] ∧ l.length ≤ cap ∧ cap ≤ maxLen ∧ Sees w w.heap.size A (l.map bv) := by
  rcases open_ints Tryd.underlying22 Tryd.underlying5 cells_byte9 h with ⟨rfl, rfl⟩ | ⟨a, len, cap, zs, rfl, _, hl, hm, hz, _, hc, hw⟩
  · exact ⟨none, [], 0, rfl, Nat.le_refl _, by simp [maxLen], .inl rfl⟩
  · have hzl : len ≤ zs.length := by rw [hz]; split <;> omega
    have e : ((zs.take len).map fun n => UInt8.ofNat n.toNat).length = len := by simp; omega
    refine ⟨some a, (zs.take len).map fun n => UInt8.ofNat n.toNat, cap, by rw [e], by rw [e]; exact hl, hm, sees_of_addr9 fun j u hu => ?_⟩
    rw [List.map_map, List.getElem?_map, List.getElem?_take] at hu
    split at hu
    · rename_i hj
      have hjz : j < zs.length := by omega
      rw [List.getElem?_eq_getElem hjz, Option.map_some, Option.some.injEq] at hu
      rw [hc j hjz, ← hu]
      have hwj := hw zs[j] (List.getElem_mem hjz)
      simp [Lit.wf, IntKind.min, IntKind.max, IntKind.signed, IntKind.bits] at hwj
      simp only [Function.comp_apply, bv, List.getD, List.getElem?_eq_getElem hjz, Option.getD_some, UInt8.toNat_ofNat']
      congr 2
      omega
    · cases hu
set_option maxRecDepth 100000 in
theorem mem_weightsAll9 {H : Type} {P : Program} {e : TypeId} {l : List (DataW H)} {d : DataW H} (h : d ∈ l) {n : Nat} (hn : n ∈ d.weights P e) : n ∈ DataW.weightsAll P e l := by
  induction l with
  | nil => cases h
  | cons y r ih =>
    rcases List.mem_cons.1 h with rfl | h
    · simp [DataW.weightsAll, hn]
    · simp [DataW.weightsAll, ih h]
set_option maxRecDepth 100000 in
theorem open_strings9 (h : DataW.trod enc Tryd.prog w base spare held fuel 39 cs = some x) :
    ∃ (A : Option Addr) (ss : List ByteArray) (cap : Nat), cs = [.slice A ss.length cap] ∧ ss.length ≤ cap ∧ cap ≤ maxLen ∧ Sees w w.heap.size A (ss.map Value.string) ∧
      ∀ s ∈ ss, s.size ∈ x.1.weights Tryd.prog 39 := by
  rcases open_slice Tryd.underlying39 h with ⟨rfl, rfl⟩ | ⟨a, len, cap, m, n, D, Pl, rfl, hb, hl, hm, hmm, rfl, hi⟩
  · exact ⟨none, [], 0, rfl, Nat.le_refl _, by simp [maxLen], .inl rfl, fun p hp => by cases hp⟩
  · have hlm : len ≤ m := by rw [hmm]; split <;> omega
    have hex : ∀ i, i < len → ∃ s : ByteArray, w.cell? (a.add i) = some (.string s) ∧ s.size ∈ (D i).weights Tryd.prog 9 := by
      intro i hil
      obtain ⟨cs', hc, ht⟩ := hi i (by omega)
      rw [cells_string9, Nat.mul_one] at hc
      obtain ⟨_, hcl, hat⟩ := World.cells?_some hc
      obtain ⟨s, e2, x2, _⟩ := DataW.trod_string Tryd.underlying9 ht
      have h0 := hat 0 (by omega)
      subst e2
      refine ⟨s, ?_, ?_⟩
      · have e : (a.add i).add 0 = a.add i := by unfold Addr.add; split <;> simp_all
        rw [e] at h0
        exact h0
      · have : D i = .lit (.string s.data.toList) := by
          have := congrArg Prod.fst x2
          exact this
        rw [this]
        simp [DataW.weights]
    obtain ⟨F, hF⟩ : ∃ F : Nat → ByteArray, ∀ i, i < len → w.cell? (a.add i) = some (.string (F i)) ∧ (F i).size ∈ (D i).weights Tryd.prog 9 :=
      ⟨fun i => if hi : i < len then (hex i hi).choose else ByteArray.empty, fun i hi => by
        simp only [dif_pos hi]
        exact (hex i hi).choose_spec⟩
    refine ⟨some a, (List.range len).map F, cap, by simp, by simpa using hl, hm, sees_of_addr9 fun j u hu => ?_, fun s hs => ?_⟩
    · rw [List.getElem?_map, List.getElem?_map] at hu
      rcases Nat.lt_or_ge j len with hj | hj
      · rw [List.getElem?_range hj] at hu
        simp only [Option.map_some, Option.some.injEq] at hu
        rw [← hu]
        exact (hF j hj).1
      · rw [List.getElem?_eq_none (by simpa using hj)] at hu
        cases hu
    · obtain ⟨i, hi, rfl⟩ := List.mem_map.1 hs
      have hi' := List.mem_range.1 hi
      simp only [DataW.weights, Tryd.underlying39, List.mem_cons, List.mem_append]
      exact .inr (.inl (mem_weightsAll9 (List.mem_map.2 ⟨i, hi, rfl⟩) (hF i hi').2))
end
end Go.Proofs.YtapdnoellleimaaDoor

namespace Go.Proofs.YtapdnoellleimaaDoor
open Go.ChangeShapes Go.WideShapes Go.ChangeAt Go.RowKit Go.Deep

section
variable {H : Type} {enc : TypeId × Value → H} {w : World} {base : Nat} {spare : Nat → Bool} {held : Bool} {fuel : Nat} {cs : List Value} {x : DataW H × List MemPlace}
set_option maxRecDepth 100000 in
theorem weigh_slice {e t : TypeId} (ht : Tryd.prog.underlying t = some (.slice e)) {ls sp : List (DataW H)} {b : Nat} (h : ∀ u ∈ (DataW.slice ls sp).weights Tryd.prog t, u ≤ b) :
    (ls.length + sp.length) * Tryd.prog.bytesOf e ≤ b ∧ ∀ d ∈ ls, ∀ u ∈ d.weights Tryd.prog e, u ≤ b := by
  simp only [DataW.weights, ht, List.mem_cons, List.mem_append] at h
  exact ⟨h _ (.inl rfl), fun d hd u hu => h u (.inr (.inl (mem_weightsAll9 hd hu)))⟩
set_option maxRecDepth 100000 in
/-- A slice of any kind of elements. -/
theorem open_rowK {α : Type} (K : EK α) (a0 : α) (b : Nat) (P : α → Prop) (hkc : Tryd.prog.cellsOf K.e = K.k) (hbc : Tryd.prog.bytesOf K.e = K.bys)
    (hop : ∀ n cs (y : DataW H × List MemPlace), DataW.trod enc Tryd.prog w base spare held n K.e cs = some y → (∀ u ∈ y.1.weights Tryd.prog K.e, u ≤ b) → ∃ a, cs = K.enc a ∧ P a)
    (hw : ∀ u ∈ x.1.weights Tryd.prog K.sl, u ≤ b) (h : DataW.trod enc Tryd.prog w base spare held fuel K.sl cs = some x) :
    ∃ (A : Option Addr) (xs : List α) (cap : Nat), cs = [.slice A xs.length cap] ∧ xs.length ≤ cap ∧ cap ≤ maxLen ∧ K.See w w.heap.size A xs ∧ xs.length * K.bys ≤ b ∧ ∀ a ∈ xs, P a := by
  rcases open_slice K.und h with ⟨rfl, rfl⟩ | ⟨a, len, cap, m, n, D, Pl, rfl, hb, hl, hm, hmm, rfl, hi⟩
  · exact ⟨none, [], 0, rfl, Nat.le_refl _, by simp [maxLen], .inl rfl, by simp, fun a ha => by cases ha⟩
  · have hlm : len ≤ m := by rw [hmm]; split <;> omega
    obtain ⟨hwb, hwe⟩ := weigh_slice K.und hw
    rw [hbc] at hwb
    have hlb : len * K.bys ≤ b := by
      refine Nat.le_trans (Nat.mul_le_mul_right _ ?_) hwb
      simp
    have hex : ∀ i, i < len → ∃ y : α, P y ∧ ∀ j, j < K.k → w.cell? (a.add (i * K.k + j)) = (K.enc y)[j]? := by
      intro i hil
      obtain ⟨cs', hc, ht⟩ := hi i (by omega)
      rw [hkc] at hc
      obtain ⟨_, hcl, hat⟩ := World.cells?_some hc
      obtain ⟨y, e, hp⟩ := hop _ _ _ ht (hwe _ (List.mem_map.2 ⟨i, List.mem_range.2 hil, rfl⟩))
      subst e
      refine ⟨y, hp, fun j hj => ?_⟩
      have h1 := hat j hj
      rw [add_two8] at h1
      exact h1
    obtain ⟨F, hF⟩ : ∃ F : Nat → α, ∀ i, i < len → P (F i) ∧ ∀ j, j < K.k → w.cell? (a.add (i * K.k + j)) = (K.enc (F i))[j]? :=
      ⟨fun i => if hi : i < len then (hex i hi).choose else a0, fun i hi => by
        simp only [dif_pos hi]
        exact (hex i hi).choose_spec⟩
    have hlen : ((List.range len).map F).length = len := by simp
    refine ⟨some a, (List.range len).map F, cap, by rw [hlen], by rw [hlen]; exact hl, hm, ?_, by rw [hlen]; exact hlb, fun y hy => ?_⟩
    · refine sees_of_addr8 fun j u hu => ?_
      have hk := K.hk
      have hj : j < len * K.k := by
        have := (List.getElem?_eq_some_iff.1 hu).1
        rw [K.flat_len, hlen] at this
        exact this
      obtain ⟨y, h1, h2⟩ := cf_get K.enc K.k K.len ((List.range len).map F) j (by rw [hlen]; exact hj)
      have h2' : (K.flat ((List.range len).map F))[j]? = (K.enc y)[j % K.k]? := h2
      rw [h2'] at hu
      have hkl : j / K.k < len := (Nat.div_lt_iff_lt_mul hk).2 hj
      rw [List.getElem?_map, List.getElem?_range hkl] at h1
      obtain rfl : F (j / K.k) = y := by simpa using h1
      have hc := (hF (j / K.k) hkl).2 (j % K.k) (Nat.mod_lt _ hk)
      rw [Nat.div_add_mod' j K.k] at hc
      rw [hc, hu]
    · obtain ⟨i, hi, rfl⟩ := List.mem_map.1 hy
      exact (hF i (List.mem_range.1 hi)).1
set_option maxRecDepth 100000 in
theorem open_str10 {b : Nat} (hw : ∀ u ∈ x.1.weights Tryd.prog 9, u ≤ b) (h : DataW.trod enc Tryd.prog w base spare held fuel 9 cs = some x) : ∃ s : ByteArray, cs = [.string s] ∧ s.size ≤ b := by
  obtain ⟨s, e, hx, _⟩ := DataW.trod_string Tryd.underlying9 h
  subst hx
  refine ⟨s, e, hw _ ?_⟩
  simp [DataW.weights]
set_option maxRecDepth 100000 in
theorem bytes_string10 : Tryd.prog.bytesOf 9 = 16 := by kernel_rfl
set_option maxRecDepth 100000 in
theorem cut_at10 (l : List Value) (o : Nat) {v : Value} (h : (l.drop o).take 1 = [v]) : l[o]? = some v := by
  have h2 : ((l.drop o).take 1)[0]? = some v := by rw [h]; rfl
  rw [List.getElem?_take, if_pos (by decide), List.getElem?_drop] at h2
  simpa using h2
end
end Go.Proofs.YtapdnoellleimaaDoor

namespace Go.Proofs.YtapdnoellleimaaDoor
open Go.ChangeShapes Go.WideShapes Go.ChangeAt Go.RowKit Go.Deep

section
variable {H : Type} {enc : TypeId × Value → H} {w : World} {base : Nat} {spare : Nat → Bool} {held : Bool} {fuel : Nat} {cs : List Value} {x : DataW H × List MemPlace}
set_option maxRecDepth 100000 in
theorem cells_digest11 : Tryd.prog.cellsOf 89 = 32 := by kernel_rfl
set_option maxRecDepth 100000 in
theorem bytes_digest11 : Tryd.prog.bytesOf 89 = 32 := by kernel_rfl
/-- What is known of a piece that is handed in. -/
structure PcIn (w : World) (b : Nat) (p : PcM) : Prop where
  pos : R64 p.x.pos
  cnt : R64 p.x.cnt
  size : p.x.data.size ≤ b
  len : p.x.path.length * 32 ≤ b
  cap : p.x.path.length ≤ p.z
  path : Digs w w.heap.size p.A p.x.path
end
end Go.Proofs.YtapdnoellleimaaDoor
