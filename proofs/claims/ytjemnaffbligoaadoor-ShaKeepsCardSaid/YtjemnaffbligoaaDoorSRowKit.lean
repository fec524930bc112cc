/-
  What the carries of layer 2 share: the table that the rows list, as a fact on memory; a world for the witness; opening the handed arguments.
-/
import Derived.Test.YtjemnaffbligoaaDoorCards
import Derived.Test.YtjemnaffbligoaaDoorTie
import Derived.Test.YtjemnaffbligoaaDoorSAlive
import Derived.Test.YtjemnaffbligoaaDoorSKit2
import Derived.ProofKit
import Derived.OpenShut
import Derived.SizedLaws
import Derived.Carry
import Derived.Deep.Slices
import Derived.Deep.DeepHandedRow
import Derived.Lib.LaidTab
namespace Go.Proofs.YtjemnaffbligoaaDoor
open Go.ChangeShapes Go.WideShapes Go.ChangeAt Go.RowKit Go.Deep

theorem row_own : ownKnob Tryd.prog.godebug = none := by kernel_rfl
theorem row_laidOut : laidOutB Tryd.prog = true := by kernel_rfl
theorem gRoots : Tryd.prog.globalNamed "wapentake/sha.roots" = some 0 := by kernel_rfl
theorem gRootsType : (Tryd.prog.globals[0]?).map (·.type) = some 45 := by kernel_rfl
theorem cells_words : Tryd.prog.cellsOf 45 = 64 := by kernel_rfl
theorem cells_word : Tryd.prog.cellsOf 35 = 1 := by kernel_rfl

def rootInts : List Int := roots.map wi

theorem rootInts_get : ∀ i : Fin 64, rootInts.getD i.val 0 = wi (roots.getD i.val 0) := by decide +kernel

set_option maxRecDepth 100000 in
/-- What the rows' list gives: the table's cells hold the roots. -/
theorem table {W : World} (h : laidMetH Tryd.prog [("wapentake/sha.roots", Rows.laid_wapentake_sha_roots)] W) : Roots W := by
  have ht : Lib.TabIs Tryd.prog W "wapentake/sha.roots" .u32 rootInts := Lib.tabIs_of_head (rest := []) gRoots gRootsType Tryd.underlying45 Tryd.underlying35 cells_word cells_words h
  have hc : ∀ i, i < 64 → W.cell? ⟨0, i, none⟩ = some (.int .u32 (wi (roots.getD i 0))) := fun i hi => by
    have h := ht.cell gRoots i (by exact hi)
    rw [rootInts_get ⟨i, hi⟩] at h
    exact h
  exact ⟨World.block_lt_of_cell? W ⟨0, 0, none⟩ (hc 0 (by decide)), hc⟩

/-- A world for the witness: the settled one, the table (block 0) holding what its initialiser lays. -/
noncomputable def laidWorld (os : Os) (args : Array Value) : World :=
  { World.holding Tryd.prog os ⟨#[], args, []⟩ with heap := (World.holding Tryd.prog os ⟨#[], args, []⟩).heap.modify 0 fun
      | .cells _ t frozen => .cells (roots.map wv).toArray t frozen
      | o => o }

theorem i64_wf {n : Int} (h : (Lit.int .i64 n).wf = true) : -9223372036854775808 ≤ n ∧ n ≤ 9223372036854775807 := by
  simp [Lit.wf, IntKind.min, IntKind.max, IntKind.signed, IntKind.bits] at h
  exact ⟨by omega, by omega⟩
theorem u8_byte {n : Int} (h : (Lit.int .u8 n).wf = true) : ∃ b : UInt8, n = (b.toNat : Int) := by
  simp [Lit.wf, IntKind.min, IntKind.max, IntKind.signed, IntKind.bits] at h
  refine ⟨UInt8.ofNat n.toNat, ?_⟩
  rw [UInt8.toNat_ofNat']
  omega
theorem cells_digest : Tryd.prog.cellsOf 26 = 32 := by kernel_rfl
theorem cells_slice : Tryd.prog.cellsOf 24 = 1 := by kernel_rfl

theorem sees_of_addr {w : World} {a : Addr} {xs : List Value} (h : ∀ j u, xs[j]? = some u → w.cell? (a.add j) = some u) : Sees w w.heap.size (some a) xs := by
  rcases xs with _ | ⟨x, r⟩
  · exact .inl rfl
  · have h1 := h 0 x rfl
    obtain ⟨g, o, sp⟩ := a
    have hsp : sp = none := by
      rcases sp with _ | sp
      · rfl
      · exfalso
        simp [World.cell?, Addr.add] at h1
        split at h1 <;> simp_all
    subst hsp
    refine .inr ⟨g, o, rfl, ?_, fun j u hu => ?_⟩
    · have := World.block_lt_of_cell? w _ h1
      simpa [plain_add] using this
    · rw [← plain_add]
      exact h j u hu

theorem open_bytes {H : Type} {enc : TypeId × Value → H} {w : World} {base : Nat} {spare : Nat → Bool} {held : Bool} {fuel : Nat} {cs : List Value} {x : DataW H × List MemPlace}
    (h : DataW.trod enc Tryd.prog w base spare held fuel 24 cs = some x) :
    ∃ (A : Option Addr) (l : List UInt8) (cap : Nat), cs = [.slice A l.length cap] ∧ l.length ≤ cap ∧ cap ≤ maxLen ∧ Sees w w.heap.size A (l.map bv) := by
  rcases open_ints Tryd.underlying24 Tryd.underlying5 Tryd.cells_byte h with ⟨rfl, rfl⟩ | ⟨a, len, cap, zs, rfl, _, hl, hm, hz, _, hc, hw⟩
  · exact ⟨none, [], 0, rfl, Nat.le_refl _, by simp [maxLen], .inl rfl⟩
  · have hzl : len ≤ zs.length := by rw [hz]; split <;> omega
    have e : ((zs.take len).map fun n => UInt8.ofNat n.toNat).length = len := by simp; omega
    refine ⟨some a, (zs.take len).map fun n => UInt8.ofNat n.toNat, cap, by rw [e], by rw [e]; exact hl, hm, sees_of_addr fun j u hu => ?_⟩
    rw [List.map_map, List.getElem?_map, List.getElem?_take] at hu
    split at hu
    · rename_i hj
      have hjz : j < zs.length := by omega
      rw [List.getElem?_eq_getElem hjz, Option.map_some, Option.some.injEq] at hu
      rw [hc j hjz, ← hu]
      have hwj := hw zs[j] (List.getElem_mem hjz)
      simp [Lit.wf, IntKind.min, IntKind.max, IntKind.signed, IntKind.bits] at hwj
      simp only [Function.comp_apply, bv, List.getD, List.getElem?_eq_getElem hjz, Option.getD_some, UInt8.toNat_ofNat']
      congr 2
      omega
    · cases hu

theorem open_digest {H : Type} {enc : TypeId × Value → H} {w : World} {base : Nat} {spare : Nat → Bool} {held : Bool} {fuel : Nat} {cs : List Value} {x : DataW H × List MemPlace} (h : DataW.trod enc Tryd.prog w base spare held fuel 26 cs = some x) : ∃ d : List UInt8, d.length = 32 ∧ cs = d.map bv := by
  obtain ⟨xs, m, _, _, hl, hxl, hf⟩ := DataW.trod_array Tryd.underlying26 h
  rw [cells_digest] at hl
  have hv : ∀ i, i < 32 → ∃ b : UInt8, cs[i]? = some (bv b) := by
    intro i hi
    have h1 := hf i hi
    rw [Tryd.cells_byte, Nat.mul_one] at h1
    have hx : xs[i]? = some (xs[i]'(by omega)) := List.getElem?_eq_getElem (by omega)
    rw [hx] at h1
    obtain ⟨n, e1, _, hw⟩ := DataW.trod_int Tryd.underlying5 h1
    have e2 : cs[i]? = some (.int .u8 n) := by
      have := congrArg (fun l : List Value => l[0]?) e1
      simpa using this
    have hb : 0 ≤ n ∧ n ≤ 255 := by
      simp [Lit.wf, IntKind.min, IntKind.max, IntKind.signed, IntKind.bits] at hw
      exact ⟨by omega, by omega⟩
    refine ⟨UInt8.ofNat n.toNat, ?_⟩
    rw [e2]
    unfold bv
    have e3 : ((UInt8.ofNat n.toNat).toNat : Int) = n := by
      rw [UInt8.toNat_ofNat']
      omega
    rw [e3]
  refine ⟨cs.map fun v => match v with | .int _ n => UInt8.ofNat n.toNat | _ => 0, by rw [List.length_map]; exact hl, ?_⟩
  apply List.ext_getElem?
  intro i
  rcases Nat.lt_or_ge i 32 with hi | hi
  · obtain ⟨b, hb⟩ := hv i hi
    rw [hb]
    simp only [List.getElem?_map, hb, Option.map_some]
    unfold bv
    simp
  · rw [List.getElem?_eq_none (by omega), List.getElem?_eq_none (by simp; omega)]


theorem bytes_one : Tryd.prog.bytesOf 5 = 1 := by kernel_rfl
/-- The same, with the slice's weight. -/
theorem open_bytes_w {H : Type} {enc : TypeId × Value → H} {w : World} {base : Nat} {spare : Nat → Bool} {held : Bool} {fuel : Nat} {cs : List Value} {x : DataW H × List MemPlace}
    (h : DataW.trod enc Tryd.prog w base spare held fuel 24 cs = some x) :
    ∃ (A : Option Addr) (l : List UInt8) (cap : Nat), cs = [.slice A l.length cap] ∧ l.length ≤ cap ∧ cap ≤ maxLen ∧ Sees w w.heap.size A (l.map bv) ∧ (l.length = 0 ∨ ∃ n ∈ x.1.weights Tryd.prog 24, l.length ≤ n) := by
  obtain ⟨A, l, cap, hcs, h1, h2, h3⟩ := open_bytes h
  refine ⟨A, l, cap, hcs, h1, h2, h3, ?_⟩
  rcases open_ints Tryd.underlying24 Tryd.underlying5 Tryd.cells_byte h with ⟨rfl, rfl⟩ | ⟨a, len, cap', zs, rfl, _, hl, hm, hz, hx, _, _⟩
  · simp only [List.cons.injEq, and_true, Value.slice.injEq] at hcs
    exact .inl hcs.2.1.symm
  · simp only [List.cons.injEq, and_true, Value.slice.injEq] at hcs
    have hzl : len ≤ zs.length := by rw [hz]; split <;> omega
    refine .inr ⟨zs.length, ?_, by omega⟩
    subst hx
    simp only [DataW.weights, Tryd.underlying24, List.mem_cons]
    left
    rw [bytes_one]
    simp [lits]
    omega
theorem mem_weightsAll {H : Type} {P : Program} {e : TypeId} {l : List (DataW H)} {d : DataW H} (h : d ∈ l) {n : Nat} (hn : n ∈ d.weights P e) : n ∈ DataW.weightsAll P e l := by
  induction l with
  | nil => cases h
  | cons x t ih =>
    simp only [DataW.weightsAll, List.mem_append]
    cases List.mem_cons.1 h with
    | inl e => subst e; exact .inl hn
    | inr e => exact .inr (ih e)
theorem open_pieces {H : Type} {enc : TypeId × Value → H} {w : World} {base : Nat} {spare : Nat → Bool} {held : Bool} {fuel : Nat} {cs : List Value} {x : DataW H × List MemPlace}
    (h : DataW.trod enc Tryd.prog w base spare held fuel 22 cs = some x) :
    ∃ (A : Option Addr) (ps : List (List UInt8)) (cap : Nat), cs = [.slice A ps.length cap] ∧ ps.length ≤ cap ∧ cap ≤ maxLen ∧ Pieces w w.heap.size A ps ∧ ∀ i (_ : i < ps.length), (ps.getD i []).length = 0 ∨ ∃ n ∈ x.1.weights Tryd.prog 22, (ps.getD i []).length ≤ n := by
  rcases open_slice Tryd.underlying22 h with ⟨rfl, rfl⟩ | ⟨a, len, cap, m, n, D, Pl, rfl, hb, hl, hm, hmm, rfl, hi⟩
  · exact ⟨none, [], 0, rfl, Nat.le_refl _, by simp [maxLen], ⟨[], rfl, .inl rfl, fun i hi => by simp at hi⟩, fun i hi => by simp at hi⟩
  · have hlm : len ≤ m := by rw [hmm]; split <;> omega
    have hex : ∀ i, i < len → ∃ (A' : Option Addr) (l : List UInt8) (c : Nat), w.cell? (a.add i) = some (.slice A' l.length c) ∧ l.length ≤ c ∧ c ≤ maxLen ∧ Sees w w.heap.size A' (l.map bv) ∧ (l.length = 0 ∨ ∃ n ∈ (D i).weights Tryd.prog 24, l.length ≤ n) := by
      intro i hil
      obtain ⟨cs', hc, ht⟩ := hi i (by omega)
      rw [cells_slice, Nat.mul_one] at hc
      obtain ⟨_, hcl, hat⟩ := World.cells?_some hc
      obtain ⟨A', l, c, e2, h1, h2, h3⟩ := open_bytes_w ht
      have h0 := hat 0 (by omega)
      subst e2
      refine ⟨A', l, c, ?_, h1, h2, h3⟩
      have e : (a.add i).add 0 = a.add i := by unfold Addr.add; split <;> simp_all
      rw [e] at h0
      exact h0
    obtain ⟨F, hF⟩ : ∃ F : Nat → Option Addr × List UInt8 × Nat, ∀ i, i < len → w.cell? (a.add i) = some (.slice (F i).1 (F i).2.1.length (F i).2.2) ∧ (F i).2.1.length ≤ (F i).2.2 ∧ (F i).2.2 ≤ maxLen ∧ Sees w w.heap.size (F i).1 ((F i).2.1.map bv) ∧ ((F i).2.1.length = 0 ∨ ∃ n ∈ (D i).weights Tryd.prog 24, (F i).2.1.length ≤ n) := by
      refine ⟨fun i => if hi : i < len then ((hex i hi).choose, (hex i hi).choose_spec.choose, (hex i hi).choose_spec.choose_spec.choose) else (none, [], 0), fun i hi => ?_⟩
      simp only [dif_pos hi]
      exact (hex i hi).choose_spec.choose_spec.choose_spec
    have hget : ∀ i, i < len → ((List.range len).map fun i => (F i).2.1).getD i [] = (F i).2.1 := fun i hi' => by
      rw [List.getD_eq_getElem?_getD, List.getElem?_map, List.getElem?_range hi']
      rfl
    refine ⟨some a, (List.range len).map fun i => (F i).2.1, cap, by simp, by simpa using hl, hm, ⟨(List.range len).map fun i => .slice (F i).1 (F i).2.1.length (F i).2.2, by simp, sees_of_addr fun j u hu => ?_, fun i hi => ?_⟩, fun i hi => ?_⟩
    · rw [List.getElem?_map] at hu
      rcases Nat.lt_or_ge j len with hj | hj
      · rw [List.getElem?_range hj] at hu
        simp only [Option.map_some, Option.some.injEq] at hu
        rw [← hu]
        exact (hF j hj).1
      · rw [List.getElem?_eq_none (by simpa using hj)] at hu
        cases hu
    · have hi' : i < len := by simpa using hi
      rw [hget i hi']
      exact ⟨(F i).1, (F i).2.2, by rw [List.getElem?_map, List.getElem?_range hi']; rfl, (hF i hi').2.1, (hF i hi').2.2.1, (hF i hi').2.2.2.1⟩
    · have hi' : i < len := by simpa using hi
      rw [hget i hi']
      rcases (hF i hi').2.2.2.2 with h0 | ⟨n', hn, hle⟩
      · exact .inl h0
      · refine .inr ⟨n', ?_, hle⟩
        simp only [DataW.weights, Tryd.underlying22, List.mem_cons, List.mem_append]
        exact .inr (.inl (mem_weightsAll (List.mem_map.2 ⟨i, List.mem_range.2 hi', rfl⟩) hn))
end Go.Proofs.YtjemnaffbligoaaDoor
