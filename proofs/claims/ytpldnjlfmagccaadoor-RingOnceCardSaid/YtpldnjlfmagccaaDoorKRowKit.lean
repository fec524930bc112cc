/-
  What the carries of layer 5 share: the table that the rows list, as a fact on memory; a world for the witness; opening the handed arguments.
-/
import Derived.Test.YtpldnjlfmagccaaDoorCards
import Derived.Test.YtpldnjlfmagccaaDoorTie
import Derived.Test.YtpldnjlfmagccaaDoorKAlive
import Derived.Deep.Strs
import Derived.ProofKit
import Derived.OpenShut
import Derived.SizedLaws
import Derived.Carry
import Derived.Deep.Slices
import Derived.Deep.DeepHandedRow
import Derived.Lib.LaidTab
namespace Go.Proofs.YtpldnjlfmagccaaDoor
open Go.ChangeShapes Go.WideShapes Go.ChangeAt Go.RowKit Go.Deep

theorem row_own : ownKnob Tryd.prog.godebug = none := by kernel_rfl
theorem row_laidOut : laidOutB Tryd.prog = true := by kernel_rfl
theorem gRoots : Tryd.prog.globalNamed "wapentake/sha.roots" = some 1 := by kernel_rfl
theorem gRootsType : (Tryd.prog.globals[1]?).map (·.type) = some 143 := by kernel_rfl
theorem cells_words : Tryd.prog.cellsOf 143 = 64 := by kernel_rfl
theorem cells_word : Tryd.prog.cellsOf 112 = 1 := by kernel_rfl

def rootInts : List Int := roots.map wi

theorem rootInts_get : ∀ i : Fin 64, rootInts.getD i.val 0 = wi (roots.getD i.val 0) := by decide +kernel

set_option maxRecDepth 100000 in
/-- What the rows' list gives: the table's cells hold the roots. -/
theorem table {W : World} (h : laidMetH Tryd.prog [("wapentake/sha.roots", Rows.laid_wapentake_sha_roots)] W) : Roots W := by
  have ht : Lib.TabIs Tryd.prog W "wapentake/sha.roots" .u32 rootInts := Lib.tabIs_of_head (rest := []) gRoots gRootsType Tryd.underlying143 Tryd.underlying112 cells_word cells_words h
  have hc : ∀ i, i < 64 → W.cell? ⟨1, i, none⟩ = some (.int .u32 (wi (roots.getD i 0))) := fun i hi => by
    have h := ht.cell gRoots i (by exact hi)
    rw [rootInts_get ⟨i, hi⟩] at h
    exact h
  exact ⟨World.block_lt_of_cell? W ⟨1, 0, none⟩ (hc 0 (by decide)), hc⟩

/-- A world for the witness: the settled one, the table (block 0) holding what its initialiser lays. -/
noncomputable def laidWorld (os : Os) (args : Array Value) : World :=
  { World.holding Tryd.prog os ⟨#[], args, []⟩ with heap := (World.holding Tryd.prog os ⟨#[], args, []⟩).heap.modify 1 fun
      | .cells _ t frozen => .cells (roots.map wv).toArray t frozen
      | o => o }

theorem i64_wf {n : Int} (h : (Lit.int .i64 n).wf = true) : -9223372036854775808 ≤ n ∧ n ≤ 9223372036854775807 := by
  simp [Lit.wf, IntKind.min, IntKind.max, IntKind.signed, IntKind.bits] at h
  exact ⟨by omega, by omega⟩
theorem u8_byte {n : Int} (h : (Lit.int .u8 n).wf = true) : ∃ b : UInt8, n = (b.toNat : Int) := by
  simp [Lit.wf, IntKind.min, IntKind.max, IntKind.signed, IntKind.bits] at h
  refine ⟨UInt8.ofNat n.toNat, ?_⟩
  rw [UInt8.toNat_ofNat']
  omega
theorem cells_digest : Tryd.prog.cellsOf 30 = 32 := by kernel_rfl
theorem cells_slice : Tryd.prog.cellsOf 92 = 1 := by kernel_rfl

theorem sees_of_addr {w : World} {a : Addr} {xs : List Value} (h : ∀ j u, xs[j]? = some u → w.cell? (a.add j) = some u) : Sees w w.heap.size (some a) xs := by
  rcases xs with _ | ⟨x, r⟩
  · exact .inl rfl
  · have h1 := h 0 x rfl
    obtain ⟨g, o, sp⟩ := a
    have hsp : sp = none := by
      rcases sp with _ | sp
      · rfl
      · exfalso
        simp [World.cell?, Addr.add] at h1
        split at h1 <;> simp_all
    subst hsp
    refine .inr ⟨g, o, rfl, ?_, fun j u hu => ?_⟩
    · have := World.block_lt_of_cell? w _ h1
      simpa [plain_add] using this
    · rw [← plain_add]
      exact h j u hu

theorem open_bytes {H : Type} {enc : TypeId × Value → H} {w : World} {base : Nat} {spare : Nat → Bool} {held : Bool} {fuel : Nat} {cs : List Value} {x : DataW H × List MemPlace}
    (h : DataW.trod enc Tryd.prog w base spare held fuel 92 cs = some x) :
    ∃ (A : Option Addr) (l : List UInt8) (cap : Nat), cs = [.slice A l.length cap] ∧ l.length ≤ cap ∧ cap ≤ maxLen ∧ Sees w w.heap.size A (l.map bv) := by
  rcases open_ints Tryd.underlying92 Tryd.underlying5 Tryd.cells_byte h with ⟨rfl, rfl⟩ | ⟨a, len, cap, zs, rfl, _, hl, hm, hz, _, hc, hw⟩
  · exact ⟨none, [], 0, rfl, Nat.le_refl _, by simp [maxLen], .inl rfl⟩
  · have hzl : len ≤ zs.length := by rw [hz]; split <;> omega
    have e : ((zs.take len).map fun n => UInt8.ofNat n.toNat).length = len := by simp; omega
    refine ⟨some a, (zs.take len).map fun n => UInt8.ofNat n.toNat, cap, by rw [e], by rw [e]; exact hl, hm, sees_of_addr fun j u hu => ?_⟩
    rw [List.map_map, List.getElem?_map, List.getElem?_take] at hu
    split at hu
    · rename_i hj
      have hjz : j < zs.length := by omega
      rw [List.getElem?_eq_getElem hjz, Option.map_some, Option.some.injEq] at hu
      rw [hc j hjz, ← hu]
      have hwj := hw zs[j] (List.getElem_mem hjz)
      simp [Lit.wf, IntKind.min, IntKind.max, IntKind.signed, IntKind.bits] at hwj
      simp only [Function.comp_apply, bv, List.getD, List.getElem?_eq_getElem hjz, Option.getD_some, UInt8.toNat_ofNat']
      congr 2
      omega
    · cases hu

theorem open_digest {H : Type} {enc : TypeId × Value → H} {w : World} {base : Nat} {spare : Nat → Bool} {held : Bool} {fuel : Nat} {cs : List Value} {x : DataW H × List MemPlace} (h : DataW.trod enc Tryd.prog w base spare held fuel 30 cs = some x) : ∃ d : List UInt8, d.length = 32 ∧ cs = d.map bv := by
  obtain ⟨xs, m, _, _, hl, hxl, hf⟩ := DataW.trod_array Tryd.underlying30 h
  rw [cells_digest] at hl
  have hv : ∀ i, i < 32 → ∃ b : UInt8, cs[i]? = some (bv b) := by
    intro i hi
    have h1 := hf i hi
    rw [Tryd.cells_byte, Nat.mul_one] at h1
    have hx : xs[i]? = some (xs[i]'(by omega)) := List.getElem?_eq_getElem (by omega)
    rw [hx] at h1
    obtain ⟨n, e1, _, hw⟩ := DataW.trod_int Tryd.underlying5 h1
    have e2 : cs[i]? = some (.int .u8 n) := by
      have := congrArg (fun l : List Value => l[0]?) e1
      simpa using this
    have hb : 0 ≤ n ∧ n ≤ 255 := by
      simp [Lit.wf, IntKind.min, IntKind.max, IntKind.signed, IntKind.bits] at hw
      exact ⟨by omega, by omega⟩
    refine ⟨UInt8.ofNat n.toNat, ?_⟩
    rw [e2]
    unfold bv
    have e3 : ((UInt8.ofNat n.toNat).toNat : Int) = n := by
      rw [UInt8.toNat_ofNat']
      omega
    rw [e3]
  refine ⟨cs.map fun v => match v with | .int _ n => UInt8.ofNat n.toNat | _ => 0, by rw [List.length_map]; exact hl, ?_⟩
  apply List.ext_getElem?
  intro i
  rcases Nat.lt_or_ge i 32 with hi | hi
  · obtain ⟨b, hb⟩ := hv i hi
    rw [hb]
    simp only [List.getElem?_map, hb, Option.map_some]
    unfold bv
    simp
  · rw [List.getElem?_eq_none (by omega), List.getElem?_eq_none (by simp; omega)]


theorem add_two (a : Addr) (x y : Nat) : (a.add x).add y = a.add (x + y) := by
  obtain ⟨b, o, sp⟩ := a
  unfold Addr.add
  by_cases hx : x = 0
  · subst hx
    simp
  · by_cases hy : y = 0
    · subst hy
      simp
    · simp [hx, hy]
      omega
theorem open_digests {H : Type} {enc : TypeId × Value → H} {w : World} {base : Nat} {spare : Nat → Bool} {held : Bool} {fuel : Nat} {cs : List Value} {x : DataW H × List MemPlace}
    (h : DataW.trod enc Tryd.prog w base spare held fuel 41 cs = some x) :
    ∃ (A : Option Addr) (ds : List (List UInt8)) (cap : Nat), cs = [.slice A ds.length cap] ∧ ds.length ≤ cap ∧ cap ≤ maxLen ∧ Digs w w.heap.size A ds := by
  rcases open_slice Tryd.underlying41 h with ⟨rfl, rfl⟩ | ⟨a, len, cap, m, n, D, Pl, rfl, hb, hl, hm, hmm, rfl, hi⟩
  · exact ⟨none, [], 0, rfl, Nat.le_refl _, by simp [maxLen], Digs.empty _ _ _⟩
  · have hlm : len ≤ m := by rw [hmm]; split <;> omega
    have hex : ∀ i, i < len → ∃ d : List UInt8, d.length = 32 ∧ ∀ j, j < 32 → w.cell? (a.add (i * 32 + j)) = some (bv (d.getD j 0)) := by
      intro i hil
      obtain ⟨cs', hc, ht⟩ := hi i (by omega)
      rw [cells_digest] at hc
      obtain ⟨_, hcl, hat⟩ := World.cells?_some hc
      obtain ⟨d, hd, e⟩ := open_digest ht
      subst e
      refine ⟨d, hd, fun j hj => ?_⟩
      have h1 := hat j hj
      rw [add_two] at h1
      rw [h1, List.getElem?_map, List.getElem?_eq_getElem (by omega), List.getD_eq_getElem?_getD, List.getElem?_eq_getElem (by omega)]
      rfl
    obtain ⟨F, hF⟩ : ∃ F : Nat → List UInt8, ∀ i, i < len → (F i).length = 32 ∧ ∀ j, j < 32 → w.cell? (a.add (i * 32 + j)) = some (bv ((F i).getD j 0)) :=
      ⟨fun i => if hi : i < len then (hex i hi).choose else [], fun i hi => by
        simp only [dif_pos hi]
        exact (hex i hi).choose_spec⟩
    have hall : AllD ((List.range len).map F) := by
      intro d hd
      obtain ⟨i, hi', rfl⟩ := List.mem_map.1 hd
      exact (hF i (List.mem_range.1 hi')).1
    have hlen : ((List.range len).map F).length = len := by simp
    refine ⟨some a, (List.range len).map F, cap, by rw [hlen], by rw [hlen]; exact hl, hm, hall, sees_of_addr fun j u hu => ?_⟩
    have hj : j < len * 32 := by
      have := (List.getElem?_eq_some_iff.1 hu).1
      rw [List.length_map, hall.flat, hlen] at this
      omega
    have hk : j / 32 < len := by omega
    have hat := hall.flat_at (k := j / 32) (by rw [hlen]; exact hk) []
    have hg : ((List.range len).map F).getD (j / 32) [] = F (j / 32) := by
      rw [List.getD_eq_getElem?_getD, List.getElem?_map, List.getElem?_range hk]
      rfl
    rw [hg] at hat
    have hc := (hF (j / 32) hk).2 (j % 32) (Nat.mod_lt _ (by decide))
    rw [show j / 32 * 32 + j % 32 = j by omega] at hc
    rw [hc, ← hu, List.getElem?_map]
    have e : (((List.range len).map F).flatten)[j]? = (F (j / 32))[j % 32]? := by
      rw [← hat, List.getElem?_take, if_pos (Nat.mod_lt _ (by decide)), List.getElem?_drop]
      congr 1
      omega
    rw [e, List.getD_eq_getElem?_getD, List.getElem?_eq_getElem (by rw [(hF (j / 32) hk).1]; exact Nat.mod_lt _ (by decide))]
    rfl
theorem cells_once : Tryd.prog.cellsOf 43 = 2 := by kernel_rfl
theorem cells_digests : Tryd.prog.cellsOf 41 = 1 := by kernel_rfl
set_option maxRecDepth 100000 in
theorem open_once {H : Type} {enc : TypeId × Value → H} {w : World} {base : Nat} {spare : Nat → Bool} {held : Bool} {fuel : Nat} {cs : List Value} {x : DataW H × List MemPlace} (h : DataW.trod enc Tryd.prog w base spare held fuel 43 cs = some x) :
    ∃ (A B : Option Addr) (X Y : List (List UInt8)) (c c' : Nat), cs = [.slice A X.length c, .slice B Y.length c'] ∧ Digs w w.heap.size A X ∧ Digs w w.heap.size B Y := by
  obtain ⟨y0, y1, n, _, hl, h0, h1⟩ := trod_struct2 Tryd.underlying43 h
  rw [cells_once] at hl
  match cs, hl with
  | [a, b], _ =>
    have e0 : DataW.trod enc Tryd.prog w base spare held n 41 [a] = some y0 := by
      have h := h0
      rw [cells_digests] at h
      exact h
    have e1 : DataW.trod enc Tryd.prog w base spare held n 41 [b] = some y1 := by
      have h := h1
      rw [cells_digests] at h
      exact h
    obtain ⟨A, X, c, ha, _, _, hX⟩ := open_digests e0
    obtain ⟨B, Y, c', hb, _, _, hY⟩ := open_digests e1
    injection ha with ha
    injection hb with hb
    subst ha
    subst hb
    exact ⟨A, B, X, Y, c, c', rfl, hX, hY⟩
theorem cells_sig : Tryd.prog.cellsOf 45 = 4 := by kernel_rfl
theorem cells_key : Tryd.prog.cellsOf 34 = 33 := by kernel_rfl
theorem cells_int : Tryd.prog.cellsOf 3 = 1 := by kernel_rfl
set_option maxRecDepth 100000 in
theorem open_sig {H : Type} {enc : TypeId × Value → H} {w : World} {base : Nat} {spare : Nat → Bool} {held : Bool} {fuel : Nat} {cs : List Value} {x : DataW H × List MemPlace} (h : DataW.trod enc Tryd.prog w base spare held fuel 45 cs = some x) :
    ∃ (n : Int) (A B C : Option Addr) (X Y P : List (List UInt8)) (a b c : Nat), cs = [.int .i64 n, .slice A X.length a, .slice B Y.length b, .slice C P.length c] ∧ (-9223372036854775808 ≤ n ∧ n ≤ 9223372036854775807) ∧ Digs w w.heap.size A X ∧ Digs w w.heap.size B Y ∧ Digs w w.heap.size C P ∧ P.length ≤ c := by
  obtain ⟨y0, y1, y2, n, _, hl, h0, h1, h2⟩ := trod_struct3 Tryd.underlying45 h
  rw [cells_sig] at hl
  match cs, hl with
  | [v, a, b, c], _ =>
    have e0 : DataW.trod enc Tryd.prog w base spare held n 3 [v] = some y0 := by
      have h := h0
      rw [cells_int] at h
      exact h
    have e1 : DataW.trod enc Tryd.prog w base spare held n 43 [a, b] = some y1 := by
      have h := h1
      rw [cells_once] at h
      exact h
    have e2 : DataW.trod enc Tryd.prog w base spare held n 41 [c] = some y2 := by
      have h := h2
      rw [cells_digests] at h
      exact h
    obtain ⟨m, hm, _, hw⟩ := DataW.trod_int Tryd.underlying3 e0
    obtain ⟨A, B, X, Y, c1, c2, hab, hX, hY⟩ := open_once e1
    obtain ⟨C, P, c3, hc, hl3, _, hP⟩ := open_digests e2
    injection hm with hm
    injection hab with ha hb
    injection hb with hb
    injection hc with hc
    subst hm
    subst ha
    subst hb
    subst hc
    exact ⟨m, A, B, C, X, Y, P, c1, c2, c3, rfl, i64_wf hw, hX, hY, hP, hl3⟩
set_option maxRecDepth 100000 in
theorem open_key {H : Type} {enc : TypeId × Value → H} {w : World} {base : Nat} {spare : Nat → Bool} {held : Bool} {fuel : Nat} {cs : List Value} {x : DataW H × List MemPlace} (h : DataW.trod enc Tryd.prog w base spare held fuel 34 cs = some x) :
    ∃ (r : List UInt8) (k : Int), r.length = 32 ∧ (-9223372036854775808 ≤ k ∧ k ≤ 9223372036854775807) ∧ cs = keyL r k := by
  obtain ⟨y0, y1, n, _, hl, h0, h1⟩ := trod_struct2 Tryd.underlying34 h
  rw [cells_key] at hl
  have e0 : DataW.trod enc Tryd.prog w base spare held n 30 (cs.take 32) = some y0 := by
    have h := h0
    rw [cells_digest] at h
    exact h
  have e1 : DataW.trod enc Tryd.prog w base spare held n 3 ((cs.drop 32).take 1) = some y1 := by
    have h := h1
    rw [cells_int] at h
    exact h
  obtain ⟨r, hr, hc⟩ := open_digest e0
  obtain ⟨k, hk, _, hw⟩ := DataW.trod_int Tryd.underlying3 e1
  refine ⟨r, k, hr, i64_wf hw, ?_⟩
  have e : cs = cs.take 32 ++ cs.drop 32 := (List.take_append_drop 32 cs).symm
  have e2 : (cs.drop 32).take 1 = cs.drop 32 := List.take_of_length_le (by rw [List.length_drop, hl]; omega)
  rw [e, hc, ← e2, hk]
  rfl
end Go.Proofs.YtpldnjlfmagccaaDoor
