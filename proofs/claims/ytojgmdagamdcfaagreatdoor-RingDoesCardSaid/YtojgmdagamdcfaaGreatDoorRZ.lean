/-
  What the carries of layer 5 share: the table that the rows list, as a fact on memory; a world for the witness; opening the handed arguments.
  A handed script of calls, opened.
-/
import Derived.Test.YtojgmdagamdcfaaGreatDoorCards
import Derived.Test.YtojgmdagamdcfaaGreatDoorTie
import Derived.Test.YtojgmdagamdcfaaGreatDoorKAlive
import Derived.Deep.Strs
import Derived.ProofKit
import Derived.OpenShut
import Derived.SizedLaws
import Derived.Carry
import Derived.Deep.Slices
import Derived.Deep.DeepHandedRow
import Derived.Lib.LaidTab
import Derived.Test.YtojgmdagamdcfaaGreatDoorRiCall
namespace Go.Proofs.YtojgmdagamdcfaaGreatDoor
open Go.ChangeShapes Go.WideShapes Go.ChangeAt Go.RowKit Go.Deep

theorem row_own : ownKnob Tryz.prog.godebug = none := by kernel_rfl
theorem row_laidOut : laidOutB Tryz.prog = true := by kernel_rfl
theorem gRoots : Tryz.prog.globalNamed "wapentake/sha.roots" = some 1 := by kernel_rfl
theorem gRootsType : (Tryz.prog.globals[1]?).map (·.type) = some 161 := by kernel_rfl
theorem cells_words : Tryz.prog.cellsOf 161 = 64 := by kernel_rfl
theorem cells_word : Tryz.prog.cellsOf 134 = 1 := by kernel_rfl

def rootInts : List Int := roots.map wi

theorem rootInts_get : ∀ i : Fin 64, rootInts.getD i.val 0 = wi (roots.getD i.val 0) := by decide +kernel

set_option maxRecDepth 100000 in
/-- What the rows' list gives: the table's cells hold the roots. -/
theorem table {W : World} (h : laidMetH Tryz.prog [("wapentake/sha.roots", Rows.laid_wapentake_sha_roots)] W) : Roots W := by
  have ht : Lib.TabIs Tryz.prog W "wapentake/sha.roots" .u32 rootInts := Lib.tabIs_of_head (rest := []) gRoots gRootsType Tryz.underlying161 Tryz.underlying134 cells_word cells_words h
  have hc : ∀ i, i < 64 → W.cell? ⟨1, i, none⟩ = some (.int .u32 (wi (roots.getD i 0))) := fun i hi => by
    have h := ht.cell gRoots i (by exact hi)
    rw [rootInts_get ⟨i, hi⟩] at h
    exact h
  exact ⟨World.block_lt_of_cell? W ⟨1, 0, none⟩ (hc 0 (by decide)), hc⟩

/-- A world for the witness: the settled one, the table (block 0) holding what its initialiser lays. -/
noncomputable def laidWorld (os : Os) (args : Array Value) : World :=
  { World.holding Tryz.prog os ⟨#[], args, []⟩ with heap := (World.holding Tryz.prog os ⟨#[], args, []⟩).heap.modify 1 fun
      | .cells _ t frozen => .cells (roots.map wv).toArray t frozen
      | o => o }

theorem i64_wf {n : Int} (h : (Lit.int .i64 n).wf = true) : -9223372036854775808 ≤ n ∧ n ≤ 9223372036854775807 := by
  simp [Lit.wf, IntKind.min, IntKind.max, IntKind.signed, IntKind.bits] at h
  exact ⟨by omega, by omega⟩
theorem u8_byte {n : Int} (h : (Lit.int .u8 n).wf = true) : ∃ b : UInt8, n = (b.toNat : Int) := by
  simp [Lit.wf, IntKind.min, IntKind.max, IntKind.signed, IntKind.bits] at h
  refine ⟨UInt8.ofNat n.toNat, ?_⟩
  rw [UInt8.toNat_ofNat']
  omega
theorem cells_digest : Tryz.prog.cellsOf 33 = 32 := by kernel_rfl
theorem cells_slice : Tryz.prog.cellsOf 111 = 1 := by kernel_rfl

theorem sees_of_addr {w : World} {a : Addr} {xs : List Value} (h : ∀ j u, xs[j]? = some u → w.cell? (a.add j) = some u) : Sees w w.heap.size (some a) xs := by
  rcases xs with _ | ⟨x, r⟩
  · exact .inl rfl
  · have h1 := h 0 x rfl
    obtain ⟨g, o, sp⟩ := a
    have hsp : sp = none := by
      rcases sp with _ | sp
      · rfl
      · exfalso
        simp [World.cell?, Addr.add] at h1
        split at h1 <;> simp_all
    subst hsp
    refine .inr ⟨g, o, rfl, ?_, fun j u hu => ?_⟩
    · have := World.block_lt_of_cell? w _ h1
      simpa [plain_add] using this
    · rw [← plain_add]
      exact h j u hu

theorem open_bytes {H : Type} {enc : TypeId × Value → H} {w : World} {base : Nat} {spare : Nat → Bool} {held : Bool} {fuel : Nat} {cs : List Value} {x : DataW H × List MemPlace}
    (h : DataW.trod enc Tryz.prog w base spare held fuel 111 cs = some x) :
    ∃ (A : Option Addr) (l : List UInt8) (cap : Nat), cs = [.slice A l.length cap] ∧ l.length ≤ cap ∧ cap ≤ maxLen ∧ Sees w w.heap.size A (l.map bv) := by
  rcases open_ints Tryz.underlying111 Tryz.underlying5 Tryz.cells_byte h with ⟨rfl, rfl⟩ | ⟨a, len, cap, zs, rfl, _, hl, hm, hz, _, hc, hw⟩
  · exact ⟨none, [], 0, rfl, Nat.le_refl _, by simp [maxLen], .inl rfl⟩
  · have hzl : len ≤ zs.length := by rw [hz]; split <;> omega
    have e : ((zs.take len).map fun n => UInt8.ofNat n.toNat).length = len := by simp; omega
    refine ⟨some a, (zs.take len).map fun n => UInt8.ofNat n.toNat, cap, by rw [e], by rw [e]; exact hl, hm, sees_of_addr fun j u hu => ?_⟩
    rw [List.map_map, List.getElem?_map, List.getElem?_take] at hu
    split at hu
    · rename_i hj
      have hjz : j < zs.length := by omega
      rw [List.getElem?_eq_getElem hjz, Option.map_some, Option.some.injEq] at hu
      rw [hc j hjz, ← hu]
      have hwj := hw zs[j] (List.getElem_mem hjz)
      simp [Lit.wf, IntKind.min, IntKind.max, IntKind.signed, IntKind.bits] at hwj
      simp only [Function.comp_apply, bv, List.getD, List.getElem?_eq_getElem hjz, Option.getD_some, UInt8.toNat_ofNat']
      congr 2
      omega
    · cases hu

theorem open_digest {H : Type} {enc : TypeId × Value → H} {w : World} {base : Nat} {spare : Nat → Bool} {held : Bool} {fuel : Nat} {cs : List Value} {x : DataW H × List MemPlace} (h : DataW.trod enc Tryz.prog w base spare held fuel 33 cs = some x) : ∃ d : List UInt8, d.length = 32 ∧ cs = d.map bv := by
  obtain ⟨xs, m, _, _, hl, hxl, hf⟩ := DataW.trod_array Tryz.underlying33 h
  rw [cells_digest] at hl
  have hv : ∀ i, i < 32 → ∃ b : UInt8, cs[i]? = some (bv b) := by
    intro i hi
    have h1 := hf i hi
    rw [Tryz.cells_byte, Nat.mul_one] at h1
    have hx : xs[i]? = some (xs[i]'(by omega)) := List.getElem?_eq_getElem (by omega)
    rw [hx] at h1
    obtain ⟨n, e1, _, hw⟩ := DataW.trod_int Tryz.underlying5 h1
    have e2 : cs[i]? = some (.int .u8 n) := by
      have := congrArg (fun l : List Value => l[0]?) e1
      simpa using this
    have hb : 0 ≤ n ∧ n ≤ 255 := by
      simp [Lit.wf, IntKind.min, IntKind.max, IntKind.signed, IntKind.bits] at hw
      exact ⟨by omega, by omega⟩
    refine ⟨UInt8.ofNat n.toNat, ?_⟩
    rw [e2]
    unfold bv
    have e3 : ((UInt8.ofNat n.toNat).toNat : Int) = n := by
      rw [UInt8.toNat_ofNat']
      omega
    rw [e3]
  refine ⟨cs.map fun v => match v with | .int _ n => UInt8.ofNat n.toNat | _ => 0, by rw [List.length_map]; exact hl, ?_⟩
  apply List.ext_getElem?
  intro i
  rcases Nat.lt_or_ge i 32 with hi | hi
  · obtain ⟨b, hb⟩ := hv i hi
    rw [hb]
    simp only [List.getElem?_map, hb, Option.map_some]
    unfold bv
    simp
  · rw [List.getElem?_eq_none (by omega), List.getElem?_eq_none (by simp; omega)]


theorem add_two (a : Addr) (x y : Nat) : (a.add x).add y = a.add (x + y) := by
  obtain ⟨b, o, sp⟩ := a
  unfold Addr.add
  by_cases hx : x = 0
  · subst hx
    simp
  · by_cases hy : y = 0
    · subst hy
      simp
    · simp [hx, hy]
      omega
theorem open_digests {H : Type} {enc : TypeId × Value → H} {w : World} {base : Nat} {spare : Nat → Bool} {held : Bool} {fuel : Nat} {cs : List Value} {x : DataW H × List MemPlace}
    (h : DataW.trod enc Tryz.prog w base spare held fuel 44 cs = some x) :
    ∃ (A : Option Addr) (ds : List (List UInt8)) (cap : Nat), cs = [.slice A ds.length cap] ∧ ds.length ≤ cap ∧ cap ≤ maxLen ∧ Digs w w.heap.size A ds := by
  rcases open_slice Tryz.underlying44 h with ⟨rfl, rfl⟩ | ⟨a, len, cap, m, n, D, Pl, rfl, hb, hl, hm, hmm, rfl, hi⟩
  · exact ⟨none, [], 0, rfl, Nat.le_refl _, by simp [maxLen], Digs.empty _ _ _⟩
  · have hlm : len ≤ m := by rw [hmm]; split <;> omega
    have hex : ∀ i, i < len → ∃ d : List UInt8, d.length = 32 ∧ ∀ j, j < 32 → w.cell? (a.add (i * 32 + j)) = some (bv (d.getD j 0)) := by
      intro i hil
      obtain ⟨cs', hc, ht⟩ := hi i (by omega)
      rw [cells_digest] at hc
      obtain ⟨_, hcl, hat⟩ := World.cells?_some hc
      obtain ⟨d, hd, e⟩ := open_digest ht
      subst e
      refine ⟨d, hd, fun j hj => ?_⟩
      have h1 := hat j hj
      rw [add_two] at h1
      rw [h1, List.getElem?_map, List.getElem?_eq_getElem (by omega), List.getD_eq_getElem?_getD, List.getElem?_eq_getElem (by omega)]
      rfl
    obtain ⟨F, hF⟩ : ∃ F : Nat → List UInt8, ∀ i, i < len → (F i).length = 32 ∧ ∀ j, j < 32 → w.cell? (a.add (i * 32 + j)) = some (bv ((F i).getD j 0)) :=
      ⟨fun i => if hi : i < len then (hex i hi).choose else [], fun i hi => by
        simp only [dif_pos hi]
        exact (hex i hi).choose_spec⟩
    have hall : AllD ((List.range len).map F) := by
      intro d hd
      obtain ⟨i, hi', rfl⟩ := List.mem_map.1 hd
      exact (hF i (List.mem_range.1 hi')).1
    have hlen : ((List.range len).map F).length = len := by simp
    refine ⟨some a, (List.range len).map F, cap, by rw [hlen], by rw [hlen]; exact hl, hm, hall, sees_of_addr fun j u hu => ?_⟩
    have hj : j < len * 32 := by
      have := (List.getElem?_eq_some_iff.1 hu).1
      rw [List.length_map, hall.flat, hlen] at this
      omega
    have hk : j / 32 < len := by omega
    have hat := hall.flat_at (k := j / 32) (by rw [hlen]; exact hk) []
    have hg : ((List.range len).map F).getD (j / 32) [] = F (j / 32) := by
      rw [List.getD_eq_getElem?_getD, List.getElem?_map, List.getElem?_range hk]
      rfl
    rw [hg] at hat
    have hc := (hF (j / 32) hk).2 (j % 32) (Nat.mod_lt _ (by decide))
    rw [show j / 32 * 32 + j % 32 = j by omega] at hc
    rw [hc, ← hu, List.getElem?_map]
    have e : (((List.range len).map F).flatten)[j]? = (F (j / 32))[j % 32]? := by
      rw [← hat, List.getElem?_take, if_pos (Nat.mod_lt _ (by decide)), List.getElem?_drop]
      congr 1
      omega
    rw [e, List.getD_eq_getElem?_getD, List.getElem?_eq_getElem (by rw [(hF (j / 32) hk).1]; exact Nat.mod_lt _ (by decide))]
    rfl
theorem cells_once : Tryz.prog.cellsOf 46 = 2 := by kernel_rfl
theorem cells_digests : Tryz.prog.cellsOf 44 = 1 := by kernel_rfl
set_option maxRecDepth 100000 in
theorem open_once {H : Type} {enc : TypeId × Value → H} {w : World} {base : Nat} {spare : Nat → Bool} {held : Bool} {fuel : Nat} {cs : List Value} {x : DataW H × List MemPlace} (h : DataW.trod enc Tryz.prog w base spare held fuel 46 cs = some x) :
    ∃ (A B : Option Addr) (X Y : List (List UInt8)) (c c' : Nat), cs = [.slice A X.length c, .slice B Y.length c'] ∧ Digs w w.heap.size A X ∧ Digs w w.heap.size B Y := by
  obtain ⟨y0, y1, n, _, hl, h0, h1⟩ := trod_struct2 Tryz.underlying46 h
  rw [cells_once] at hl
  match cs, hl with
  | [a, b], _ =>
    have e0 : DataW.trod enc Tryz.prog w base spare held n 44 [a] = some y0 := by
      have h := h0
      rw [cells_digests] at h
      exact h
    have e1 : DataW.trod enc Tryz.prog w base spare held n 44 [b] = some y1 := by
      have h := h1
      rw [cells_digests] at h
      exact h
    obtain ⟨A, X, c, ha, _, _, hX⟩ := open_digests e0
    obtain ⟨B, Y, c', hb, _, _, hY⟩ := open_digests e1
    injection ha with ha
    injection hb with hb
    subst ha
    subst hb
    exact ⟨A, B, X, Y, c, c', rfl, hX, hY⟩
theorem cells_sig : Tryz.prog.cellsOf 48 = 4 := by kernel_rfl
theorem cells_key : Tryz.prog.cellsOf 37 = 33 := by kernel_rfl
theorem cells_int : Tryz.prog.cellsOf 3 = 1 := by kernel_rfl
set_option maxRecDepth 100000 in
theorem open_sig {H : Type} {enc : TypeId × Value → H} {w : World} {base : Nat} {spare : Nat → Bool} {held : Bool} {fuel : Nat} {cs : List Value} {x : DataW H × List MemPlace} (h : DataW.trod enc Tryz.prog w base spare held fuel 48 cs = some x) :
    ∃ (n : Int) (A B C : Option Addr) (X Y P : List (List UInt8)) (a b c : Nat), cs = [.int .i64 n, .slice A X.length a, .slice B Y.length b, .slice C P.length c] ∧ (-9223372036854775808 ≤ n ∧ n ≤ 9223372036854775807) ∧ Digs w w.heap.size A X ∧ Digs w w.heap.size B Y ∧ Digs w w.heap.size C P ∧ P.length ≤ c := by
  obtain ⟨y0, y1, y2, n, _, hl, h0, h1, h2⟩ := trod_struct3 Tryz.underlying48 h
  rw [cells_sig] at hl
  match cs, hl with
  | [v, a, b, c], _ =>
    have e0 : DataW.trod enc Tryz.prog w base spare held n 3 [v] = some y0 := by
      have h := h0
      rw [cells_int] at h
      exact h
    have e1 : DataW.trod enc Tryz.prog w base spare held n 46 [a, b] = some y1 := by
      have h := h1
      rw [cells_once] at h
      exact h
    have e2 : DataW.trod enc Tryz.prog w base spare held n 44 [c] = some y2 := by
      have h := h2
      rw [cells_digests] at h
      exact h
    obtain ⟨m, hm, _, hw⟩ := DataW.trod_int Tryz.underlying3 e0
    obtain ⟨A, B, X, Y, c1, c2, hab, hX, hY⟩ := open_once e1
    obtain ⟨C, P, c3, hc, hl3, _, hP⟩ := open_digests e2
    injection hm with hm
    injection hab with ha hb
    injection hb with hb
    injection hc with hc
    subst hm
    subst ha
    subst hb
    subst hc
    exact ⟨m, A, B, C, X, Y, P, c1, c2, c3, rfl, i64_wf hw, hX, hY, hP, hl3⟩
set_option maxRecDepth 100000 in
theorem open_key {H : Type} {enc : TypeId × Value → H} {w : World} {base : Nat} {spare : Nat → Bool} {held : Bool} {fuel : Nat} {cs : List Value} {x : DataW H × List MemPlace} (h : DataW.trod enc Tryz.prog w base spare held fuel 37 cs = some x) :
    ∃ (r : List UInt8) (k : Int), r.length = 32 ∧ (-9223372036854775808 ≤ k ∧ k ≤ 9223372036854775807) ∧ cs = keyL r k := by
  obtain ⟨y0, y1, n, _, hl, h0, h1⟩ := trod_struct2 Tryz.underlying37 h
  rw [cells_key] at hl
  have e0 : DataW.trod enc Tryz.prog w base spare held n 33 (cs.take 32) = some y0 := by
    have h := h0
    rw [cells_digest] at h
    exact h
  have e1 : DataW.trod enc Tryz.prog w base spare held n 3 ((cs.drop 32).take 1) = some y1 := by
    have h := h1
    rw [cells_int] at h
    exact h
  obtain ⟨r, hr, hc⟩ := open_digest e0
  obtain ⟨k, hk, _, hw⟩ := DataW.trod_int Tryz.underlying3 e1
  refine ⟨r, k, hr, i64_wf hw, ?_⟩
  have e : cs = cs.take 32 ++ cs.drop 32 := (List.take_append_drop 32 cs).symm
  have e2 : (cs.drop 32).take 1 = cs.drop 32 := List.take_of_length_le (by rw [List.length_drop, hl]; omega)
  rw [e, hc, ← e2, hk]
  rfl
end Go.Proofs.YtojgmdagamdcfaaGreatDoor

namespace Go.Proofs.YtojgmdagamdcfaaGreatDoor
open Go.ChangeShapes Go.WideShapes Go.ChangeAt Go.RowKit Go.Deep

set_option maxRecDepth 100000 in
theorem cells_call : Tryz.prog.cellsOf 35 = 36 := by kernel_rfl
set_option maxRecDepth 100000 in
theorem cells_u8 : Tryz.prog.cellsOf 5 = 1 := by kernel_rfl
set_option maxRecDepth 100000 in
theorem cut_off (cs : List Value) (o n : Nat) : cs.drop o = (cs.drop o).take n ++ cs.drop (o + n) := by
  rw [← List.drop_drop, List.take_append_drop]
set_option maxRecDepth 100000 in
theorem open_call {H : Type} {enc : TypeId × Value → H} {w : World} {base : Nat} {spare : Nat → Bool} {held : Bool} {fuel : Nat} {cs : List Value} {x : DataW H × List MemPlace} (h : DataW.trod enc Tryz.prog w base spare held fuel 35 cs = some x) : ∃ y : CallX, cs = y.cells := by
  obtain ⟨xs, m, _, _, hl, hxl, hf⟩ := DataW.trod_struct Tryz.underlying35 h
  rw [cells_call] at hl
  match xs, hxl with
  | [y0, y1, y2, y3, y4], _ =>
    have h0 : DataW.trod enc Tryz.prog w base spare held m 3 ((cs.drop 0).take (Tryz.prog.cellsOf 3)) = some y0 := hf 0 _ rfl
    have h1 : DataW.trod enc Tryz.prog w base spare held m 5 ((cs.drop 1).take (Tryz.prog.cellsOf 5)) = some y1 := hf 1 _ rfl
    have h2 : DataW.trod enc Tryz.prog w base spare held m 3 ((cs.drop 2).take (Tryz.prog.cellsOf 3)) = some y2 := hf 2 _ rfl
    have h3 : DataW.trod enc Tryz.prog w base spare held m 3 ((cs.drop 3).take (Tryz.prog.cellsOf 3)) = some y3 := hf 3 _ rfl
    have h4 : DataW.trod enc Tryz.prog w base spare held m 33 ((cs.drop 4).take (Tryz.prog.cellsOf 33)) = some y4 := hf 4 _ rfl
    rw [cells_int] at h0 h2 h3
    rw [cells_u8] at h1
    rw [cells_digest] at h4
    obtain ⟨n0, e0, _, _⟩ := DataW.trod_int Tryz.underlying3 h0
    obtain ⟨n1, e1, _, w1⟩ := DataW.trod_int Tryz.underlying5 h1
    obtain ⟨n2, e2, _, _⟩ := DataW.trod_int Tryz.underlying3 h2
    obtain ⟨n3, e3, _, _⟩ := DataW.trod_int Tryz.underlying3 h3
    obtain ⟨d, hd, e4⟩ := open_digest h4
    obtain ⟨b, rfl⟩ := u8_byte w1
    refine ⟨⟨n0, b, n2, n3, d, hd⟩, ?_⟩
    have e : cs = cs.drop 0 := rfl
    rw [e, cut_off cs 0 1, e0, cut_off cs (0 + 1) 1, e1, cut_off cs (0 + 1 + 1) 1, e2, cut_off cs (0 + 1 + 1 + 1) 1, e3, cut_off cs (0 + 1 + 1 + 1 + 1) 32, e4, List.drop_eq_nil_of_le (by omega)]
    simp [CallX.cells, callL, bv]
set_option maxRecDepth 100000 in
theorem open_script {H : Type} {enc : TypeId × Value → H} {w : World} {base : Nat} {spare : Nat → Bool} {held : Bool} {fuel : Nat} {cs : List Value} {x : DataW H × List MemPlace}
    (h : DataW.trod enc Tryz.prog w base spare held fuel 22 cs = some x) :
    ∃ (A : Option Addr) (ks : List CallX) (cap : Nat), cs = [.slice A ks.length cap] ∧ ks.length ≤ cap ∧ cap ≤ maxLen ∧ Cals w w.heap.size A ks := by
  rcases open_slice Tryz.underlying22 h with ⟨rfl, rfl⟩ | ⟨a, len, cap, m, n, D, Pl, rfl, hb, hl, hm, hmm, rfl, hi⟩
  · exact ⟨none, [], 0, rfl, Nat.le_refl _, by simp [maxLen], .inl rfl⟩
  · have hlm : len ≤ m := by rw [hmm]; split <;> omega
    have hex : ∀ i, i < len → ∃ y : CallX, ∀ j, j < 36 → w.cell? (a.add (i * 36 + j)) = y.cells[j]? := by
      intro i hil
      obtain ⟨cs', hc, ht⟩ := hi i (by omega)
      rw [cells_call] at hc
      obtain ⟨_, hcl, hat⟩ := World.cells?_some hc
      obtain ⟨y, e⟩ := open_call ht
      subst e
      refine ⟨y, fun j hj => ?_⟩
      have h1 := hat j hj
      rw [add_two] at h1
      exact h1
    obtain ⟨F, hF⟩ : ∃ F : Nat → CallX, ∀ i, i < len → ∀ j, j < 36 → w.cell? (a.add (i * 36 + j)) = (F i).cells[j]? :=
      ⟨fun i => if hi : i < len then (hex i hi).choose else ⟨0, 0, 0, 0, List.replicate 32 0, rfl⟩, fun i hi => by
        simp only [dif_pos hi]
        exact (hex i hi).choose_spec⟩
    have hlen : ((List.range len).map F).length = len := by simp
    refine ⟨some a, (List.range len).map F, cap, by rw [hlen], by rw [hlen]; exact hl, hm, sees_of_addr fun j u hu => ?_⟩
    have hj : j < len * 36 := by
      have := (List.getElem?_eq_some_iff.1 hu).1
      rw [flat_len CallX.cells 36 CallX.cells_len, hlen] at this
      omega
    obtain ⟨y, h1, h2⟩ := flat_get CallX.cells 36 CallX.cells_len ((List.range len).map F) j (by rw [hlen]; exact hj)
    rw [h2] at hu
    have hk : j / 36 < len := by omega
    rw [List.getElem?_map, List.getElem?_range hk] at h1
    obtain rfl : F (j / 36) = y := by simpa using h1
    have hc := hF (j / 36) hk (j % 36) (Nat.mod_lt _ (by decide))
    rw [show j / 36 * 36 + j % 36 = j by omega] at hc
    rw [hc, hu]
end Go.Proofs.YtojgmdagamdcfaaGreatDoor
