/-
  Opening the handed arguments of chain's laws: configurations with their numbers, links, rows of links.
-/
import Derived.Test.YtbclepdcngaonaaGreatDoorCeRowKit
import Derived.Test.YtbclepdcngaonaaGreatDoorMA
namespace Go.Proofs.YtbclepdcngaonaaGreatDoor
open Go.ChangeShapes Go.WideShapes Go.ChangeAt Go.RowKit Go.Deep

section
variable {H : Type} {enc : TypeId × Value → H} {w : World} {base : Nat} {spare : Nat → Bool} {held : Bool} {fuel : Nat} {cs : List Value} {x : DataW H × List MemPlace}
set_option maxRecDepth 100000 in
theorem cells_mem15 : Tryz.prog.cellsOf 66 = 34 := by kernel_rfl
set_option maxRecDepth 100000 in
theorem bytes_mem15 : Tryz.prog.bytesOf 66 = 48 := by kernel_rfl
set_option maxRecDepth 100000 in
theorem cells_link15 : Tryz.prog.cellsOf 37 = 103 := by kernel_rfl
set_option maxRecDepth 100000 in
theorem bytes_link15 : Tryz.prog.bytesOf 37 = 200 := by kernel_rfl
set_option maxRecDepth 100000 in
theorem open_mem15 (h : DataW.trod enc Tryz.prog w base spare held fuel 66 cs = some x) : ∃ y : MemX, cs = MK.enc y ∧ (R64 y.id ∧ R64 y.high) := by
  obtain ⟨y0, y1, n, _, hl, h0, h1⟩ := trod_struct2 Tryz.underlying66 h
  rw [cells_mem15] at hl
  have e0 : DataW.trod enc Tryz.prog w base spare held n 3 (cs.take 1) = some y0 := by
    have h := h0
    rw [cells_int8] at h
    exact h
  have e1 : DataW.trod enc Tryz.prog w base spare held n 64 ((cs.drop 1).take 33) = some y1 := by
    have h := h1
    rw [cells_key8] at h
    exact h
  obtain ⟨i, hi, _, wi⟩ := DataW.trod_int Tryz.underlying3 e0
  obtain ⟨r, k, hr, hk, hc⟩ := open_key8 e1
  refine ⟨⟨i, r, k, hr⟩, ?_, i64_wf9 wi, hk⟩
  have e : cs = cs.take 1 ++ cs.drop 1 := (List.take_append_drop 1 cs).symm
  have e2 : (cs.drop 1).take 33 = cs.drop 1 := List.take_of_length_le (by rw [List.length_drop, hl]; omega)
  rw [e, hi, ← e2, hc]
  rfl
set_option maxRecDepth 100000 in
/-- A configuration that is handed in, its numbers, too. -/
theorem open_cfg15 {b : Nat} (hw : ∀ u ∈ x.1.weights Tryz.prog 24, u ≤ b) (h : DataW.trod enc Tryz.prog w base spare held fuel 24 cs = some x) :
    ∃ (ep : Int) (A : Option Addr) (ms : List MemX) (c : Nat), cs = [.int .i64 ep, .slice A ms.length c] ∧ R64 ep ∧ Mems w w.heap.size A ms ∧ ∀ m ∈ ms, R64 m.id ∧ R64 m.high := by
  obtain ⟨xs, m, _, hx, hl, hxl, hf⟩ := DataW.trod_struct Tryz.underlying24 h
  rw [cells_cfg8] at hl
  match xs, hxl with
  | [y0, y1], _ =>
    have h0 : DataW.trod enc Tryz.prog w base spare held m 3 ((cs.drop 0).take (Tryz.prog.cellsOf 3)) = some y0 := hf 0 _ rfl
    have h1 : DataW.trod enc Tryz.prog w base spare held m 22 ((cs.drop 1).take (Tryz.prog.cellsOf 22)) = some y1 := hf 1 _ rfl
    rw [cells_int9] at h0
    rw [cells_mems8] at h1
    subst hx
    simp only [DataW.weights, DataW.weightsEach, Tryz.underlying24, List.map_cons, List.map_nil, List.mem_append, List.not_mem_nil, or_false] at hw
    obtain ⟨r, e0, _, w0⟩ := DataW.trod_int Tryz.underlying3 h0
    obtain ⟨A, ms, c, e1, _, _, hS, _, hP⟩ := open_rowK MK zmem b (fun m => R64 m.id ∧ R64 m.high) cells_mem15 bytes_mem15 (fun n cs y hy _ => open_mem15 hy) (fun u hu => hw u (.inr hu)) h1
    refine ⟨r, A, ms, c, ?_, i64_wf9 w0, hS, hP⟩
    have e : cs = cs.drop 0 := rfl
    rw [e, cut9 cs 0 1, e0, cut9 cs (0 + 1) 1, e1, List.drop_eq_nil_of_le (by omega)]
    rfl
/-- What is known of a link that is handed in. -/
structure LkIn (w : World) (b : Nat) (l : LkM) : Prop where
  blk : BlkIn w b l.b
  crt : CrtIn w b l.A l.vs l.c l.r
  ep : R64 l.ep
  see : Mems w w.heap.size l.M l.ms
  mem : ∀ m ∈ l.ms, R64 m.id ∧ R64 m.high
set_option maxRecDepth 100000 in
theorem LkIn.lk {b : Nat} {l : LkM} (h : LkIn w b l) : LkSee w l := ⟨h.blk.see, h.crt.see, h.crt.sg, h.see⟩
set_option maxRecDepth 100000 in
theorem open_link15 {b : Nat} (hw : ∀ u ∈ x.1.weights Tryz.prog 37, u ≤ b) (h : DataW.trod enc Tryz.prog w base spare held fuel 37 cs = some x) :
    ∃ l : LkM, cs = l.cells ∧ LkIn w b l := by
  obtain ⟨xs, m, _, hx, hl, hxl, hf⟩ := DataW.trod_struct Tryz.underlying37 h
  rw [cells_link15] at hl
  match xs, hxl with
  | [y0, y1, y2], _ =>
    have h0 : DataW.trod enc Tryz.prog w base spare held m 32 ((cs.drop 0).take (Tryz.prog.cellsOf 32)) = some y0 := hf 0 _ rfl
    have h1 : DataW.trod enc Tryz.prog w base spare held m 35 ((cs.drop 99).take (Tryz.prog.cellsOf 35)) = some y1 := hf 1 _ rfl
    have h2 : DataW.trod enc Tryz.prog w base spare held m 24 ((cs.drop 101).take (Tryz.prog.cellsOf 24)) = some y2 := hf 2 _ rfl
    rw [cells_block12] at h0
    rw [cells_cert14] at h1
    rw [cells_cfg8] at h2
    subst hx
    simp only [DataW.weights, DataW.weightsEach, Tryz.underlying37, List.map_cons, List.map_nil, List.mem_append, List.not_mem_nil, or_false] at hw
    obtain ⟨bm, e0, hB⟩ := open_blk12 (b := b) (fun u hu => hw u (.inl hu)) h0
    obtain ⟨r, A, vs, c, e1, hC⟩ := open_cert14 (b := b) (fun u hu => hw u (.inr (.inl hu))) h1
    obtain ⟨ep, M, ms, mc, e2, hE, hS, hP⟩ := open_cfg15 (b := b) (fun u hu => hw u (.inr (.inr hu))) h2
    refine ⟨⟨bm, r, vs, A, c, ep, ms, M, mc⟩, ?_, ⟨hB, hC, hE, hS, hP⟩⟩
    have e : cs = cs.drop 0 := rfl
    rw [e, cut9 cs 0 99, e0, cut9 cs (0 + 99) 2, e1, cut9 cs (0 + 99 + 2) 2, e2, List.drop_eq_nil_of_le (by omega)]
    show _ = lkL _ _ _ _ _
    unfold lkL
    simp
set_option maxRecDepth 100000 in
theorem open_links15 {b : Nat} (hw : ∀ u ∈ x.1.weights Tryz.prog 25, u ≤ b) (h : DataW.trod enc Tryz.prog w base spare held fuel 25 cs = some x) :
    ∃ (A : Option Addr) (ls : List LkM) (c : Nat), cs = [.slice A ls.length c] ∧ ls.length ≤ c ∧ LksSee w A ls ∧ ∀ l ∈ ls, LkIn w b l := by
  obtain ⟨A, ls, c, e, h1, _, h3, _, h5⟩ := open_rowK LkK zlk b (fun l => LkIn w b l) cells_link15 bytes_link15 (fun n cs y hy hu => open_link15 hu hy) hw h
  exact ⟨A, ls, c, e, h1, ⟨h3, fun l hl => (h5 l hl).lk⟩, h5⟩
end
end Go.Proofs.YtbclepdcngaonaaGreatDoor
