/-
  Opening the handed arguments of vote's laws: lists of votes.
-/
import Derived.Test.YtbclepdcngaonaaGreatDoorRX
import Derived.Test.YtbclepdcngaonaaGreatDoorVA
namespace Go.Proofs.YtbclepdcngaonaaGreatDoor
open Go.ChangeShapes Go.WideShapes Go.ChangeAt Go.RowKit Go.Deep

section
variable {H : Type} {enc : TypeId × Value → H} {w : World} {base : Nat} {spare : Nat → Bool} {held : Bool} {fuel : Nat} {cs : List Value} {x : DataW H × List MemPlace}
set_option maxRecDepth 100000 in
theorem cells_once13 : Tryz.prog.cellsOf 70 = 2 := by kernel_rfl
set_option maxRecDepth 100000 in
theorem cells_sig13 : Tryz.prog.cellsOf 72 = 4 := by kernel_rfl
set_option maxRecDepth 100000 in
theorem cells_vote13 : Tryz.prog.cellsOf 74 = 41 := by kernel_rfl
set_option maxRecDepth 100000 in
theorem bytes_vote13 : Tryz.prog.bytesOf 74 = 152 := by kernel_rfl
set_option maxRecDepth 100000 in
theorem open_once13 {b : Nat} (hw : ∀ u ∈ x.1.weights Tryz.prog 70, u ≤ b) (h : DataW.trod enc Tryz.prog w base spare held fuel 70 cs = some x) :
    ∃ (A B : Option Addr) (X Y : List (List UInt8)) (a c : Nat), cs = [.slice A X.length a, .slice B Y.length c] ∧ Digs w w.heap.size A X ∧ Digs w w.heap.size B Y ∧ X.length * 32 ≤ b ∧ Y.length * 32 ≤ b := by
  obtain ⟨xs, m, _, hx, hl, hxl, hf⟩ := DataW.trod_struct Tryz.underlying70 h
  rw [cells_once13] at hl
  match xs, hxl with
  | [y0, y1], _ =>
    have h0 : DataW.trod enc Tryz.prog w base spare held m 68 ((cs.drop 0).take (Tryz.prog.cellsOf 68)) = some y0 := hf 0 _ rfl
    have h1 : DataW.trod enc Tryz.prog w base spare held m 68 ((cs.drop 1).take (Tryz.prog.cellsOf 68)) = some y1 := hf 1 _ rfl
    rw [cells_digests11] at h0 h1
    subst hx
    simp only [DataW.weights, DataW.weightsEach, Tryz.underlying70, List.map_cons, List.map_nil, List.mem_append, List.not_mem_nil, or_false] at hw
    obtain ⟨A, X, a, e0, ha, wA, hA⟩ := open_digests11 (fun u hu => hw u (.inl hu)) h0
    obtain ⟨B, Y, c, e1, hc, wB, hB⟩ := open_digests11 (fun u hu => hw u (.inr hu)) h1
    refine ⟨A, B, X, Y, a, c, ?_, hA, hB, wA, wB⟩
    have e : cs = cs.drop 0 := rfl
    rw [e, cut9 cs 0 1, e0, cut9 cs (0 + 1) 1, e1, List.drop_eq_nil_of_le (by omega)]
    rfl
set_option maxRecDepth 100000 in
theorem open_sig13 {b : Nat} (hw : ∀ u ∈ x.1.weights Tryz.prog 72, u ≤ b) (h : DataW.trod enc Tryz.prog w base spare held fuel 72 cs = some x) :
    ∃ (n : Int) (A B C : Option Addr) (X Y P : List (List UInt8)) (a b' c : Nat), cs = [.int .i64 n, .slice A X.length a, .slice B Y.length b', .slice C P.length c] ∧ R64 n ∧ Digs w w.heap.size A X ∧ Digs w w.heap.size B Y ∧ Digs w w.heap.size C P ∧ P.length ≤ c ∧ X.length * 32 ≤ b ∧ Y.length * 32 ≤ b ∧ P.length * 32 ≤ b := by
  obtain ⟨xs, m, _, hx, hl, hxl, hf⟩ := DataW.trod_struct Tryz.underlying72 h
  rw [cells_sig13] at hl
  match xs, hxl with
  | [y0, y1, y2], _ =>
    have h0 : DataW.trod enc Tryz.prog w base spare held m 3 ((cs.drop 0).take (Tryz.prog.cellsOf 3)) = some y0 := hf 0 _ rfl
    have h1 : DataW.trod enc Tryz.prog w base spare held m 70 ((cs.drop 1).take (Tryz.prog.cellsOf 70)) = some y1 := hf 1 _ rfl
    have h2 : DataW.trod enc Tryz.prog w base spare held m 68 ((cs.drop 3).take (Tryz.prog.cellsOf 68)) = some y2 := hf 2 _ rfl
    rw [cells_int9] at h0
    rw [cells_once13] at h1
    rw [cells_digests11] at h2
    subst hx
    simp only [DataW.weights, DataW.weightsEach, Tryz.underlying72, List.map_cons, List.map_nil, List.mem_append, List.not_mem_nil, or_false] at hw
    obtain ⟨n, e0, _, w0⟩ := DataW.trod_int Tryz.underlying3 h0
    obtain ⟨A, B, X, Y, a, b', e1, hA, hB, wA, wB⟩ := open_once13 (fun u hu => hw u (.inr (.inl hu))) h1
    obtain ⟨C, P, c, e2, hc, wC, hC⟩ := open_digests11 (fun u hu => hw u (.inr (.inr hu))) h2
    refine ⟨n, A, B, C, X, Y, P, a, b', c, ?_, i64_wf9 w0, hA, hB, hC, hc, wA, wB, wC⟩
    have e : cs = cs.drop 0 := rfl
    rw [e, cut9 cs 0 1, e0, cut9 cs (0 + 1) 2, e1, cut9 cs (0 + 1 + 2) 1, e2, List.drop_eq_nil_of_le (by omega)]
    rfl
/-- What is known of a vote that is handed in. -/
structure VtIn (w : World) (b : Nat) (m : VtM) : Prop where
  kind : R64 m.x.kind
  epoch : R64 m.x.epoch
  height : R64 m.x.height
  round : R64 m.x.round
  frm : R64 m.x.frm
  leaf : R64 m.x.leaf
  see : VSee w m
  cap : m.x.pth.length ≤ m.c
  opn : m.x.opn.length * 32 ≤ b
  sht : m.x.sht.length * 32 ≤ b
  pth : m.x.pth.length * 32 ≤ b
set_option maxRecDepth 100000 in
theorem open_vote13 {b : Nat} (hw : ∀ u ∈ x.1.weights Tryz.prog 74, u ≤ b) (h : DataW.trod enc Tryz.prog w base spare held fuel 74 cs = some x) :
    ∃ m : VtM, cs = VtK.enc m ∧ VtIn w b m := by
  obtain ⟨xs, m, _, hx, hl, hxl, hf⟩ := DataW.trod_struct Tryz.underlying74 h
  rw [cells_vote13] at hl
  match xs, hxl with
  | [y0, y1, y2, y3, y4, y5, y6], _ =>
    have h0 : DataW.trod enc Tryz.prog w base spare held m 3 ((cs.drop 0).take (Tryz.prog.cellsOf 3)) = some y0 := hf 0 _ rfl
    have h1 : DataW.trod enc Tryz.prog w base spare held m 3 ((cs.drop 1).take (Tryz.prog.cellsOf 3)) = some y1 := hf 1 _ rfl
    have h2 : DataW.trod enc Tryz.prog w base spare held m 3 ((cs.drop 2).take (Tryz.prog.cellsOf 3)) = some y2 := hf 2 _ rfl
    have h3 : DataW.trod enc Tryz.prog w base spare held m 3 ((cs.drop 3).take (Tryz.prog.cellsOf 3)) = some y3 := hf 3 _ rfl
    have h4 : DataW.trod enc Tryz.prog w base spare held m 29 ((cs.drop 4).take (Tryz.prog.cellsOf 29)) = some y4 := hf 4 _ rfl
    have h5 : DataW.trod enc Tryz.prog w base spare held m 3 ((cs.drop 36).take (Tryz.prog.cellsOf 3)) = some y5 := hf 5 _ rfl
    have h6 : DataW.trod enc Tryz.prog w base spare held m 72 ((cs.drop 37).take (Tryz.prog.cellsOf 72)) = some y6 := hf 6 _ rfl
    rw [cells_int9] at h0 h1 h2 h3 h5
    rw [cells_digest11] at h4
    rw [cells_sig13] at h6
    subst hx
    simp only [DataW.weights, DataW.weightsEach, Tryz.underlying74, List.map_cons, List.map_nil, List.mem_append, List.not_mem_nil, or_false] at hw
    obtain ⟨k, e0, _, w0⟩ := DataW.trod_int Tryz.underlying3 h0
    obtain ⟨e, e1, _, w1⟩ := DataW.trod_int Tryz.underlying3 h1
    obtain ⟨hh, e2, _, w2⟩ := DataW.trod_int Tryz.underlying3 h2
    obtain ⟨r, e3, _, w3⟩ := DataW.trod_int Tryz.underlying3 h3
    obtain ⟨d, hd, e4⟩ := open_digest8 h4
    obtain ⟨f, e5, _, w5⟩ := DataW.trod_int Tryz.underlying3 h5
    obtain ⟨n, A, B, C, X, Y, P, a, b', c, e6, w6, hA, hB, hC, hc, wA, wB, wC⟩ := open_sig13 (fun u hu => hw u (.inr (.inr (.inr (.inr (.inr (.inr hu))))))) h6
    refine ⟨⟨⟨k, e, hh, r, d, f, n, X, Y, P, hd⟩, A, a, B, b', C, c⟩, ?_, i64_wf9 w0, i64_wf9 w1, i64_wf9 w2, i64_wf9 w3, i64_wf9 w5, w6, ⟨hA, hB, hC⟩, hc, wA, wB, wC⟩
    have ee : cs = cs.drop 0 := rfl
    rw [ee, cut9 cs 0 1, e0, cut9 cs (0 + 1) 1, e1, cut9 cs (0 + 1 + 1) 1, e2, cut9 cs (0 + 1 + 1 + 1) 1, e3, cut9 cs (0 + 1 + 1 + 1 + 1) 32, e4, cut9 cs (0 + 1 + 1 + 1 + 1 + 32) 1, e5, cut9 cs (0 + 1 + 1 + 1 + 1 + 32 + 1) 4, e6, List.drop_eq_nil_of_le (by omega)]
    show _ = vtL _ _ _ _ _ _ _ _ _ _
    unfold vtL
    simp
set_option maxRecDepth 100000 in
theorem open_votes13 {b : Nat} (hw : ∀ u ∈ x.1.weights Tryz.prog 33, u ≤ b) (h : DataW.trod enc Tryz.prog w base spare held fuel 33 cs = some x) :
    ∃ (A : Option Addr) (vs : List VtM) (cap : Nat), cs = [.slice A vs.length cap] ∧ vs.length * 152 ≤ b ∧ VtK.See w w.heap.size A vs ∧ ∀ m ∈ vs, VtIn w b m := by
  obtain ⟨A, vs, cap, h1, _, _, h4, h5, h6⟩ := open_rowK VtK zvt b (fun m => VtIn w b m) cells_vote13 bytes_vote13 (fun n cs y hy hu => open_vote13 hu hy) hw h
  exact ⟨A, vs, cap, h1, h5, h4, h6⟩
end
set_option maxRecDepth 100000 in
theorem wf_of13 {a : Int} (h : R64 a) : (Lit.int .i64 a).wf = true := by
  obtain ⟨h1, h2⟩ := h
  have e1 : IntKind.i64.min = -9223372036854775808 := by decide
  have e2 : IntKind.i64.max = 9223372036854775807 := by decide
  simp [Lit.wf, e1, e2]
  omega
end Go.Proofs.YtbclepdcngaonaaGreatDoor
