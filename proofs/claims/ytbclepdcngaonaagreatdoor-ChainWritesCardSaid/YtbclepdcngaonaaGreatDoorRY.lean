/-
  Opening the handed arguments of block's laws: blocks.
  Opening the handed arguments of vote's laws: lists of votes.
  Opening the handed arguments of cert's laws: words.
  Opening the handed arguments of chain's laws: configurations with their numbers, links, rows of links.
-/
import Derived.Test.YtbclepdcngaonaaGreatDoorRX
import Derived.Test.YtbclepdcngaonaaGreatDoorBA
import Derived.Test.YtbclepdcngaonaaGreatDoorVA
import Derived.Test.YtbclepdcngaonaaGreatDoorEA
import Derived.Test.YtbclepdcngaonaaGreatDoorMA
namespace Go.Proofs.YtbclepdcngaonaaGreatDoor
open Go.ChangeShapes Go.WideShapes Go.ChangeAt Go.RowKit Go.Deep

section
variable {H : Type} {enc : TypeId × Value → H} {w : World} {base : Nat} {spare : Nat → Bool} {held : Bool} {fuel : Nat} {cs : List Value} {x : DataW H × List MemPlace}
set_option maxRecDepth 100000 in
theorem cells_block12 : Tryz.prog.cellsOf 32 = 99 := by kernel_rfl
set_option maxRecDepth 100000 in
theorem cells_digest12 : Tryz.prog.cellsOf 29 = 32 := by kernel_rfl
set_option maxRecDepth 100000 in
theorem cells_reqs12 : Tryz.prog.cellsOf 30 = 1 := by kernel_rfl
/-- What is known of a block that is handed in. -/
structure BlkIn (w : World) (b : Nat) (m : BlkM) : Prop where
  epoch : R64 m.x.epoch
  height : R64 m.x.height
  len : m.x.reqs.length ≤ b
  see : QSee w w.heap.size m.A m.x.reqs
  num : ∀ q ∈ m.x.reqs, R64 q.client ∧ R64 q.num ∧ R64 q.kind ∧ R64 q.ck ∧ R64 q.cid ∧ R64 q.cn ∧ R64 q.high
  txt : ∀ q ∈ m.x.reqs, q.key.size ≤ b ∧ q.val.size ≤ b ∧ q.old.size ≤ b
set_option maxRecDepth 100000 in
theorem open_blk12 {b : Nat} (hw : ∀ u ∈ x.1.weights Tryz.prog 32, u ≤ b) (h : DataW.trod enc Tryz.prog w base spare held fuel 32 cs = some x) :
    ∃ m : BlkM, cs = m.cells ∧ BlkIn w b m := by
  obtain ⟨xs, m, _, hx, hl, hxl, hf⟩ := DataW.trod_struct Tryz.underlying32 h
  rw [cells_block12] at hl
  match xs, hxl with
  | [y0, y1, y2, y3, y4, y5], _ =>
    have h0 : DataW.trod enc Tryz.prog w base spare held m 3 ((cs.drop 0).take (Tryz.prog.cellsOf 3)) = some y0 := hf 0 _ rfl
    have h1 : DataW.trod enc Tryz.prog w base spare held m 3 ((cs.drop 1).take (Tryz.prog.cellsOf 3)) = some y1 := hf 1 _ rfl
    have h2 : DataW.trod enc Tryz.prog w base spare held m 29 ((cs.drop 2).take (Tryz.prog.cellsOf 29)) = some y2 := hf 2 _ rfl
    have h3 : DataW.trod enc Tryz.prog w base spare held m 29 ((cs.drop 34).take (Tryz.prog.cellsOf 29)) = some y3 := hf 3 _ rfl
    have h4 : DataW.trod enc Tryz.prog w base spare held m 29 ((cs.drop 66).take (Tryz.prog.cellsOf 29)) = some y4 := hf 4 _ rfl
    have h5 : DataW.trod enc Tryz.prog w base spare held m 30 ((cs.drop 98).take (Tryz.prog.cellsOf 30)) = some y5 := hf 5 _ rfl
    rw [cells_int9] at h0 h1
    rw [cells_digest12] at h2 h3 h4
    rw [cells_reqs12] at h5
    subst hx
    simp only [DataW.weights, DataW.weightsEach, Tryz.underlying32, List.map_cons, List.map_nil, List.mem_append, List.not_mem_nil, or_false] at hw
    obtain ⟨e, e0, _, w0⟩ := DataW.trod_int Tryz.underlying3 h0
    obtain ⟨hh, e1, _, w1⟩ := DataW.trod_int Tryz.underlying3 h1
    obtain ⟨p, hp, e2⟩ := open_digest8 h2
    obtain ⟨s, hs, e3⟩ := open_digest8 h3
    obtain ⟨n, hn, e4⟩ := open_digest8 h4
    obtain ⟨A, qs, z, e5, hlq, hsq, hq⟩ := open_reqs10 (fun u hu => hw u (.inr (.inr (.inr (.inr (.inr hu)))))) h5
    refine ⟨⟨⟨e, hh, p, s, n, qs, hp, hs, hn⟩, A, z⟩, ?_, ⟨i64_wf9 w0, i64_wf9 w1, by show qs.length ≤ b; omega, hsq, fun q h => (hq q h).1, fun q h => (hq q h).2⟩⟩
    have e : cs = cs.drop 0 := rfl
    rw [e, cut9 cs 0 1, e0, cut9 cs (0 + 1) 1, e1, cut9 cs (0 + 1 + 1) 32, e2, cut9 cs (0 + 1 + 1 + 32) 32, e3, cut9 cs (0 + 1 + 1 + 32 + 32) 32, e4, cut9 cs (0 + 1 + 1 + 32 + 32 + 32) 1, e5, List.drop_eq_nil_of_le (by omega)]
    show _ = bkL _ _ _ _ _ _
    unfold bkL
    simp
end
end Go.Proofs.YtbclepdcngaonaaGreatDoor

namespace Go.Proofs.YtbclepdcngaonaaGreatDoor
open Go.ChangeShapes Go.WideShapes Go.ChangeAt Go.RowKit Go.Deep

section
variable {H : Type} {enc : TypeId × Value → H} {w : World} {base : Nat} {spare : Nat → Bool} {held : Bool} {fuel : Nat} {cs : List Value} {x : DataW H × List MemPlace}
set_option maxRecDepth 100000 in
theorem cells_once13 : Tryz.prog.cellsOf 70 = 2 := by kernel_rfl
set_option maxRecDepth 100000 in
theorem cells_sig13 : Tryz.prog.cellsOf 72 = 4 := by kernel_rfl
set_option maxRecDepth 100000 in
theorem cells_vote13 : Tryz.prog.cellsOf 74 = 41 := by kernel_rfl
set_option maxRecDepth 100000 in
theorem bytes_vote13 : Tryz.prog.bytesOf 74 = 152 := by kernel_rfl
set_option maxRecDepth 100000 in
theorem open_once13 {b : Nat} (hw : ∀ u ∈ x.1.weights Tryz.prog 70, u ≤ b) (h : DataW.trod enc Tryz.prog w base spare held fuel 70 cs = some x) :
    ∃ (A B : Option Addr) (X Y : List (List UInt8)) (a c : Nat), cs = [.slice A X.length a, .slice B Y.length c] ∧ Digs w w.heap.size A X ∧ Digs w w.heap.size B Y ∧ X.length * 32 ≤ b ∧ Y.length * 32 ≤ b := by
  obtain ⟨xs, m, _, hx, hl, hxl, hf⟩ := DataW.trod_struct Tryz.underlying70 h
  rw [cells_once13] at hl
  match xs, hxl with
  | [y0, y1], _ =>
    have h0 : DataW.trod enc Tryz.prog w base spare held m 68 ((cs.drop 0).take (Tryz.prog.cellsOf 68)) = some y0 := hf 0 _ rfl
    have h1 : DataW.trod enc Tryz.prog w base spare held m 68 ((cs.drop 1).take (Tryz.prog.cellsOf 68)) = some y1 := hf 1 _ rfl
    rw [cells_digests11] at h0 h1
    subst hx
    simp only [DataW.weights, DataW.weightsEach, Tryz.underlying70, List.map_cons, List.map_nil, List.mem_append, List.not_mem_nil, or_false] at hw
    obtain ⟨A, X, a, e0, ha, wA, hA⟩ := open_digests11 (fun u hu => hw u (.inl hu)) h0
    obtain ⟨B, Y, c, e1, hc, wB, hB⟩ := open_digests11 (fun u hu => hw u (.inr hu)) h1
    refine ⟨A, B, X, Y, a, c, ?_, hA, hB, wA, wB⟩
    have e : cs = cs.drop 0 := rfl
    rw [e, cut9 cs 0 1, e0, cut9 cs (0 + 1) 1, e1, List.drop_eq_nil_of_le (by omega)]
    rfl
set_option maxRecDepth 100000 in
theorem open_sig13 {b : Nat} (hw : ∀ u ∈ x.1.weights Tryz.prog 72, u ≤ b) (h : DataW.trod enc Tryz.prog w base spare held fuel 72 cs = some x) :
    ∃ (n : Int) (A B C : Option Addr) (X Y P : List (List UInt8)) (a b' c : Nat), cs = [.int .i64 n, .slice A X.length a, .slice B Y.length b', .slice C P.length c] ∧ R64 n ∧ Digs w w.heap.size A X ∧ Digs w w.heap.size B Y ∧ Digs w w.heap.size C P ∧ P.length ≤ c ∧ X.length * 32 ≤ b ∧ Y.length * 32 ≤ b ∧ P.length * 32 ≤ b := by
  obtain ⟨xs, m, _, hx, hl, hxl, hf⟩ := DataW.trod_struct Tryz.underlying72 h
  rw [cells_sig13] at hl
  match xs, hxl with
  | [y0, y1, y2], _ =>
    have h0 : DataW.trod enc Tryz.prog w base spare held m 3 ((cs.drop 0).take (Tryz.prog.cellsOf 3)) = some y0 := hf 0 _ rfl
    have h1 : DataW.trod enc Tryz.prog w base spare held m 70 ((cs.drop 1).take (Tryz.prog.cellsOf 70)) = some y1 := hf 1 _ rfl
    have h2 : DataW.trod enc Tryz.prog w base spare held m 68 ((cs.drop 3).take (Tryz.prog.cellsOf 68)) = some y2 := hf 2 _ rfl
    rw [cells_int9] at h0
    rw [cells_once13] at h1
    rw [cells_digests11] at h2
    subst hx
    simp only [DataW.weights, DataW.weightsEach, Tryz.underlying72, List.map_cons, List.map_nil, List.mem_append, List.not_mem_nil, or_false] at hw
    obtain ⟨n, e0, _, w0⟩ := DataW.trod_int Tryz.underlying3 h0
    obtain ⟨A, B, X, Y, a, b', e1, hA, hB, wA, wB⟩ := open_once13 (fun u hu => hw u (.inr (.inl hu))) h1
    obtain ⟨C, P, c, e2, hc, wC, hC⟩ := open_digests11 (fun u hu => hw u (.inr (.inr hu))) h2
    refine ⟨n, A, B, C, X, Y, P, a, b', c, ?_, i64_wf9 w0, hA, hB, hC, hc, wA, wB, wC⟩
    have e : cs = cs.drop 0 := rfl
    rw [e, cut9 cs 0 1, e0, cut9 cs (0 + 1) 2, e1, cut9 cs (0 + 1 + 2) 1, e2, List.drop_eq_nil_of_le (by omega)]
    rfl
/-- What is known of a vote that is handed in. -/
structure VtIn (w : World) (b : Nat) (m : VtM) : Prop where
  kind : R64 m.x.kind
  epoch : R64 m.x.epoch
  height : R64 m.x.height
  round : R64 m.x.round
  frm : R64 m.x.frm
  leaf : R64 m.x.leaf
  see : VSee w m
  cap : m.x.pth.length ≤ m.c
  opn : m.x.opn.length * 32 ≤ b
  sht : m.x.sht.length * 32 ≤ b
  pth : m.x.pth.length * 32 ≤ b
set_option maxRecDepth 100000 in
theorem open_vote13 {b : Nat} (hw : ∀ u ∈ x.1.weights Tryz.prog 74, u ≤ b) (h : DataW.trod enc Tryz.prog w base spare held fuel 74 cs = some x) :
    ∃ m : VtM, cs = VtK.enc m ∧ VtIn w b m := by
  obtain ⟨xs, m, _, hx, hl, hxl, hf⟩ := DataW.trod_struct Tryz.underlying74 h
  rw [cells_vote13] at hl
  match xs, hxl with
  | [y0, y1, y2, y3, y4, y5, y6], _ =>
    have h0 : DataW.trod enc Tryz.prog w base spare held m 3 ((cs.drop 0).take (Tryz.prog.cellsOf 3)) = some y0 := hf 0 _ rfl
    have h1 : DataW.trod enc Tryz.prog w base spare held m 3 ((cs.drop 1).take (Tryz.prog.cellsOf 3)) = some y1 := hf 1 _ rfl
    have h2 : DataW.trod enc Tryz.prog w base spare held m 3 ((cs.drop 2).take (Tryz.prog.cellsOf 3)) = some y2 := hf 2 _ rfl
    have h3 : DataW.trod enc Tryz.prog w base spare held m 3 ((cs.drop 3).take (Tryz.prog.cellsOf 3)) = some y3 := hf 3 _ rfl
    have h4 : DataW.trod enc Tryz.prog w base spare held m 29 ((cs.drop 4).take (Tryz.prog.cellsOf 29)) = some y4 := hf 4 _ rfl
    have h5 : DataW.trod enc Tryz.prog w base spare held m 3 ((cs.drop 36).take (Tryz.prog.cellsOf 3)) = some y5 := hf 5 _ rfl
    have h6 : DataW.trod enc Tryz.prog w base spare held m 72 ((cs.drop 37).take (Tryz.prog.cellsOf 72)) = some y6 := hf 6 _ rfl
    rw [cells_int9] at h0 h1 h2 h3 h5
    rw [cells_digest11] at h4
    rw [cells_sig13] at h6
    subst hx
    simp only [DataW.weights, DataW.weightsEach, Tryz.underlying74, List.map_cons, List.map_nil, List.mem_append, List.not_mem_nil, or_false] at hw
    obtain ⟨k, e0, _, w0⟩ := DataW.trod_int Tryz.underlying3 h0
    obtain ⟨e, e1, _, w1⟩ := DataW.trod_int Tryz.underlying3 h1
    obtain ⟨hh, e2, _, w2⟩ := DataW.trod_int Tryz.underlying3 h2
    obtain ⟨r, e3, _, w3⟩ := DataW.trod_int Tryz.underlying3 h3
    obtain ⟨d, hd, e4⟩ := open_digest8 h4
    obtain ⟨f, e5, _, w5⟩ := DataW.trod_int Tryz.underlying3 h5
    obtain ⟨n, A, B, C, X, Y, P, a, b', c, e6, w6, hA, hB, hC, hc, wA, wB, wC⟩ := open_sig13 (fun u hu => hw u (.inr (.inr (.inr (.inr (.inr (.inr hu))))))) h6
    refine ⟨⟨⟨k, e, hh, r, d, f, n, X, Y, P, hd⟩, A, a, B, b', C, c⟩, ?_, i64_wf9 w0, i64_wf9 w1, i64_wf9 w2, i64_wf9 w3, i64_wf9 w5, w6, ⟨hA, hB, hC⟩, hc, wA, wB, wC⟩
    have ee : cs = cs.drop 0 := rfl
    rw [ee, cut9 cs 0 1, e0, cut9 cs (0 + 1) 1, e1, cut9 cs (0 + 1 + 1) 1, e2, cut9 cs (0 + 1 + 1 + 1) 1, e3, cut9 cs (0 + 1 + 1 + 1 + 1) 32, e4, cut9 cs (0 + 1 + 1 + 1 + 1 + 32) 1, e5, cut9 cs (0 + 1 + 1 + 1 + 1 + 32 + 1) 4, e6, List.drop_eq_nil_of_le (by omega)]
    show _ = vtL _ _ _ _ _ _ _ _ _ _
    unfold vtL
    simp
end
end Go.Proofs.YtbclepdcngaonaaGreatDoor

namespace Go.Proofs.YtbclepdcngaonaaGreatDoor
open Go.ChangeShapes Go.WideShapes Go.ChangeAt Go.RowKit Go.Deep

section
variable {H : Type} {enc : TypeId × Value → H} {w : World} {base : Nat} {spare : Nat → Bool} {held : Bool} {fuel : Nat} {cs : List Value} {x : DataW H × List MemPlace}
set_option maxRecDepth 100000 in
theorem cells_cert14 : Tryz.prog.cellsOf 35 = 2 := by kernel_rfl
set_option maxRecDepth 100000 in
theorem cells_votes14 : Tryz.prog.cellsOf 33 = 1 := by kernel_rfl
/-- What is known of a word that is handed in. -/
structure CrtIn (w : World) (b : Nat) (A : Option Addr) (vs : List VtM) (c : Nat) (r : Int) : Prop where
  round : R64 r
  cap : vs.length ≤ c
  len : vs.length * 152 ≤ b
  see : VtK.See w w.heap.size A vs
  votes : ∀ m ∈ vs, VtIn w b m
set_option maxRecDepth 100000 in
theorem CrtIn.sg {b c : Nat} {A : Option Addr} {vs : List VtM} {r : Int} (h : CrtIn w b A vs c r) : ∀ m ∈ vs, SgSee w m.sg := fun m hm => ⟨(h.votes m hm).see.opn, (h.votes m hm).see.sht, (h.votes m hm).see.pth, (h.votes m hm).cap⟩
set_option maxRecDepth 100000 in
theorem open_cert14 {b : Nat} (hw : ∀ u ∈ x.1.weights Tryz.prog 35, u ≤ b) (h : DataW.trod enc Tryz.prog w base spare held fuel 35 cs = some x) :
    ∃ (r : Int) (A : Option Addr) (vs : List VtM) (c : Nat), cs = [.int .i64 r, .slice A vs.length c] ∧ CrtIn w b A vs c r := by
  obtain ⟨xs, m, _, hx, hl, hxl, hf⟩ := DataW.trod_struct Tryz.underlying35 h
  rw [cells_cert14] at hl
  match xs, hxl with
  | [y0, y1], _ =>
    have h0 : DataW.trod enc Tryz.prog w base spare held m 3 ((cs.drop 0).take (Tryz.prog.cellsOf 3)) = some y0 := hf 0 _ rfl
    have h1 : DataW.trod enc Tryz.prog w base spare held m 33 ((cs.drop 1).take (Tryz.prog.cellsOf 33)) = some y1 := hf 1 _ rfl
    rw [cells_int9] at h0
    rw [cells_votes14] at h1
    subst hx
    simp only [DataW.weights, DataW.weightsEach, Tryz.underlying35, List.map_cons, List.map_nil, List.mem_append, List.not_mem_nil, or_false] at hw
    obtain ⟨r, e0, _, w0⟩ := DataW.trod_int Tryz.underlying3 h0
    obtain ⟨A, vs, c, e1, hlc, _, hS, hlb, hP⟩ := open_rowK VtK zvt b (fun m => VtIn w b m) cells_vote13 bytes_vote13 (fun n cs y hy hu => open_vote13 hu hy) (fun u hu => hw u (.inr hu)) h1
    refine ⟨r, A, vs, c, ?_, ⟨i64_wf9 w0, hlc, hlb, hS, hP⟩⟩
    have e : cs = cs.drop 0 := rfl
    rw [e, cut9 cs 0 1, e0, cut9 cs (0 + 1) 1, e1, List.drop_eq_nil_of_le (by omega)]
    rfl
end
end Go.Proofs.YtbclepdcngaonaaGreatDoor

namespace Go.Proofs.YtbclepdcngaonaaGreatDoor
open Go.ChangeShapes Go.WideShapes Go.ChangeAt Go.RowKit Go.Deep

section
variable {H : Type} {enc : TypeId × Value → H} {w : World} {base : Nat} {spare : Nat → Bool} {held : Bool} {fuel : Nat} {cs : List Value} {x : DataW H × List MemPlace}
set_option maxRecDepth 100000 in
theorem cells_mem15 : Tryz.prog.cellsOf 66 = 34 := by kernel_rfl
set_option maxRecDepth 100000 in
theorem bytes_mem15 : Tryz.prog.bytesOf 66 = 48 := by kernel_rfl
set_option maxRecDepth 100000 in
theorem cells_link15 : Tryz.prog.cellsOf 37 = 103 := by kernel_rfl
set_option maxRecDepth 100000 in
theorem open_mem15 (h : DataW.trod enc Tryz.prog w base spare held fuel 66 cs = some x) : ∃ y : MemX, cs = MK.enc y ∧ (R64 y.id ∧ R64 y.high) := by
  obtain ⟨y0, y1, n, _, hl, h0, h1⟩ := trod_struct2 Tryz.underlying66 h
  rw [cells_mem15] at hl
  have e0 : DataW.trod enc Tryz.prog w base spare held n 3 (cs.take 1) = some y0 := by
    have h := h0
    rw [cells_int8] at h
    exact h
  have e1 : DataW.trod enc Tryz.prog w base spare held n 64 ((cs.drop 1).take 33) = some y1 := by
    have h := h1
    rw [cells_key8] at h
    exact h
  obtain ⟨i, hi, _, wi⟩ := DataW.trod_int Tryz.underlying3 e0
  obtain ⟨r, k, hr, hk, hc⟩ := open_key8 e1
  refine ⟨⟨i, r, k, hr⟩, ?_, i64_wf9 wi, hk⟩
  have e : cs = cs.take 1 ++ cs.drop 1 := (List.take_append_drop 1 cs).symm
  have e2 : (cs.drop 1).take 33 = cs.drop 1 := List.take_of_length_le (by rw [List.length_drop, hl]; omega)
  rw [e, hi, ← e2, hc]
  rfl
set_option maxRecDepth 100000 in
/-- A configuration that is handed in, its numbers, too. -/
theorem open_cfg15 {b : Nat} (hw : ∀ u ∈ x.1.weights Tryz.prog 24, u ≤ b) (h : DataW.trod enc Tryz.prog w base spare held fuel 24 cs = some x) :
    ∃ (ep : Int) (A : Option Addr) (ms : List MemX) (c : Nat), cs = [.int .i64 ep, .slice A ms.length c] ∧ R64 ep ∧ Mems w w.heap.size A ms ∧ ∀ m ∈ ms, R64 m.id ∧ R64 m.high := by
  obtain ⟨xs, m, _, hx, hl, hxl, hf⟩ := DataW.trod_struct Tryz.underlying24 h
  rw [cells_cfg8] at hl
  match xs, hxl with
  | [y0, y1], _ =>
    have h0 : DataW.trod enc Tryz.prog w base spare held m 3 ((cs.drop 0).take (Tryz.prog.cellsOf 3)) = some y0 := hf 0 _ rfl
    have h1 : DataW.trod enc Tryz.prog w base spare held m 22 ((cs.drop 1).take (Tryz.prog.cellsOf 22)) = some y1 := hf 1 _ rfl
    rw [cells_int9] at h0
    rw [cells_mems8] at h1
    subst hx
    simp only [DataW.weights, DataW.weightsEach, Tryz.underlying24, List.map_cons, List.map_nil, List.mem_append, List.not_mem_nil, or_false] at hw
    obtain ⟨r, e0, _, w0⟩ := DataW.trod_int Tryz.underlying3 h0
    obtain ⟨A, ms, c, e1, _, _, hS, _, hP⟩ := open_rowK MK zmem b (fun m => R64 m.id ∧ R64 m.high) cells_mem15 bytes_mem15 (fun n cs y hy _ => open_mem15 hy) (fun u hu => hw u (.inr hu)) h1
    refine ⟨r, A, ms, c, ?_, i64_wf9 w0, hS, hP⟩
    have e : cs = cs.drop 0 := rfl
    rw [e, cut9 cs 0 1, e0, cut9 cs (0 + 1) 1, e1, List.drop_eq_nil_of_le (by omega)]
    rfl
/-- What is known of a link that is handed in. -/
structure LkIn (w : World) (b : Nat) (l : LkM) : Prop where
  blk : BlkIn w b l.b
  crt : CrtIn w b l.A l.vs l.c l.r
  ep : R64 l.ep
  see : Mems w w.heap.size l.M l.ms
  mem : ∀ m ∈ l.ms, R64 m.id ∧ R64 m.high
set_option maxRecDepth 100000 in
theorem LkIn.lk {b : Nat} {l : LkM} (h : LkIn w b l) : LkSee w l := ⟨h.blk.see, h.crt.see, h.crt.sg, h.see⟩
set_option maxRecDepth 100000 in
theorem open_link15 {b : Nat} (hw : ∀ u ∈ x.1.weights Tryz.prog 37, u ≤ b) (h : DataW.trod enc Tryz.prog w base spare held fuel 37 cs = some x) :
    ∃ l : LkM, cs = l.cells ∧ LkIn w b l := by
  obtain ⟨xs, m, _, hx, hl, hxl, hf⟩ := DataW.trod_struct Tryz.underlying37 h
  rw [cells_link15] at hl
  match xs, hxl with
  | [y0, y1, y2], _ =>
    have h0 : DataW.trod enc Tryz.prog w base spare held m 32 ((cs.drop 0).take (Tryz.prog.cellsOf 32)) = some y0 := hf 0 _ rfl
    have h1 : DataW.trod enc Tryz.prog w base spare held m 35 ((cs.drop 99).take (Tryz.prog.cellsOf 35)) = some y1 := hf 1 _ rfl
    have h2 : DataW.trod enc Tryz.prog w base spare held m 24 ((cs.drop 101).take (Tryz.prog.cellsOf 24)) = some y2 := hf 2 _ rfl
    rw [cells_block12] at h0
    rw [cells_cert14] at h1
    rw [cells_cfg8] at h2
    subst hx
    simp only [DataW.weights, DataW.weightsEach, Tryz.underlying37, List.map_cons, List.map_nil, List.mem_append, List.not_mem_nil, or_false] at hw
    obtain ⟨bm, e0, hB⟩ := open_blk12 (b := b) (fun u hu => hw u (.inl hu)) h0
    obtain ⟨r, A, vs, c, e1, hC⟩ := open_cert14 (b := b) (fun u hu => hw u (.inr (.inl hu))) h1
    obtain ⟨ep, M, ms, mc, e2, hE, hS, hP⟩ := open_cfg15 (b := b) (fun u hu => hw u (.inr (.inr hu))) h2
    refine ⟨⟨bm, r, vs, A, c, ep, ms, M, mc⟩, ?_, ⟨hB, hC, hE, hS, hP⟩⟩
    have e : cs = cs.drop 0 := rfl
    rw [e, cut9 cs 0 99, e0, cut9 cs (0 + 99) 2, e1, cut9 cs (0 + 99 + 2) 2, e2, List.drop_eq_nil_of_le (by omega)]
    show _ = lkL _ _ _ _ _
    unfold lkL
    simp
end
end Go.Proofs.YtbclepdcngaonaaGreatDoor
