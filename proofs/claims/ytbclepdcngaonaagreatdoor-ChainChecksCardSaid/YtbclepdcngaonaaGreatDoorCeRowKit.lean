/-
  Opening the handed arguments of cert's laws: words.
-/
import Derived.Test.YtbclepdcngaonaaGreatDoorVoRowKit
import Derived.Test.YtbclepdcngaonaaGreatDoorBlRowKit
import Derived.Test.YtbclepdcngaonaaGreatDoorRX
import Derived.Test.YtbclepdcngaonaaGreatDoorEA
namespace Go.Proofs.YtbclepdcngaonaaGreatDoor
open Go.ChangeShapes Go.WideShapes Go.ChangeAt Go.RowKit Go.Deep

section
variable {H : Type} {enc : TypeId × Value → H} {w : World} {base : Nat} {spare : Nat → Bool} {held : Bool} {fuel : Nat} {cs : List Value} {x : DataW H × List MemPlace}
set_option maxRecDepth 100000 in
theorem cells_cert14 : Tryz.prog.cellsOf 35 = 2 := by kernel_rfl
set_option maxRecDepth 100000 in
theorem cells_votes14 : Tryz.prog.cellsOf 33 = 1 := by kernel_rfl
/-- What is known of a word that is handed in. -/
structure CrtIn (w : World) (b : Nat) (A : Option Addr) (vs : List VtM) (c : Nat) (r : Int) : Prop where
  round : R64 r
  cap : vs.length ≤ c
  len : vs.length * 152 ≤ b
  see : VtK.See w w.heap.size A vs
  votes : ∀ m ∈ vs, VtIn w b m
set_option maxRecDepth 100000 in
theorem CrtIn.sg {b c : Nat} {A : Option Addr} {vs : List VtM} {r : Int} (h : CrtIn w b A vs c r) : ∀ m ∈ vs, SgSee w m.sg := fun m hm => ⟨(h.votes m hm).see.opn, (h.votes m hm).see.sht, (h.votes m hm).see.pth, (h.votes m hm).cap⟩
set_option maxRecDepth 100000 in
theorem open_cert14 {b : Nat} (hw : ∀ u ∈ x.1.weights Tryz.prog 35, u ≤ b) (h : DataW.trod enc Tryz.prog w base spare held fuel 35 cs = some x) :
    ∃ (r : Int) (A : Option Addr) (vs : List VtM) (c : Nat), cs = [.int .i64 r, .slice A vs.length c] ∧ CrtIn w b A vs c r := by
  obtain ⟨xs, m, _, hx, hl, hxl, hf⟩ := DataW.trod_struct Tryz.underlying35 h
  rw [cells_cert14] at hl
  match xs, hxl with
  | [y0, y1], _ =>
    have h0 : DataW.trod enc Tryz.prog w base spare held m 3 ((cs.drop 0).take (Tryz.prog.cellsOf 3)) = some y0 := hf 0 _ rfl
    have h1 : DataW.trod enc Tryz.prog w base spare held m 33 ((cs.drop 1).take (Tryz.prog.cellsOf 33)) = some y1 := hf 1 _ rfl
    rw [cells_int9] at h0
    rw [cells_votes14] at h1
    subst hx
    simp only [DataW.weights, DataW.weightsEach, Tryz.underlying35, List.map_cons, List.map_nil, List.mem_append, List.not_mem_nil, or_false] at hw
    obtain ⟨r, e0, _, w0⟩ := DataW.trod_int Tryz.underlying3 h0
    obtain ⟨A, vs, c, e1, hlc, _, hS, hlb, hP⟩ := open_rowK VtK zvt b (fun m => VtIn w b m) cells_vote13 bytes_vote13 (fun n cs y hy hu => open_vote13 hu hy) (fun u hu => hw u (.inr hu)) h1
    refine ⟨r, A, vs, c, ?_, ⟨i64_wf9 w0, hlc, hlb, hS, hP⟩⟩
    have e : cs = cs.drop 0 := rfl
    rw [e, cut9 cs 0 1, e0, cut9 cs (0 + 1) 1, e1, List.drop_eq_nil_of_le (by omega)]
    rfl
end
end Go.Proofs.YtbclepdcngaonaaGreatDoor
