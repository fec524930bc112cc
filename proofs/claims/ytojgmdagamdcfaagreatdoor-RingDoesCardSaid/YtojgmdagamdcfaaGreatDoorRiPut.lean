/-
  An entry of a ring is written: one of its bools, its next number; a key is told as cells.
-/
import Derived.Test.YtojgmdagamdcfaaGreatDoorRiFind
namespace Go.Proofs.YtojgmdagamdcfaaGreatDoor
open Go.RowKit Go.Maps

set_option maxRecDepth 100000 in
/-- A ring's calls keep the table. -/
theorem Roots.of_below' {B : Nat} {w w' : World} (h : Roots w) (f : RFrame B w w') (hB : B ≤ w.heap.size) (hl : 1 < B) : Roots w' := h.below (f.below hB) hl

set_option maxRecDepth 100000 in
/-- .. and a block that is new. -/
theorem RFrame.new {B g : Nat} {a w w' : World} (h : RFrame B a w) (hg : w.grownBy w' (some g)) (hn : a.heap.size ≤ g) : RFrame B a w' :=
  ⟨hg.os.trans h.os, hg.tape.trans h.tape, hg.output.trans h.output, Nat.le_trans h.size hg.size, fun i hi hr => (hg.block i (Nat.lt_of_lt_of_le hi h.size) (fun e => by injection e with e; omega)).trans (h.block i hi hr)⟩
set_option maxRecDepth 100000 in
theorem RFrame.alloc {B : Nat} {a w : World} (h : RFrame B a w) (o : Obj) : RFrame B a (w.alloc o) := h.trans (RFrame.of_below ((Below.refl _ _).alloc (Nat.le_refl _) o))

def Ent.opened (e : Ent) (i : Nat) (b : Bool) : Ent := { e with opens := e.opens.set i b }
def Ent.nexted (e : Ent) (x : Nat) : Ent := { e with next := x }
set_option maxRecDepth 100000 in
theorem like_opened (e : Ent) (i : Nat) (b : Bool) : Like e (e.opened i b) := ⟨rfl, rfl, rfl, rfl, rfl, rfl⟩
set_option maxRecDepth 100000 in
theorem like_nexted (e : Ent) (x : Nat) : Like e (e.nexted x) := ⟨rfl, rfl, rfl, rfl, rfl, rfl⟩

set_option maxRecDepth 100000 in
theorem EntW.put_open {w : World} {e : Ent} (h : EntW w e) (i : Nat) (b : Bool) : EntW (w.setCell ⟨e.ob, i, none⟩ (.bool b)) (e.opened i b) := by
  refine ⟨h.seed, h.high, by simp only [Ent.opened, List.length_set]; exact h.many, h.next, h.stock.aside (fun e1 => Box.apart h.stock h.opens (by decide) e1) _, ?_, ⟨h.tree.tree.aside (fun e1 => Box.apart h.tree.tree h.opens (by decide) e1) _, h.tree.leaves.aside (fun e1 => Box.apart h.tree.leaves h.opens (by decide) e1) _⟩⟩
  have hp := h.opens.put i (.bool b)
  unfold boolsV at hp ⊢
  simp only [Ent.opened, List.map_set]
  rwa [List.setIfInBounds_toArray] at hp
set_option maxRecDepth 100000 in
theorem EntW.put_next {w : World} {e : Ent} (h : EntW w e) (x : Nat) (hx : x ≤ 2 ^ e.h) : EntW (w.setCell ⟨e.sb, 1, none⟩ (.int .i64 (x : Int))) (e.nexted x) := by
  refine ⟨h.seed, h.high, h.many, hx, ?_, h.opens.aside (fun e1 => Box.apart h.opens h.stock (by decide) e1) _, ⟨h.tree.tree.aside (fun e1 => Box.apart h.tree.tree h.stock (by decide) e1) _, h.tree.leaves.aside (fun e1 => Box.apart h.tree.leaves h.stock (by decide) e1) _⟩⟩
  exact h.stock.put 1 (.int .i64 (x : Int))
set_option maxRecDepth 100000 in
theorem only_cell (w : World) (g i : Nat) (v : Value) : w.grownBy (w.setCell ⟨g, i, none⟩ v) (some g) := only_put (only_refl w _) i v
set_option maxRecDepth 100000 in
theorem RingW.put_open {w : World} {B rb mb n : Nat} {es : List Ent} (h : RingW w B rb mb n es) {e : Ent} (he : e ∈ es) (i : Nat) (b : Bool) : RingW (w.setCell ⟨e.ob, i, none⟩ (.bool b)) B rb mb n (upd es (e.opened i b)) :=
  h.turn he (like_opened e i b) (only_cell _ _ _ _) (.inr rfl) ((h.ents e he).put_open i b)
set_option maxRecDepth 100000 in
theorem RingW.put_next {w : World} {B rb mb n : Nat} {es : List Ent} (h : RingW w B rb mb n es) {e : Ent} (he : e ∈ es) (x : Nat) (hx : x ≤ 2 ^ e.h) : RingW (w.setCell ⟨e.sb, 1, none⟩ (.int .i64 (x : Int))) B rb mb n (upd es (e.nexted x)) :=
  h.turn he (like_nexted e x) (only_cell _ _ _ _) (.inl rfl) ((h.ents e he).put_next x hx)
set_option maxRecDepth 100000 in
theorem stock_obj {w : World} {g : Nat} {cs : Array Value} (h : Box w g 68 cs) : ringObj w.heap[g]? = true := by
  unfold Box at h
  rw [h]
  simp [ringObj]
set_option maxRecDepth 100000 in
theorem bools_obj {w : World} {g : Nat} {cs : Array Value} (h : Box w g 4 cs) : ringObj w.heap[g]? = true := by
  unfold Box at h
  rw [h]
  simp [ringObj]
set_option maxRecDepth 100000 in
theorem map_obj {w : World} {g : Nat} {es : Array MapEntry} {c : Nat} (h : w.heap[g]? = some (.map es c)) : ringObj w.heap[g]? = true := by
  rw [h]
  rfl
set_option maxRecDepth 100000 in
theorem RingW.frame_open {w : World} {B rb mb n : Nat} {es : List Ent} (h : RingW w B rb mb n es) {e : Ent} (he : e ∈ es) (i : Nat) (v : Value) : RFrame B w (w.setCell ⟨e.ob, i, none⟩ v) :=
  RFrame.of_grown (only_cell _ _ _ _) (h.low.2 e he).2 (bools_obj (h.ents e he).opens)
set_option maxRecDepth 100000 in
theorem RingW.frame_next {w : World} {B rb mb n : Nat} {es : List Ent} (h : RingW w B rb mb n es) {e : Ent} (he : e ∈ es) (i : Nat) (v : Value) : RFrame B w (w.setCell ⟨e.sb, i, none⟩ v) :=
  RFrame.of_grown (only_cell _ _ _ _) (h.low.2 e he).1 (stock_obj (h.ents e he).stock)
set_option maxRecDepth 100000 in
theorem opened_mem {es : List Ent} {e : Ent} (he : e ∈ es) (i : Nat) (b : Bool) : e.opened i b ∈ upd es (e.opened i b) := upd_mem he rfl
set_option maxRecDepth 100000 in
theorem EntW.pow {w : World} {e : Ent} (h : EntW w e) : 2 ^ e.h ≤ 64 := Nat.le_trans (Nat.pow_le_pow_right (by decide) h.high) (by decide)
set_option maxRecDepth 100000 in
theorem EntW.c0 {w : World} {e : Ent} (h : EntW w e) : w.cell? ⟨e.sb, 0, none⟩ = some (.pointer (some ⟨e.tb, 0, none⟩)) := h.stock.cell 0
set_option maxRecDepth 100000 in
theorem EntW.c1 {w : World} {e : Ent} (h : EntW w e) : w.cell? ⟨e.sb, 1, none⟩ = some (.int .i64 (e.next : Int)) := h.stock.cell 1
set_option maxRecDepth 100000 in
theorem EntW.c2 {w : World} {e : Ent} (h : EntW w e) : w.cell? ⟨e.sb, 2, none⟩ = some (.slice (some ⟨e.ob, 0, none⟩) (2 ^ e.h) (2 ^ e.h)) := h.stock.cell 2
set_option maxRecDepth 100000 in
theorem EntW.co {w : World} {e : Ent} (h : EntW w e) {i : Nat} (hi : i < 2 ^ e.h) : w.cell? ⟨e.ob, i, none⟩ = some (.bool (e.opens.getD i false)) := by
  have hl : i < e.opens.length := by rw [h.many]; exact hi
  rw [h.opens.cell]
  unfold boolsV
  rw [List.getElem?_toArray, List.getElem?_map, List.getD_eq_getElem?_getD, List.getElem?_eq_getElem hl]
  rfl
end Go.Proofs.YtojgmdagamdcfaaGreatDoor
