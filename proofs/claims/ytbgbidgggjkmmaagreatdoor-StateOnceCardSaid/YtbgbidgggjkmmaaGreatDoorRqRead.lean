/-
  Requests read: request.readWhose, request.readChange, request.Read.
-/
import Derived.Test.YtbgbidgggjkmmaaGreatDoorRqWrite
import Derived.Test.YtbgbidgggjkmmaaGreatDoorRd
namespace Go.Proofs.YtbgbidgggjkmmaaGreatDoor
open Go.RowKit

/-! ### A block that is filled while a reader is turned -/
structure QW (R : World → Nat → List UInt8 → Bool → Prop) (T : TypeId) (Z : Array Value) (w0 : World) (a r b : Nat) (cs : Array Value) (s : List UInt8 × Bool) (w : World) : Prop where
  out : Box w r T Z
  box : Box w b T cs
  rd : R w a s.1 s.2
  far : w0.grownBy w (some a)
  ha : a < w0.heap.size
  hr : w0.heap.size ≤ r
  hb : w0.heap.size ≤ b
  ne : r ≠ b
set_option maxRecDepth 100000 in
theorem QW.turn {R : World → Nat → List UInt8 → Bool → Prop} {T : TypeId} {Z : Array Value} {w0 w w' : World} {a r b : Nat} {cs : Array Value} {s s' : List UInt8 × Bool} (h : QW R T Z w0 a r b cs s w) (hg : w.grownBy w' (some a)) (hr : R w' a s'.1 s'.2) : QW R T Z w0 a r b cs s' w' :=
  ⟨h.out.grown hg (by have := h.ha; have := h.hr; intro e; cases e; omega), h.box.grown hg (by have := h.ha; have := h.hb; intro e; cases e; omega), hr, only_trans h.far hg, h.ha, h.hr, h.hb, h.ne⟩
set_option maxRecDepth 100000 in
theorem QW.put {R : World → Nat → List UInt8 → Bool → Prop} {T : TypeId} {Z : Array Value} {w0 w w' : World} {a r b : Nat} {cs cs' : Array Value} {s : List UInt8 × Bool} (h : QW R T Z w0 a r b cs s w)
    (hR : ∀ {w w' : World} {a g : Nat} {l : List UInt8} {b : Bool}, R w a l b → w.grownBy w' (some g) → a < g → R w' a l b) (hb : Box w' b T cs') (hg : w.grownBy w' (some b)) : QW R T Z w0 a r b cs' s w' :=
  ⟨h.out.grown hg (by intro e; cases e; exact h.ne rfl), hb, hR h.rd hg (by have := h.ha; have := h.hb; omega), only_new h.far hg h.hb, h.ha, h.hr, h.hb, h.ne⟩
set_option maxRecDepth 100000 in
theorem rc1_eq (l : List UInt8) (b : Bool) : nuV (rc0 l b).2.1 (rc0 l b).2.2 = rc1 l b := rfl
set_option maxRecDepth 100000 in
theorem rc2_eq (l : List UInt8) (b : Bool) : nuV (rc1 l b).2.1 (rc1 l b).2.2 = rc2 l b := rfl
set_option maxRecDepth 100000 in
theorem rc3_eq (l : List UInt8) (b : Bool) : nuV (rc2 l b).2.1 (rc2 l b).2.2 = rc3 l b := rfl
set_option maxRecDepth 100000 in
theorem rc4_eq (l : List UInt8) (b : Bool) : dgV (rc3 l b).2.1 (rc3 l b).2.2 = rc4 l b := rfl
set_option maxRecDepth 100000 in
theorem pair_eta {α β : Type} (p : α × β) : (p.1, p.2) = p := by cases p; rfl
set_option maxRecDepth 100000 in
theorem rqF_eq (l : List UInt8) (b : Bool) : rqF l b = (rc4 (rq5 l b).2.1 (rq5 l b).2.2).2 := pair_eta _
set_option maxRecDepth 100000 in
theorem rq0_eq (l : List UInt8) (b : Bool) : inV 1 64 l b = rq0 l b := rfl
set_option maxRecDepth 100000 in
theorem rc0_eq (l : List UInt8) (b : Bool) : nuV l b = rc0 l b := rfl
set_option maxRecDepth 100000 in
theorem rq1_eq (l : List UInt8) (b : Bool) : inV 1 1099511627776 (rq0 l b).2.1 (rq0 l b).2.2 = rq1 l b := rfl
set_option maxRecDepth 100000 in
theorem rq2_eq (l : List UInt8) (b : Bool) : inV 1 7 (rq1 l b).2.1 (rq1 l b).2.2 = rq2 l b := rfl
set_option maxRecDepth 100000 in
theorem rq3_eq (l : List UInt8) (b : Bool) : txtV 1024 (rq2 l b).2.1 (rq2 l b).2.2 = rq3 l b := rfl
set_option maxRecDepth 100000 in
theorem rq4_eq (l : List UInt8) (b : Bool) : txtV 1024 (rq3 l b).2.1 (rq3 l b).2.2 = rq4 l b := rfl
set_option maxRecDepth 100000 in
theorem rq5_eq (l : List UInt8) (b : Bool) : txtV 1024 (rq4 l b).2.1 (rq4 l b).2.2 = rq5 l b := rfl
set_option maxRecDepth 100000 in
theorem rqX_good {l : List UInt8} {b : Bool} (h : (rqF l b).2 = false) (hl : (rc4 (rq5 l b).2.1 (rq5 l b).2.2).1.length = 32) : rqX l b = ⟨(rq0 l b).1, (rq1 l b).1, (rq2 l b).1, ⟨(rq3 l b).1.toArray⟩, ⟨(rq4 l b).1.toArray⟩, ⟨(rq5 l b).1.toArray⟩,
    (rc0 (rq5 l b).2.1 (rq5 l b).2.2).1, (rc1 (rq5 l b).2.1 (rq5 l b).2.2).1, (rc2 (rq5 l b).2.1 (rq5 l b).2.2).1, (rc4 (rq5 l b).2.1 (rq5 l b).2.2).1, (rc3 (rq5 l b).2.1 (rq5 l b).2.2).1, hl⟩ := by
  unfold rqX
  rw [if_neg (by rw [h]; simp)]
set_option maxRecDepth 100000 in
theorem rqX_bad {l : List UInt8} {b : Bool} (h : (rqF l b).2 = true) : rqX l b = zreq := by
  unfold rqX
  rw [if_pos h]

/-! ### readWhose -/
/-! ### readChange -/
attribute [local go_sem ↓] ldDigest_def stDigest_def ldChg_def stChg_def ldReq_def stReq_def bdReq_def
end Go.Proofs.YtbgbidgggjkmmaaGreatDoor
