/-
  Package tree: Path.
  Package tree: Check.
  Paths on plain lists: each leaf checks by its own; by a path of another length, or under another root, it doesn't.
-/
import Derived.Test.YtapdnoellleimaaDoorTU
namespace Go.Proofs.YtapdnoellleimaaDoor
open Go.RowKit

attribute [local go_sem ↓] ldDigest_def stDigest_def apAll_def

/-- The path of a leaf. -/
def pathT (ds : List (List UInt8)) (n : Nat) : List (List UInt8) := way pT (shaOf []) ds n
theorem pathT_all : ∀ (N : Nat) (ds : List (List UInt8)) (n : Nat), ds.length ≤ N → AllD ds → AllD (pathT ds n)
  | 0, ds, n, hN, _ => by
    unfold pathT
    rw [way_one pT _ (by omega)]
    exact AllD.nil
  | N + 1, ds, n, hN, h => by
    unfold pathT
    by_cases hl : ds.length ≤ 1
    · rw [way_one pT _ hl]
      exact AllD.nil
    · rw [way_up pT _ (by omega)]
      refine AllD.append ?_ (pathT_all N _ _ (by rw [up_length]; omega) h.up)
      split
      · rename_i hs
        exact AllD.one (h.get hs _)
      · exact AllD.nil
theorem AllD.path {ds : List (List UInt8)} (h : AllD ds) (n : Nat) : AllD (pathT ds n) := pathT_all _ ds n (Nat.le_refl _) h

/-- What Path answers for a leaf that is there. -/
def PathIs (w0 : World) (ps : List (List UInt8)) (e : Ending) (w : World) : Prop := ∃ A c, e = .returned (.tuple #[.slice A ps.length c, .bool true]) ∧ PaW w0 (.slice A ps.length c) ps w

end Go.Proofs.YtapdnoellleimaaDoor

namespace Go.Proofs.YtapdnoellleimaaDoor
open Go.RowKit

attribute [local go_sem ↓] ldDigest_def stDigest_def

/-- Does a path lead to the root? -/
def checkT (root leaf : List UInt8) (n count : Nat) (ps : List (List UInt8)) : Bool := decide (ends pT n count leaf ps = some root)

theorem ends_first {k cnt : Nat} (h : 1 < cnt) (hs : sib k < cnt) (own : List UInt8) : ∀ {qs : List (List UInt8)}, 0 < qs.length → ends pT k cnt own qs = ends pT (k / 2) ((cnt + 1) / 2) (meet pT k own (qs.getD 0 [])) (qs.drop 1)
  | [], hq => by simp at hq
  | x :: r, _ => ends_cons pT h hs own x r

/-- What the walk of Check carries of memory. -/
structure CkW (w0 : World) (b : Nat) (root own : List UInt8) (w : World) : Prop where
  root : Box w w0.heap.size 89 (root.map bv).toArray
  own : Box w b 89 (own.map bv).toArray
  far : Below w0.heap.size w0 w
  high : w0.heap.size < b
theorem CkW.call {w0 w w' : World} {b : Nat} {root own : List UInt8} (h : CkW w0 b root own w) (hb : Below w.heap.size w w') : CkW w0 b root own w' := ⟨h.root.below hb h.root.lt, h.own.below hb h.own.lt, h.far.trans (hb.mono h.far.size), h.high⟩
theorem CkW.drew {w0 w : World} {b : Nat} {root own : List UInt8} (h : CkW w0 b root own w) : CkW w0 b root own w.drew := ⟨h.root, h.own, h.far.drew, h.high⟩
theorem CkW.put {w0 w : World} {b : Nat} {root own own' : List UInt8} (h : CkW w0 b root own w) (hl : own.length = 32) (hl' : own'.length = 32) : CkW w0 b root own' (w.setCells b 0 (own'.map bv)) := by
  have hh := h.high
  exact ⟨h.root.grown (only_cells _ _ _) (fun e => by injection e with e; omega), h.own.cells_dig (by rw [List.size_toArray, List.length_map, hl]) hl', below_cells h.far (by omega) h.far.size _ _, hh⟩

end Go.Proofs.YtapdnoellleimaaDoor

namespace Go.Proofs.YtapdnoellleimaaDoor
open Go.RowKit

theorem pathT_steps (ds : List (List UInt8)) (n : Nat) (h : n < ds.length) : (pathT ds n).length = steps n ds.length := way_steps pT (shaOf []) ds n h
theorem pathT_pow (ds : List (List UInt8)) (n : Nat) (h : n < ds.length) : 2 ^ (pathT ds n).length < 2 * ds.length := by
  rw [pathT_steps ds n h]
  exact steps_lt ds.length ds.length n (Nat.le_refl _) (by omega)
theorem pathT_short (ds : List (List UInt8)) (n : Nat) (h : n < ds.length) : (pathT ds n).length < 2 * ds.length :=
  Nat.lt_of_lt_of_le Nat.lt_two_pow_self (Nat.le_of_lt (pathT_pow ds n h))
theorem check_own (ds : List (List UInt8)) (n : Nat) (h : n < ds.length) : checkT (rootT ds) (ds.getD n []) n ds.length (pathT ds n) = true := by
  unfold checkT
  have e : ds.getD n [] = ds.getD n (shaOf []) := by
    rw [List.getD_eq_getElem?_getD, List.getD_eq_getElem?_getD, List.getElem?_eq_getElem h]
    rfl
  have hw : ends pT n ds.length (ds.getD n (shaOf [])) (pathT ds n) = some (rootT ds) := way_ends pT (shaOf []) ds.length ds n (Nat.le_refl _) h
  rw [e, hw]
  exact decide_eq_true rfl
theorem check_long (r lf : List UInt8) (ds : List (List UInt8)) (n : Nat) (h : n < ds.length) (qs : List (List UInt8)) (hl : qs.length ≠ (pathT ds n).length) : checkT r lf n ds.length qs = false := by
  unfold checkT
  rw [ends_not pT (by rw [← pathT_steps ds n h]; exact hl)]
  exact decide_eq_false (by simp)
theorem check_other (o : List UInt8) (ds : List (List UInt8)) (n : Nat) (h : n < ds.length) (ho : o ≠ rootT ds) : checkT o (ds.getD n []) n ds.length (pathT ds n) = false := by
  have h1 := check_own ds n h
  unfold checkT at h1 ⊢
  rw [of_decide_eq_true h1]
  exact decide_eq_false (fun e => ho (by injection e with e; exact e.symm))
end Go.Proofs.YtapdnoellleimaaDoor
