/-
  Signatures compared (wapentakeref04.Same), digests compared at a step of a drawn region.
  A secret: once.secret.
  The document's secret and public half (wapentakeref04.Secret, Public).
-/
import Derived.Test.YtapdnoellleimaaDoorTG
import Derived.Test.YtapdnoellleimaaDoorSRef
import Derived.Test.YtapdnoellleimaaDoorSD
import Derived.Test.YtapdnoellleimaaDoorOB
import Derived.Test.YtapdnoellleimaaDoorWr
import Derived.Deep.RegionHeld3
import Derived.Test.YtapdnoellleimaaDoorOX
namespace Go.Proofs.YtapdnoellleimaaDoor
open Go.RowKit

/-- Digests compared, kept whole while a region is walked. -/
noncomputable def eqDigest (a b : Value) : Sem Bool := Op.equalIn 10000 89 a b
theorem eqDigest_def (a b : Value) : Op.equalIn 10000 89 a b = eqDigest a b := rfl
theorem eq_digest (xs ys : List UInt8) (h1 : xs.length = 32) (h2 : ys.length = 32) (w : World) : (eqDigest (.agg (xs.map bv).toArray) (.agg (ys.map bv).toArray)).run Tryd.prog w = .ok (decide (xs = ys)) w := dig_eq xs ys h1 h2 w

section
attribute [local go_sem ↓] eqDigest_def
set_option maxRecDepth 100000 in
/-- Two digests compared, at a step of a region that draws its order. -/
theorem step_eq_dig {ops : Array Oper} {o : Oper} {a : Act} {w : World} {K : Act → World → Prop} {Q : Exit → Act → World → Prop} {E : Prop} (hgd : o.guard = none) (x y : Operand) (ho : o.op = .binOp .eql 89 x y 89)
    (p q : List UInt8) (hx : a.eval x = .agg (p.map bv).toArray) (hy : a.eval y = .agg (q.map bv).toArray) (hp : p.length = 32) (hq : q.length = 32) (h : K (a.put o.dst (.bool (decide (p = q)))) w) :
    if Region.wanted o (yielded ops a.tmps) = true then Oper.wp Tryd.prog o a w K Q else E := by
  have hw : Region.wanted o (yielded ops a.tmps) = true := by simp [Region.wanted, hgd]
  rw [if_pos hw]
  have he := eq_digest p q hp hq w
  unfold Oper.wp execOp
  simp only [ho, hx, hy]
  go_simp
  exact h
set_option maxRecDepth 100000 in
/-- The same where the operation is guarded, and wanted. -/
theorem step_eq_dig_if {o : Oper} {a : Act} {w : World} {K : Act → World → Prop} {Q : Exit → Act → World → Prop} (x y : Operand) (ho : o.op = .binOp .eql 89 x y 89)
    (p q : List UInt8) (hx : a.eval x = .agg (p.map bv).toArray) (hy : a.eval y = .agg (q.map bv).toArray) (hp : p.length = 32) (hq : q.length = 32) (h : K (a.put o.dst (.bool (decide (p = q)))) w) :
    Oper.wp Tryd.prog o a w K Q := by
  have he := eq_digest p q hp hq w
  unfold Oper.wp execOp
  simp only [ho, hx, hy]
  go_simp
  exact h
end

end Go.Proofs.YtapdnoellleimaaDoor

namespace Go.Proofs.YtapdnoellleimaaDoor
open Go.RowKit

attribute [local go_sem ↓] ldDigest_def stDigest_def

/-- What Bytes answers. -/
def BytesIs (w : World) (bs : List UInt8) (e : Ending) (w' : World) : Prop := ∃ A c, e = .returned (.slice A bs.length c) ∧ bs.length ≤ c ∧ c ≤ maxLen ∧ Sees w' w'.heap.size A (bs.map bv) ∧ Below w.heap.size w w'
theorem bytes_any (base a : Nat) (bs : List UInt8) (w : World) (h : Wr w base a bs) (hb : bs.length ≤ 70368744177664) :
    Calls Tryd.prog 67 #[.pointer (some ⟨a, 0, none⟩)] w (BytesIs w bs) :=
  (wbytes_any base a bs w h hb).mono fun e w' ⟨A, c, he, hc, ho, hB⟩ => by
    refine ⟨A, c, he, ?_, hc, ?_, hB⟩
    · rcases ho with rfl | ho
      · exact Nat.zero_le _
      · rcases ho.2 with ⟨h1, h2⟩ | ⟨g, cap, cur, h1, _, _, hn, _⟩
        · rw [h2]
          exact Nat.zero_le _
        · injection h1 with _ _ e3
          rw [e3]
          exact hn
    · rcases ho with rfl | ho
      · exact Sees.empty _ _ _
      · exact Sees.of_own ho
theorem wr_new {w : World} {base a : Nat} (ha : Box w a 106 #[.slice none 0 0]) (hba : base ≤ a) : Wr w base a [] :=
  ⟨hba, Nat.le_trans hba (Nat.le_of_lt ha.lt), .slice none 0 0, ha, rfl, .inl ⟨rfl, rfl⟩⟩

theorem three_made {w : World} {t : TypeId} {b s bs : List UInt8} {g1 g2 c : Nat} {t1 t2 : TypeId} {A : Option Addr} (hb : Box w g1 t1 (b.map bv).toArray) (hs : Box w g2 t2 (s.map bv).toArray) (hbm : b.length ≤ 32) (hl : s.length = 32) (h : Sees w w.heap.size A (bs.map bv)) (hc : bs.length ≤ c) (hm : c ≤ maxLen) {n : Nat} (hn : w.heap.size = n) :
    Pieces (w.alloc (.cells #[.slice (some ⟨g1, 0, none⟩) b.length b.length, .slice (some ⟨g2, 0, none⟩) 32 32, .slice A bs.length c] t)) (w.alloc (.cells #[.slice (some ⟨g1, 0, none⟩) b.length b.length, .slice (some ⟨g2, 0, none⟩) 32 32, .slice A bs.length c] t)).heap.size (some ⟨n, 0, none⟩) [b, s, bs] := by
  subst hn
  have hF : Below w.heap.size w (w.alloc (.cells #[.slice (some ⟨g1, 0, none⟩) b.length b.length, .slice (some ⟨g2, 0, none⟩) 32 32, .slice A bs.length c] t)) := (Below.refl _ _).alloc (Nat.le_refl _) _
  have hB : Box (w.alloc (.cells #[.slice (some ⟨g1, 0, none⟩) b.length b.length, .slice (some ⟨g2, 0, none⟩) 32 32, .slice A bs.length c] t)) w.heap.size t #[.slice (some ⟨g1, 0, none⟩) b.length b.length, .slice (some ⟨g2, 0, none⟩) 32 32, .slice A bs.length c] := Box.made _ _ _
  exact Pieces.three (by rw [hl]; exact hB) hB.lt (Nat.le_refl _) (by unfold maxLen; omega) (Sees.of_box (hb.below hF hb.lt) (hb.below hF hb.lt).lt) (by omega) (by simp [maxLen]) (Sees.of_box (hs.below hF hs.lt) (hs.below hF hs.lt).lt) hc hm ((h.below hF).more hF.size)

end Go.Proofs.YtapdnoellleimaaDoor

namespace Go.Proofs.YtapdnoellleimaaDoor
open Go.RowKit

/-- The digests of the secrets ahead of k, one behind the other. -/
def rowT (seed : List UInt8) (leaf : Int) (k : Nat) : List UInt8 := (List.range k).flatMap fun j => shaOf (secT seed leaf j)
theorem rowT_succ (seed : List UInt8) (leaf : Int) (k : Nat) : rowT seed leaf (k + 1) = rowT seed leaf k ++ shaOf (secT seed leaf k) := by
  unfold rowT
  rw [List.range_succ, List.flatMap_append]
  simp
theorem rowT_len (seed : List UInt8) (leaf : Int) : ∀ k, (rowT seed leaf k).length = 32 * k
  | 0 => rfl
  | k + 1 => by
    rw [rowT_succ, List.length_append, rowT_len seed leaf k, sha_len]
    omega

end Go.Proofs.YtapdnoellleimaaDoor
