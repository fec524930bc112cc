/-
  StateLists.
-/
import Derived.Test.YtbgbidgggjkmmaaGreatDoorStAlive
import Derived.Test.YtbgbidgggjkmmaaGreatDoorNG
namespace Go.Proofs.YtbgbidgggjkmmaaGreatDoor
open Go.RowKit Go.Sort

def qList (c n : Int) (p : ByteArray) : ReqX := ⟨c, n, 5, p, ⟨#[]⟩, ⟨#[]⟩, 0, 0, 0, zeros, 0, zeros_len⟩
set_option maxRecDepth 100000 in
theorem bd_opL (c n : Int) (p : ByteArray) (w : World) : (bdOp10 #[(0, .int .i64 5), (1, .string p)]).run Tryz.prog w = .ok (.agg (opL (qList c n p)).toArray) w := run_build w _ _ _ (by kernel_rfl)
set_option maxRecDepth 100000 in
theorem bd_qL (c n : Int) (p : ByteArray) (w : World) : (bdReq #[(0, .int .i64 c), (1, .int .i64 n), (2, .agg (opL (qList c n p)).toArray)]).run Tryz.prog w = .ok (.agg (qList c n p).cells.toArray) w := run_build w _ _ _ (by kernel_rfl)

set_option maxRecDepth 100000 in
theorem lists_plain {s s' : StX} {c n : Int} {p : ByteArray} {a r : RepX} {b : Bool} (h : ExeIs s (qList c n p) s' a) (hg : reqGood (qList c n p) = true) (hl : rLook c s.rs = if b = true then some r else none) (hn : ¬ (b = true ∧ n ≤ r.num)) : a.code = 0 ∧ a.vals = begunL p s.ps ∧ s'.ps = s.ps := by
  have e := h.det (fun _ => (by decide : (5 : Int) ≤ 5))
  unfold exeF at e
  rw [if_pos hg] at e
  have hl' : rLook (qList c n p).client s.rs = if b = true then some r else none := hl
  rw [hl'] at e
  have e5 : opF s (qList c n p) = (s, 0, begunL p s.ps) := by
    unfold opF
    have e2 : ¬ (qList c n p).kind = 2 := (by decide : ¬ (5 : Int) = 2)
    have e3 : (qList c n p).kind = 5 := rfl
    rw [if_neg e2, if_pos e3]
    rfl
  rw [e5] at e
  cases b with
  | false =>
    simp only [Bool.false_eq_true, if_false] at e
    injection e with e1 e2
    rw [e1, e2]
    exact ⟨rfl, rfl, rfl⟩
  | true =>
    have h1 : ¬ r.num = n := fun e => hn ⟨rfl, by omega⟩
    have h2 : ¬ n < r.num := fun e => hn ⟨rfl, by omega⟩
    simp only [if_true] at e
    have h1' : ¬ r.num = (qList c n p).num := h1
    have h2' : ¬ (qList c n p).num < r.num := h2
    rw [if_neg h1', if_neg h2'] at e
    injection e with e1 e2
    rw [e1, e2]
    exact ⟨rfl, rfl, rfl⟩

set_option maxRecDepth 100000 in
theorem begun_at (p : ByteArray) (l : List PairX) (k : Nat) (h : k < l.length) (hb : beginsB p (l[k]'h).key = true) : ∃ hm : (begunL p (l.take k)).length < (begunL p l).length, (begunL p l)[(begunL p (l.take k)).length]'hm = (l[k]'h).key := by
  have e : begunL p l = begunL p (l.take k) ++ ((l[k]'h).key :: begunL p (l.drop (k + 1))) := by
    unfold begunL
    conv => lhs; rw [← List.take_append_drop k l, List.filter_append, List.map_append]
    rw [List.drop_eq_getElem_cons h, List.filter_cons, if_pos hb]
    rfl
  refine ⟨by rw [e]; simp, ?_⟩
  rw [List.getElem_of_eq e, List.getElem_append_right (Nat.le_refl _)]
  simp
set_option maxRecDepth 100000 in
/-- A state and a reply are laid, side by side. -/
theorem laid_strp (w : World) (s' : StM) (c n k : Int) (A : Option Addr) (m z : Nat) : ∃ w1 w2,
    (stSt (.pointer (some ⟨w.heap.size, 0, none⟩)) (.agg s'.cells)).run Tryz.prog ((w.alloc (.cells (stV none 0 0 none 0 0 0 none 0 0) 28)).alloc (.cells (repv 0 0 0 none 0 0) 36)) = .ok () w1
    ∧ (stRp (.pointer (some ⟨w.heap.size + 1, 0, none⟩)) (.agg (repv c n k A m z))).run Tryz.prog w1 = .ok () w2
    ∧ Box w2 w.heap.size 28 s'.cells ∧ Box w2 (w.heap.size + 1) 36 (repv c n k A m z) ∧ Below w.heap.size w w2 := by
  have hal : Below w.heap.size w ((w.alloc (.cells (stV none 0 0 none 0 0 0 none 0 0) 28)).alloc (.cells (repv 0 0 0 none 0 0) 36)) := ((Below.refl _ _).alloc (Nat.le_refl _) _).alloc (by simp) _
  have hx := (Box.made w 28 (stV none 0 0 none 0 0 0 none 0 0)).alloc (.cells (repv 0 0 0 none 0 0) 36)
  have hy : Box ((w.alloc (.cells (stV none 0 0 none 0 0 0 none 0 0) 28)).alloc (.cells (repv 0 0 0 none 0 0) 36)) (w.heap.size + 1) 36 (repv 0 0 0 none 0 0) := Box.made_at (by simp) _ _
  obtain ⟨w1, h1, hb1, hg1⟩ := hx.s_st rfl s'.pA s'.ps.length s'.pc s'.rA s'.rs.length s'.rc s'.ep s'.mA s'.ms.length s'.mc
  have hy1 := hy.grown hg1 (fun e => by injection e with e; omega)
  obtain ⟨w2, h2, hb2, hg2⟩ := hy1.s_rp rfl c n k A m z
  have hf1 := hal.trans (below_only hg1 (Nat.le_refl _) hal.size)
  exact ⟨w1, w2, h1, h2, hb1.grown hg2 (fun e => by injection e with e; omega), hb2, hf1.trans (below_only hg2 (by omega) hf1.size)⟩

attribute [local go_sem ↓] ldRp_def stRp_def ldSt_def stSt_def ldReq_def stReq_def bdReq_def bdOp10_def ldPr_def stPr_def

end Go.Proofs.YtbgbidgggjkmmaaGreatDoor
