/-
  Blocks on plain lists: their bytes, what is read of bytes, there and back, bytes that are cut. No program, no memory.
  Blocks in memory: their cells, what is loaded, stored and returned.
  Whether a block can be: block.Good, the document's Good.
-/
import Derived.Test.YtbclepdcngaonaaGreatDoorRA
import Derived.Test.YtbclepdcngaonaaGreatDoorNA
import Derived.Test.YtbclepdcngaonaaGreatDoorOC
namespace Go.Proofs.YtbclepdcngaonaaGreatDoor
open Go.RowKit

structure BlkX where
  epoch : Int
  height : Int
  prev : List UInt8
  state : List UInt8
  next : List UInt8
  reqs : List ReqX
  lp : prev.length = 32
  ls : state.length = 32
  ln : next.length = 32
set_option maxRecDepth 100000 in
theorem BlkX.same {x y : BlkX} (h1 : x.epoch = y.epoch) (h2 : x.height = y.height) (h3 : x.prev = y.prev) (h4 : x.state = y.state) (h5 : x.next = y.next) (h6 : x.reqs = y.reqs) : x = y := by
  cases x; cases y; simp_all
set_option maxRecDepth 100000 in
theorem BlkX.eq_iff (x y : BlkX) : x = y ↔ x.epoch = y.epoch ∧ x.height = y.height ∧ x.prev = y.prev ∧ x.state = y.state ∧ x.next = y.next ∧ x.reqs = y.reqs :=
  ⟨fun h => by subst h; exact ⟨rfl, rfl, rfl, rfl, rfl, rfl⟩, fun ⟨h1, h2, h3, h4, h5, h6⟩ => BlkX.same h1 h2 h3 h4 h5 h6⟩
set_option maxRecDepth 100000 in
theorem BlkX.of_parts {x : BlkX} {e h : Int} {p s n : List UInt8} {q : List ReqX} (lp : p.length = 32) (ls : s.length = 32) (ln : n.length = 32) (h1 : e = x.epoch) (h2 : h = x.height) (h3 : p = x.prev) (h4 : s = x.state) (h5 : n = x.next) (h6 : q = x.reqs) : (⟨e, h, p, s, n, q, lp, ls, ln⟩ : BlkX) = x := BlkX.same h1 h2 h3 h4 h5 h6
instance : DecidableEq BlkX := fun x y => decidable_of_iff _ (BlkX.eq_iff x y).symm

/-- Its numbers are ints; its requests can be written. -/
structure BlkX.Wf (x : BlkX) : Prop where
  epoch : R64 x.epoch
  height : R64 x.height
  len : x.reqs.length ≤ 4096
  reqs : ∀ q ∈ x.reqs, q.Wf
set_option maxRecDepth 100000 in
theorem BlkX.Wf.count {x : BlkX} (h : x.Wf) : R64 (x.reqs.length : Int) := by
  have := h.len
  unfold R64
  omega

set_option maxRecDepth 100000 in
theorem zeros_len12 : zeros.length = 32 := rfl
def zblk : BlkX := ⟨0, 0, zeros, zeros, zeros, [], zeros_len12, zeros_len12, zeros_len12⟩

/-- A block's bytes. -/
def blkB (x : BlkX) : List UInt8 := numBytes x.epoch ++ (numBytes x.height ++ (x.prev ++ (x.state ++ (x.next ++ (numBytes (x.reqs.length : Int) ++ x.reqs.flatMap reqB)))))
/-- Can it be? -/
def blkGood (x : BlkX) : Bool :=
  decide (0 ≤ x.epoch ∧ x.epoch ≤ 1073741824) && (decide (1 ≤ x.height ∧ x.height ≤ 1024) && (decide (x.reqs.length ≤ 8) && x.reqs.all reqGood))

/-! ### One request -/
set_option maxRecDepth 100000 in
theorem rqF_tt (l : List UInt8) : rqF l true = ([], true) := by
  have h0 : (rq0 l true).2 = ([], true) := by unfold rq0; rw [inV_bad]
  exact rqF_bad (rq5_bad (rq4_bad (rq3_bad (rq2_bad (rq1_bad h0)))))

/-! ### Requests that are read, one behind the other -/
def qsS : Nat → List UInt8 → Bool → List UInt8 × Bool
  | 0, l, b => (l, b)
  | k + 1, l, b => rqF (qsS k l b).1 (qsS k l b).2
def qsAt (l : List UInt8) (b : Bool) (i : Nat) : ReqX := rqX (qsS i l b).1 (qsS i l b).2
def qsT (n : Nat) (l : List UInt8) (b : Bool) : List ReqX := (List.range n).map (qsAt l b)
set_option maxRecDepth 100000 in
theorem qsT_len (n : Nat) (l : List UInt8) (b : Bool) : (qsT n l b).length = n := by unfold qsT; simp
set_option maxRecDepth 100000 in
theorem qsT_zero (l : List UInt8) (b : Bool) : qsT 0 l b = [] := rfl
set_option maxRecDepth 100000 in
theorem qsS_zero (s : List UInt8 × Bool) : qsS 0 s.1 s.2 = s := by cases s; rfl
set_option maxRecDepth 100000 in
theorem qsS_succ (k : Nat) (l : List UInt8) (b : Bool) : qsS (k + 1) l b = rqF (qsS k l b).1 (qsS k l b).2 := by rw [qsS]
set_option maxRecDepth 100000 in
theorem qsT_succ (n : Nat) (l : List UInt8) (b : Bool) : qsT (n + 1) l b = qsT n l b ++ [rqX (qsS n l b).1 (qsS n l b).2] := by unfold qsT; rw [List.range_succ, List.map_append]; rfl
set_option maxRecDepth 100000 in
theorem qsS_bad : ∀ (k : Nat), qsS k [] true = ([], true)
  | 0 => rfl
  | k + 1 => by rw [qsS_succ, qsS_bad k, rqF_tt]
set_option maxRecDepth 100000 in
theorem qsS_add (i : Nat) (l : List UInt8) (b : Bool) : ∀ j, qsS (i + j) l b = qsS j (qsS i l b).1 (qsS i l b).2
  | 0 => (qsS_zero _).symm
  | j + 1 => by
    show qsS ((i + j) + 1) l b = _
    rw [qsS_succ, qsS_succ, qsS_add i l b j]
set_option maxRecDepth 100000 in
theorem qsS_nil (l : List UInt8) (b : Bool) : qsS 0 l b = (l, b) := by rw [qsS]
set_option maxRecDepth 100000 in
theorem qsS_one (l : List UInt8) (b : Bool) : qsS 1 l b = rqF l b := by rw [qsS_succ, qsS_nil]
set_option maxRecDepth 100000 in
theorem qsS_head (k : Nat) (l : List UInt8) (b : Bool) : qsS (k + 1) l b = qsS k (rqF l b).1 (rqF l b).2 := by
  rw [Nat.add_comm, qsS_add, qsS_one]
set_option maxRecDepth 100000 in
theorem qsT_head (l : List UInt8) (b : Bool) : ∀ k, qsT (k + 1) l b = rqX l b :: qsT k (rqF l b).1 (rqF l b).2
  | 0 => by rw [qsT_succ, qsT_zero, qsT_zero, qsS_nil, List.nil_append]
  | k + 1 => by rw [qsT_succ (k + 1), qsT_head l b k, qsT_succ k, qsS_head, List.cons_append]
set_option maxRecDepth 100000 in
theorem reqs_back : ∀ (qs : List ReqX) (_ : ∀ q ∈ qs, q.Wf) (rest : List UInt8), qsS qs.length (qs.flatMap reqB ++ rest) false = (if qs.all reqGood = true then (rest, false) else ([], true)) ∧ (qs.all reqGood = true → qsT qs.length (qs.flatMap reqB ++ rest) false = qs)
  | [], _, rest => ⟨rfl, fun _ => rfl⟩
  | q :: qs, hw, rest => by
    obtain ⟨b1, b2⟩ := req_back q (hw q List.mem_cons_self) (qs.flatMap reqB ++ rest)
    obtain ⟨i1, i2⟩ := reqs_back qs (fun s hs => hw s (List.mem_cons_of_mem _ hs)) rest
    have e : (q :: qs).flatMap reqB ++ rest = reqB q ++ (qs.flatMap reqB ++ rest) := by rw [List.flatMap_cons, List.append_assoc]
    rw [e, List.length_cons, qsS_head, qsT_head, List.all_cons]
    generalize qs.flatMap reqB ++ rest = T at *
    generalize reqB q ++ T = U at *
    cases hg : reqGood q with
    | false =>
      rw [hg, if_neg (by decide)] at b1
      rw [b1]
      refine ⟨?_, fun h => by simp at h⟩
      rw [qsS_bad]
      rfl
    | true =>
      rw [hg, if_pos rfl] at b1
      rw [b1, Bool.true_and]
      refine ⟨i1, fun h => ?_⟩
      rw [b2 hg, i2 h]

/-! ### A block that is read -/
def bk0 (l : List UInt8) (b : Bool) := inV 0 1073741824 l b
def bk1 (l : List UInt8) (b : Bool) := inV 1 1024 (bk0 l b).2.1 (bk0 l b).2.2
def bk2 (l : List UInt8) (b : Bool) := dgV (bk1 l b).2.1 (bk1 l b).2.2
def bk3 (l : List UInt8) (b : Bool) := dgV (bk2 l b).2.1 (bk2 l b).2.2
def bk4 (l : List UInt8) (b : Bool) := dgV (bk3 l b).2.1 (bk3 l b).2.2
def bk5 (l : List UInt8) (b : Bool) := inV 0 8 (bk4 l b).2.1 (bk4 l b).2.2
def bkN (l : List UInt8) (b : Bool) : Nat := (bk5 l b).1.toNat
def bkF (l : List UInt8) (b : Bool) : List UInt8 × Bool := qsS (bkN l b) (bk5 l b).2.1 (bk5 l b).2.2
set_option maxRecDepth 100000 in
theorem bk2_len (l : List UInt8) (b : Bool) : (bk2 l b).1.length = 32 := digV_len _ _
set_option maxRecDepth 100000 in
theorem bk3_len (l : List UInt8) (b : Bool) : (bk3 l b).1.length = 32 := digV_len _ _
set_option maxRecDepth 100000 in
theorem bk4_len (l : List UInt8) (b : Bool) : (bk4 l b).1.length = 32 := digV_len _ _
def bkX (l : List UInt8) (b : Bool) : BlkX :=
  if (bkF l b).2 = true then zblk else
  ⟨(bk0 l b).1, (bk1 l b).1, (bk2 l b).1, (bk3 l b).1, (bk4 l b).1, qsT (bkN l b) (bk5 l b).2.1 (bk5 l b).2.2, bk2_len l b, bk3_len l b, bk4_len l b⟩
set_option maxRecDepth 100000 in
theorem bk5_in (l : List UInt8) (b : Bool) : (bk5 l b).1 = (bkN l b : Int) ∧ bkN l b ≤ 8 := by
  have h := inV_in 0 8 (by omega) (by omega) (bk4 l b).2.1 (bk4 l b).2.2
  unfold bkN bk5
  omega
set_option maxRecDepth 100000 in
theorem bk0_eq (l : List UInt8) (b : Bool) : inV 0 1073741824 l b = bk0 l b := rfl
set_option maxRecDepth 100000 in
theorem bk1_eq (l : List UInt8) (b : Bool) : inV 1 1024 (bk0 l b).2.1 (bk0 l b).2.2 = bk1 l b := rfl
set_option maxRecDepth 100000 in
theorem bk2_eq (l : List UInt8) (b : Bool) : dgV (bk1 l b).2.1 (bk1 l b).2.2 = bk2 l b := rfl
set_option maxRecDepth 100000 in
theorem bk3_eq (l : List UInt8) (b : Bool) : dgV (bk2 l b).2.1 (bk2 l b).2.2 = bk3 l b := rfl
set_option maxRecDepth 100000 in
theorem bk4_eq (l : List UInt8) (b : Bool) : dgV (bk3 l b).2.1 (bk3 l b).2.2 = bk4 l b := rfl
set_option maxRecDepth 100000 in
theorem bk5_eq (l : List UInt8) (b : Bool) : inV 0 8 (bk4 l b).2.1 (bk4 l b).2.2 = bk5 l b := rfl
set_option maxRecDepth 100000 in
theorem bkF_eq (l : List UInt8) (b : Bool) : bkF l b = qsS (bkN l b) (bk5 l b).2.1 (bk5 l b).2.2 := by unfold bkF; rfl
set_option maxRecDepth 100000 in
theorem bkX_bad {l : List UInt8} {b : Bool} (h : (bkF l b).2 = true) : bkX l b = zblk := by
  unfold bkX
  rw [if_pos h]
set_option maxRecDepth 100000 in
theorem bkX_good {l : List UInt8} {b : Bool} (h : (bkF l b).2 = false) (h2 : (bk2 l b).1.length = 32) (h3 : (bk3 l b).1.length = 32) (h4 : (bk4 l b).1.length = 32) :
    bkX l b = ⟨(bk0 l b).1, (bk1 l b).1, (bk2 l b).1, (bk3 l b).1, (bk4 l b).1, qsT (bkN l b) (bk5 l b).2.1 (bk5 l b).2.2, h2, h3, h4⟩ := by
  unfold bkX
  rw [if_neg (by rw [h]; simp)]

/-! ### Behind a fault all is one -/
set_option maxRecDepth 100000 in
theorem bkF_at {l : List UInt8} {b : Bool} (h : (bk5 l b).2 = ([], true)) : bkF l b = ([], true) := by
  rw [bkF_eq, h]
  exact qsS_bad _
set_option maxRecDepth 100000 in
theorem bk5_bad {l : List UInt8} {b : Bool} (h : (bk4 l b).2 = ([], true)) : (bk5 l b).2 = ([], true) := by unfold bk5; exact inV_at _ _ h
set_option maxRecDepth 100000 in
theorem bk4_bad {l : List UInt8} {b : Bool} (h : (bk3 l b).2 = ([], true)) : (bk4 l b).2 = ([], true) := by unfold bk4; exact dgV_at h
set_option maxRecDepth 100000 in
theorem bk3_bad {l : List UInt8} {b : Bool} (h : (bk2 l b).2 = ([], true)) : (bk3 l b).2 = ([], true) := by unfold bk3; exact dgV_at h
set_option maxRecDepth 100000 in
theorem bk2_bad {l : List UInt8} {b : Bool} (h : (bk1 l b).2 = ([], true)) : (bk2 l b).2 = ([], true) := by unfold bk2; exact dgV_at h
set_option maxRecDepth 100000 in
theorem bk1_bad {l : List UInt8} {b : Bool} (h : (bk0 l b).2 = ([], true)) : (bk1 l b).2 = ([], true) := by unfold bk1; exact inV_at _ _ h

set_option maxRecDepth 100000 in
/-- There and back. -/
theorem blk_back (x : BlkX) (hw : x.Wf) (rest : List UInt8) : bkF (blkB x ++ rest) false = (if blkGood x = true then (rest, false) else ([], true)) ∧ (blkGood x = true → bkX (blkB x ++ rest) false = x) := by
  have E : blkB x ++ rest = numBytes x.epoch ++ (numBytes x.height ++ (x.prev ++ (x.state ++ (x.next ++ (numBytes (x.reqs.length : Int) ++ (x.reqs.flatMap reqB ++ rest)))))) := by
    unfold blkB; simp only [List.append_assoc]
  rw [E]
  obtain ⟨q1, q2⟩ := reqs_back x.reqs hw.reqs rest
  generalize hL : x.reqs.flatMap reqB ++ rest = L at *
  generalize hT : numBytes x.epoch ++ (numBytes x.height ++ (x.prev ++ (x.state ++ (x.next ++ (numBytes (x.reqs.length : Int) ++ L))))) = T at *
  have e0 : bk0 T false = if 0 ≤ x.epoch ∧ x.epoch ≤ 1073741824 then (x.epoch, numBytes x.height ++ (x.prev ++ (x.state ++ (x.next ++ (numBytes (x.reqs.length : Int) ++ L)))), false) else (0, [], true) := by rw [← hT]; exact inV_app hw.epoch _ _ _
  by_cases g0 : 0 ≤ x.epoch ∧ x.epoch ≤ 1073741824
  rotate_left
  · rw [if_neg g0] at e0
    have hg : blkGood x = false := by unfold blkGood; rw [decide_eq_false g0]; rfl
    rw [hg, if_neg (by decide)]
    exact ⟨bkF_at (bk5_bad (bk4_bad (bk3_bad (bk2_bad (bk1_bad (by rw [e0])))))), fun h => by cases h⟩
  rw [if_pos g0] at e0
  have e1 : bk1 T false = if 1 ≤ x.height ∧ x.height ≤ 1024 then (x.height, x.prev ++ (x.state ++ (x.next ++ (numBytes (x.reqs.length : Int) ++ L))), false) else (0, [], true) := by unfold bk1; rw [e0]; exact inV_app hw.height _ _ _
  by_cases g1 : 1 ≤ x.height ∧ x.height ≤ 1024
  rotate_left
  · rw [if_neg g1] at e1
    have hg : blkGood x = false := by unfold blkGood; rw [decide_eq_false g1]; simp
    rw [hg, if_neg (by decide)]
    exact ⟨bkF_at (bk5_bad (bk4_bad (bk3_bad (bk2_bad (by rw [e1]))))), fun h => by cases h⟩
  rw [if_pos g1] at e1
  have e2 : bk2 T false = (x.prev, x.state ++ (x.next ++ (numBytes (x.reqs.length : Int) ++ L)), false) := by unfold bk2; rw [e1]; exact dgV_app x.lp _
  have e3 : bk3 T false = (x.state, x.next ++ (numBytes (x.reqs.length : Int) ++ L), false) := by unfold bk3; rw [e2]; exact dgV_app x.ls _
  have e4 : bk4 T false = (x.next, numBytes (x.reqs.length : Int) ++ L, false) := by unfold bk4; rw [e3]; exact dgV_app x.ln _
  have e5 : bk5 T false = if 0 ≤ (x.reqs.length : Int) ∧ (x.reqs.length : Int) ≤ 8 then ((x.reqs.length : Int), L, false) else (0, [], true) := by unfold bk5; rw [e4]; exact inV_app hw.count _ _ _
  by_cases g2 : x.reqs.length ≤ 8
  rotate_left
  · rw [if_neg (by omega)] at e5
    have hg : blkGood x = false := by unfold blkGood; rw [decide_eq_false g2]; simp
    rw [hg, if_neg (by decide)]
    exact ⟨bkF_at (by rw [e5]), fun h => by cases h⟩
  rw [if_pos (by omega)] at e5
  have hN : bkN T false = x.reqs.length := by unfold bkN; rw [e5]; rfl
  have hgd : blkGood x = x.reqs.all reqGood := by
    unfold blkGood
    rw [decide_eq_true g0, decide_eq_true g1, decide_eq_true g2]
    rfl
  have hF : bkF T false = qsS x.reqs.length L false := by rw [bkF_eq, hN, e5]
  have hQ : qsT (bkN T false) (bk5 T false).2.1 (bk5 T false).2.2 = qsT x.reqs.length L false := by rw [hN, e5]
  rw [hgd, hF]
  refine ⟨q1, fun h => ?_⟩
  have hb : (bkF T false).2 = false := by rw [hF, q1, if_pos h]
  rw [bkX_good hb (bk2_len _ _) (bk3_len _ _) (bk4_len _ _)]
  exact BlkX.of_parts _ _ _ (by rw [e0]) (by rw [e1]) (by rw [e2]) (by rw [e3]) (by rw [e4]) (by rw [hQ, q2 h])

/-! ### Bytes that are cut -/
/-- A reading that goes on where more bytes stand behind, and that ends in a fault where one was. -/
structure ExtR {α : Type} (R : List UInt8 → Bool → α × List UInt8 × Bool) : Prop where
  ext : ∀ p q, (R p false).2.2 = false → (R (p ++ q) false).2 = ((R p false).2.1 ++ q, false)
  bad : ∀ l, (R l true).2.2 = true
structure Ext (f : List UInt8 → Bool → List UInt8 × Bool) : Prop where
  ext : ∀ p q, (f p false).2 = false → f (p ++ q) false = ((f p false).1 ++ q, false)
  bad : ∀ l, (f l true).2 = true
set_option maxRecDepth 100000 in
theorem ExtR.was {α : Type} {S : List UInt8 → Bool → α × List UInt8 × Bool} (hS : ExtR S) {l : List UInt8} {b : Bool} (h : (S l b).2.2 = false) : b = false := by
  cases b with
  | false => rfl
  | true => rw [hS.bad] at h; cases h
set_option maxRecDepth 100000 in
theorem Ext.was {f : List UInt8 → Bool → List UInt8 × Bool} (hf : Ext f) {l : List UInt8} {b : Bool} (h : (f l b).2 = false) : b = false := by
  cases b with
  | false => rfl
  | true => rw [hf.bad] at h; cases h
set_option maxRecDepth 100000 in
theorem ExtR.next {α β : Type} {R : List UInt8 → Bool → α × List UInt8 × Bool} {S T : List UInt8 → Bool → β × List UInt8 × Bool} (hR : ExtR R) (hS : ExtR S) (e : ∀ l b, T l b = S (R l b).2.1 (R l b).2.2) : ExtR T := by
  constructor
  · intro p q h
    rw [e] at h
    have hb := hS.was h
    rw [hb] at h
    rw [e, e, hR.ext p q hb, hb]
    exact hS.ext _ q h
  · intro l
    rw [e, hR.bad]
    exact hS.bad _
set_option maxRecDepth 100000 in
theorem pair_mk12 {α β : Type} (p : α × β) : (p.1, p.2) = p := by cases p; rfl
set_option maxRecDepth 100000 in
theorem rqF_of (l : List UInt8) (b : Bool) : rqF l b = (rc4 (rq5 l b).2.1 (rq5 l b).2.2).2 := by
  unfold rqF
  exact pair_mk12 _
end Go.Proofs.YtbclepdcngaonaaGreatDoor

namespace Go.Proofs.YtbclepdcngaonaaGreatDoor
open Go.RowKit

def bkL (e h : Int) (p s n : List UInt8) (v : Value) : List Value := .int .i64 e :: .int .i64 h :: (p.map bv ++ (s.map bv ++ (n.map bv ++ [v])))
set_option maxRecDepth 100000 in
theorem bkL_state (e h : Int) (p s n : List UInt8) (v : Value) : bkL e h p s n v = (.int .i64 e :: .int .i64 h :: p.map bv) ++ (s.map bv ++ (n.map bv ++ [v])) := rfl
set_option maxRecDepth 100000 in
theorem bkL_next (e h : Int) (p s n : List UInt8) (v : Value) : bkL e h p s n v = (.int .i64 e :: .int .i64 h :: (p.map bv ++ s.map bv)) ++ (n.map bv ++ [v]) := by
  unfold bkL
  simp
set_option maxRecDepth 100000 in
theorem bkL_row (e h : Int) (p s n : List UInt8) (v : Value) : bkL e h p s n v = (.int .i64 e :: .int .i64 h :: (p.map bv ++ (s.map bv ++ n.map bv))) ++ (v :: []) := by
  unfold bkL
  simp
section
variable {e h : Int} {p s n : List UInt8} {v : Value}
set_option maxRecDepth 100000 in
theorem bkL_len (hp : p.length = 32) (hs : s.length = 32) (hn : n.length = 32) (e h : Int) (v : Value) : (bkL e h p s n v).length = 99 := by
  unfold bkL
  simp [hp, hs, hn]
set_option maxRecDepth 100000 in
theorem bkL_one (e h : Int) (p s n : List UInt8) {v : Value} (hv : v.oneCell' = true) : ∀ u ∈ bkL e h p s n v, u.oneCell' = true := by
  intro u hu
  unfold bkL at hu
  rcases List.mem_cons.1 hu with rfl | hu
  · rfl
  rcases List.mem_cons.1 hu with rfl | hu
  · rfl
  rcases List.mem_append.1 hu with hu | hu
  · exact bv_one _ u hu
  rcases List.mem_append.1 hu with hu | hu
  · exact bv_one _ u hu
  rcases List.mem_append.1 hu with hu | hu
  · exact bv_one _ u hu
  obtain rfl := List.mem_singleton.1 hu
  exact hv
set_option maxRecDepth 100000 in
theorem bkL_size (hp : p.length = 32) (hs : s.length = 32) (hn : n.length = 32) (e h : Int) (v : Value) : (Tryz.prog.info? 32).map (·.size) = some (bkL e h p s n v).length := by
  rw [bkL_len hp hs hn]
  kernel_rfl
end
/-- A block as memory has it: where its requests lie. -/
structure BlkM where
  x : BlkX
  A : Option Addr
  z : Nat
def BlkM.cells (b : BlkM) : List Value := bkL b.x.epoch b.x.height b.x.prev b.x.state b.x.next (.slice b.A b.x.reqs.length b.z)
set_option maxRecDepth 100000 in
theorem BlkM.cells_len (b : BlkM) : b.cells.length = 99 := bkL_len b.x.lp b.x.ls b.x.ln _ _ _
set_option maxRecDepth 100000 in
theorem BlkM.cells_one (b : BlkM) : ∀ v ∈ b.cells, v.oneCell' = true := bkL_one _ _ _ _ _ rfl
set_option maxRecDepth 100000 in
theorem BlkM.size (b : BlkM) : (Tryz.prog.info? 32).map (·.size) = some b.cells.length := bkL_size b.x.lp b.x.ls b.x.ln _ _ _
def zblkV : Array Value := #[.int .i64 0, .int .i64 0, .int .u8 0, .int .u8 0, .int .u8 0, .int .u8 0, .int .u8 0, .int .u8 0, .int .u8 0, .int .u8 0, .int .u8 0, .int .u8 0, .int .u8 0, .int .u8 0, .int .u8 0, .int .u8 0, .int .u8 0, .int .u8 0, .int .u8 0, .int .u8 0, .int .u8 0, .int .u8 0, .int .u8 0, .int .u8 0, .int .u8 0, .int .u8 0, .int .u8 0, .int .u8 0, .int .u8 0, .int .u8 0, .int .u8 0, .int .u8 0, .int .u8 0, .int .u8 0, .int .u8 0, .int .u8 0, .int .u8 0, .int .u8 0, .int .u8 0, .int .u8 0, .int .u8 0, .int .u8 0, .int .u8 0, .int .u8 0, .int .u8 0, .int .u8 0, .int .u8 0, .int .u8 0, .int .u8 0, .int .u8 0, .int .u8 0, .int .u8 0, .int .u8 0, .int .u8 0, .int .u8 0, .int .u8 0, .int .u8 0, .int .u8 0, .int .u8 0, .int .u8 0, .int .u8 0, .int .u8 0, .int .u8 0, .int .u8 0, .int .u8 0, .int .u8 0, .int .u8 0, .int .u8 0, .int .u8 0, .int .u8 0, .int .u8 0, .int .u8 0, .int .u8 0, .int .u8 0, .int .u8 0, .int .u8 0, .int .u8 0, .int .u8 0, .int .u8 0, .int .u8 0, .int .u8 0, .int .u8 0, .int .u8 0, .int .u8 0, .int .u8 0, .int .u8 0, .int .u8 0, .int .u8 0, .int .u8 0, .int .u8 0, .int .u8 0, .int .u8 0, .int .u8 0, .int .u8 0, .int .u8 0, .int .u8 0, .int .u8 0, .int .u8 0, .slice none 0 0]
def zblkM : BlkM := ⟨zblk, none, 0⟩
set_option maxRecDepth 100000 in
theorem zblkM_cells : zblkM.cells.toArray = zblkV := rfl
set_option maxRecDepth 100000 in
theorem zblkV_size : zblkV.size = 99 := rfl

noncomputable def ldBlk (v : Value) : Sem Value := Instr.loadAt 32 v
set_option maxRecDepth 100000 in
theorem ldBlk_def (v : Value) : Instr.loadAt 32 v = ldBlk v := rfl
noncomputable def stBlk (p v : Value) : Sem Unit := Instr.storeAt 32 p v
set_option maxRecDepth 100000 in
theorem stBlk_def (p v : Value) : Instr.storeAt 32 p v = stBlk p v := rfl
noncomputable def bdBlk (parts : Array (Nat × Value)) : Sem Value := Instr.build 32 parts
set_option maxRecDepth 100000 in
theorem bdBlk_def (parts : Array (Nat × Value)) : Instr.build 32 parts = bdBlk parts := rfl
set_option maxRecDepth 100000 in
theorem zero_blk (w : World) : (zeroValue 32).run Tryz.prog w = .ok (.agg zblkV) w := by kernel_rfl
set_option maxRecDepth 100000 in
theorem bd_blk0 (w : World) : (bdBlk #[]).run Tryz.prog w = .ok (.agg zblkV) w := run_build w _ _ _ (by kernel_rfl)

/-! ### What a block's cells are -/
section
variable {w : World} {g : Nat} {t : TypeId} {e h : Int} {p s n : List UInt8} {v : Value}
set_option maxRecDepth 100000 in
theorem Box.bk_0 (hb : Box w g t (bkL e h p s n v).toArray) : w.cell? ⟨g, 0, none⟩ = some (.int .i64 e) := by rw [hb.cell, List.getElem?_toArray]; rfl
set_option maxRecDepth 100000 in
theorem Box.bk_1 (hb : Box w g t (bkL e h p s n v).toArray) : w.cell? ⟨g, 1, none⟩ = some (.int .i64 h) := by rw [hb.cell, List.getElem?_toArray]; rfl
set_option maxRecDepth 100000 in
theorem Box.bk_98 (hp : p.length = 32) (hs : s.length = 32) (hn : n.length = 32) (hb : Box w g t (bkL e h p s n v).toArray) : w.cell? ⟨g, 98, none⟩ = some v := by
  rw [hb.cell, List.getElem?_toArray, bkL_row, List.getElem?_append_right (by simp [hp, hs, hn])]
  simp [hp, hs, hn]
set_option maxRecDepth 100000 in
theorem Box.bk_prev (hb : Box w g t (bkL e h p s n v).toArray) : w.rangeAt g 2 (p.map bv) := Box.range_mid (pre := [.int .i64 e, .int .i64 h]) (post := s.map bv ++ (n.map bv ++ [v])) hb rfl
set_option maxRecDepth 100000 in
theorem Box.bk_state (hp : p.length = 32) (hb : Box w g t (bkL e h p s n v).toArray) : w.rangeAt g 34 (s.map bv) := by
  rw [bkL_state] at hb
  exact Box.range_mid hb (by simp [hp])
set_option maxRecDepth 100000 in
theorem Box.bk_next (hp : p.length = 32) (hs : s.length = 32) (hb : Box w g t (bkL e h p s n v).toArray) : w.rangeAt g 66 (n.map bv) := by
  rw [bkL_next] at hb
  exact Box.range_mid hb (by simp [hp, hs])
set_option maxRecDepth 100000 in
theorem Box.bk_pute (hb : Box w g t (bkL e h p s n v).toArray) (u : Int) : Box (w.setCell ⟨g, 0, none⟩ (.int .i64 u)) g t (bkL u h p s n v).toArray := Box.put_in (pre := []) hb rfl _
set_option maxRecDepth 100000 in
theorem Box.bk_puth (hb : Box w g t (bkL e h p s n v).toArray) (u : Int) : Box (w.setCell ⟨g, 1, none⟩ (.int .i64 u)) g t (bkL e u p s n v).toArray := Box.put_in (pre := [.int .i64 e]) hb rfl _
set_option maxRecDepth 100000 in
theorem Box.bk_putv (hp : p.length = 32) (hs : s.length = 32) (hn : n.length = 32) (hb : Box w g t (bkL e h p s n v).toArray) (u : Value) : Box (w.setCell ⟨g, 98, none⟩ u) g t (bkL e h p s n u).toArray := by
  rw [bkL_row] at hb ⊢
  exact Box.put_in hb (by simp [hp, hs, hn]) _
set_option maxRecDepth 100000 in
theorem Box.bk_putp (hp : p.length = 32) (hs : s.length = 32) (hn : n.length = 32) (hb : Box w g t (bkL e h p s n v).toArray) (d : List UInt8) (hd : d.length = 32) :
    (stDigest (.pointer (some ⟨g, 2, none⟩)) (.agg (d.map bv).toArray)).run Tryz.prog w = .ok () (w.setCells g 2 (d.map bv)) ∧ Box (w.setCells g 2 (d.map bv)) g t (bkL e h d s n v).toArray ∧ w.grownBy (w.setCells g 2 (d.map bv)) (some g) :=
  ⟨hb.store_mid (o := 2) (by rw [List.size_toArray, bkL_len hp hs hn]; decide) d hd, Box.put_mid (pre := [.int .i64 e, .int .i64 h]) (post := s.map bv ++ (n.map bv ++ [v])) hb rfl (by simp [hp, hd]), only_cells (g := g) _ 2 w⟩
set_option maxRecDepth 100000 in
theorem Box.bk_puts (hp : p.length = 32) (hs : s.length = 32) (hn : n.length = 32) (hb : Box w g t (bkL e h p s n v).toArray) (d : List UInt8) (hd : d.length = 32) :
    (stDigest (.pointer (some ⟨g, 34, none⟩)) (.agg (d.map bv).toArray)).run Tryz.prog w = .ok () (w.setCells g 34 (d.map bv)) ∧ Box (w.setCells g 34 (d.map bv)) g t (bkL e h p d n v).toArray ∧ w.grownBy (w.setCells g 34 (d.map bv)) (some g) := by
  refine ⟨hb.store_mid (o := 34) (by rw [List.size_toArray, bkL_len hp hs hn]; decide) d hd, ?_, only_cells (g := g) _ 34 w⟩
  rw [bkL_state] at hb ⊢
  exact Box.put_mid hb (by simp [hp]) (by simp [hs, hd])
set_option maxRecDepth 100000 in
theorem Box.bk_putn (hp : p.length = 32) (hs : s.length = 32) (hn : n.length = 32) (hb : Box w g t (bkL e h p s n v).toArray) (d : List UInt8) (hd : d.length = 32) :
    (stDigest (.pointer (some ⟨g, 66, none⟩)) (.agg (d.map bv).toArray)).run Tryz.prog w = .ok () (w.setCells g 66 (d.map bv)) ∧ Box (w.setCells g 66 (d.map bv)) g t (bkL e h p s d v).toArray ∧ w.grownBy (w.setCells g 66 (d.map bv)) (some g) := by
  refine ⟨hb.store_mid (o := 66) (by rw [List.size_toArray, bkL_len hp hs hn]; decide) d hd, ?_, only_cells (g := g) _ 66 w⟩
  rw [bkL_next] at hb ⊢
  exact Box.put_mid hb (by simp [hp, hs]) (by simp [hn, hd])
set_option maxRecDepth 100000 in
theorem range_bk (hp : p.length = 32) (hs : s.length = 32) (hn : n.length = 32) {o : Nat} (hr : w.rangeAt g o (bkL e h p s n v)) : (ldBlk (.pointer (some ⟨g, o, none⟩))).run Tryz.prog w = .ok (.agg (bkL e h p s n v).toArray) w :=
  run_loadAt_mid (P := Tryz.prog) w g o 32 (bkL e h p s n v) _ hr Tryz.underlying32 rfl (bkL_size hp hs hn e h v)
set_option maxRecDepth 100000 in
theorem Box.ld_bk (hp : p.length = 32) (hs : s.length = 32) (hn : n.length = 32) (hb : Box w g t (bkL e h p s n v).toArray) : (ldBlk (.pointer (some ⟨g, 0, none⟩))).run Tryz.prog w = .ok (.agg (bkL e h p s n v).toArray) w := range_bk hp hs hn hb.range
set_option maxRecDepth 100000 in
theorem Box.ld_blk {x : BlkM} (hb : Box w g t x.cells.toArray) : (ldBlk (.pointer (some ⟨g, 0, none⟩))).run Tryz.prog w = .ok (.agg x.cells.toArray) w := Box.ld_bk x.x.lp x.x.ls x.x.ln hb
set_option maxRecDepth 100000 in
theorem Box.st_bk {cs : Array Value} (hb : Box w g t cs) (hc : cs.size = 99) (hp : p.length = 32) (hs : s.length = 32) (hn : n.length = 32) (hv : v.oneCell' = true) :
    ∃ w', (stBlk (.pointer (some ⟨g, 0, none⟩)) (.agg (bkL e h p s n v).toArray)).run Tryz.prog w = .ok () w' ∧ Box w' g t (bkL e h p s n v).toArray ∧ w.grownBy w' (some g) := by
  refine ⟨w.setCells g 0 (bkL e h p s n v), ?_, hb.cells_all (bkL e h p s n v).toArray (by rw [List.size_toArray, bkL_len hp hs hn, hc]), only_cells (g := g) _ 0 _⟩
  exact run_storeAt_mid (P := Tryz.prog) _ g 0 32 (bkL e h p s n v).toArray (fun j hj => by
    rw [List.size_toArray, bkL_len hp hs hn] at hj
    rw [hb.cell, hb.free, Array.getElem?_eq_getElem (by omega)]
    exact ⟨rfl, rfl⟩) (by rw [List.size_toArray]; exact bkL_size hp hs hn e h v) (by have := all_oneCell_toArray (bkL_one e h p s n hv); simpa using this)
set_option maxRecDepth 100000 in
theorem Box.st_blk {cs : Array Value} (hb : Box w g t cs) (hc : cs.size = 99) (x : BlkM) :
    ∃ w', (stBlk (.pointer (some ⟨g, 0, none⟩)) (.agg x.cells.toArray)).run Tryz.prog w = .ok () w' ∧ Box w' g t x.cells.toArray ∧ w.grownBy w' (some g) := Box.st_bk hb hc x.x.lp x.x.ls x.x.ln rfl
end
set_option maxRecDepth 100000 in
theorem ret_blk {fn : Func} {q : Tmp} (hf : fn.results = #[.cell q 32]) {a : Act} {w : World} {g : Nat} (hq : a.tmps.getD q undef = .pointer (some ⟨g, 0, none⟩)) (hdf : a.defers = []) {t : TypeId} {e h : Int} {p s n : List UInt8} {v : Value} (hp : p.length = 32) (hs : s.length = 32) (hn : n.length = 32) (hb : Box w g t (bkL e h p s n v).toArray)
    {R : Ending → World → Prop} (hR : R (.returned (.agg (bkL e h p s n v).toArray)) w) : bodyPost Tryz.prog fn R .ret a w :=
  bodyPost_ret (results_cell_row hf _ w g t _ (0, 0) _ hq hb Tryz.underlying32 rfl (by rw [List.size_toArray]; exact bkL_size hp hs hn e h v)) hdf hR

/-! ### A block that is seen -/
abbrev QSee (w : World) (B : Nat) (A : Option Addr) (xs : List ReqX) : Prop := QK.See w B A xs
set_option maxRecDepth 100000 in
/-- A request of a row, as the frozen load. -/
theorem QSee.at_ {w : World} {B : Nat} {A : Option Addr} {xs : List ReqX} (h : QSee w B A xs) {i : Nat} (hi : i < xs.length) : ∃ g o, A = some ⟨g, o, none⟩ ∧ g < B ∧ ∀ j (hj : j < xs.length), (ldReq (.pointer (some ⟨g, o + j * 42, none⟩))).run Tryz.prog w = .ok (.agg ((xs[j]'hj).cells.toArray)) w := by
  obtain ⟨g, o, hA, hg, hr⟩ := EK.See.range h hi
  exact ⟨g, o, hA, hg, fun j hj => run_loadAt_mid (P := Tryz.prog) w g (o + j * 42) 100 (xs[j]'hj).cells _ (hr j hj) Tryz.underlying100 rfl (xs[j]'hj).size⟩
end Go.Proofs.YtbclepdcngaonaaGreatDoor

namespace Go.Proofs.YtbclepdcngaonaaGreatDoor
open Go.RowKit

attribute [local go_sem ↓] ldReq_def stReq_def ldBlk_def stBlk_def

set_option maxRecDepth 100000 in
theorem QSee.far {w w' : World} {A : Option Addr} {xs : List ReqX} (h : QSee w w.heap.size A xs) (hb : Below w.heap.size w w') : QSee w' w'.heap.size A xs := EK.See.far h hb

set_option maxRecDepth 100000 in
theorem bkwithin_any (n lo hi : Int) (w : World) : Calls Tryz.prog 79 #[.int .i64 n, .int .i64 lo, .int .i64 hi] w fun e w' => e = .returned (.bool (rqIn n lo hi)) ∧ w = w' := by
  unfold rqIn
  by_cases h : lo ≤ n
  · have e : decide (lo ≤ n) = true := by simpa using h
    rw [e, Bool.true_and]
    clear e
    go_enter Tryz.func79, Tryz.ntmps79
    go_wp2
    go_ret
    exact ⟨rfl, rfl⟩
  · have e : decide (lo ≤ n) = false := by simpa using h
    rw [e, Bool.false_and]
    clear e
    go_enter Tryz.func79, Tryz.ntmps79
    go_wp2
    go_ret
    exact ⟨rfl, rfl⟩

set_option maxRecDepth 100000 in
theorem bad_any12 (x : ReqX) (w : World) : Calls Tryz.prog 81 #[.agg x.cells.toArray] w fun e w' => e = .returned (.bool (!reqGood x)) ∧ Below w.heap.size w w' := by
  have HB : Hid (Box (w.alloc (.cells x.cells.toArray 100)) w.heap.size 100 x.cells.toArray) := Box.made _ _ _
  have HF : Hid (Below w.heap.size w (w.alloc (.cells x.cells.toArray 100))) := Lib.hid ((Below.refl _ _).alloc (Nat.le_refl _) _)
  have lq := HB.out.ld_req
  have HG := Lib.hid (good_any9 x (w.alloc (.cells x.cells.toArray 100)))
  generalize reqGood x = r at *
  go_enter Tryz.func81, Tryz.ntmps81
  go_wp2_with (go_at_call 119; (with_reducible refine (HG.out).mono ?_); rintro e w' ⟨rfl, hb⟩; have HB2 := Lib.hid hb; clear hb)
  go_ret
  exact ⟨rfl, HF.out.trans (HB2.out.mono HF.out.size)⟩

def notGood (q : ReqX) : Bool := !reqGood q
def posB (xs : List ReqX) : Nat := xs.findIdx notGood
def posBI (xs : List ReqX) : Int := if posB xs < xs.length then (posB xs : Int) else -1
set_option maxRecDepth 100000 in
theorem posB_le (xs : List ReqX) : posB xs ≤ xs.length := List.findIdx_le_length
set_option maxRecDepth 100000 in
theorem posB_ne {xs : List ReqX} {j : Nat} (h : j < posB xs) (hj : j < xs.length) : notGood (xs[j]'hj) = false := by
  have := List.not_of_lt_findIdx h
  simpa using this
set_option maxRecDepth 100000 in
theorem posB_eq {xs : List ReqX} (h : posB xs < xs.length) : notGood (xs[posB xs]'h) = true := List.findIdx_getElem (w := h)

set_option maxRecDepth 100000 in
set_option maxHeartbeats 1000000 in
theorem index_bad (xs : List ReqX) (A : Option Addr) (c : Nat) (hn : xs.length ≤ maxLen) (w : World) (hS : QSee w w.heap.size A xs) :
    Calls Tryz.prog 118 #[.slice A xs.length c, .func (.func 81) #[] #[]] w fun e w' => e = .returned (.int .i64 (posBI xs)) ∧ Below w.heap.size w w' := by
  have HS := Lib.hid hS
  have HN : Hid (xs.length ≤ 9223372036854775807) := Lib.hid (Nat.le_trans hn (by simp [maxLen]))
  have HP := Lib.hid (posB_le xs)
  clear hS hn
  go_enter Tryz.func118, Tryz.ntmps118
  go_wp2
  go_loopw [8] (fun n wr => ∃ k : Nat, k ≤ posB xs ∧ n = .int .i64 (k : Int) ∧ Hid (Below w.heap.size w wr)) (fun n _ => xs.length - (intOf n).toNat)
  case atStart => exact ⟨0, Nat.zero_le _, rfl, Lib.hid (Below.refl _ _)⟩
  case round =>
    obtain ⟨k, hk, rfl, HF⟩ := hrel
    by_cases hlt : k < xs.length
    · obtain ⟨g, oo, rfl, _, hr⟩ := (HS.out.far HF.out).at_ hlt
      have lk := hr k hlt
      have HK := Lib.hid (bad_any12 (xs[k]'hlt) wr)
      have HLE := Lib.hid hlt
      have wk : IntKind.i64.wrap ((k : Int) + 1) = ((k + 1 : Nat) : Int) := by
        rw [IntKind.wrap_i64]
        have := HN.out
        omega
      have i1 : (k : Int) < (xs.length : Int) := by omega
      have HQ : Hid (k < posB xs ∧ (!reqGood (xs[k]'hlt)) = false ∨ k = posB xs ∧ (!reqGood (xs[k]'hlt)) = true) := Lib.hid (by
        rcases Nat.lt_or_ge k (posB xs) with h | h
        · exact .inl ⟨h, posB_ne h hlt⟩
        · have e : k = posB xs := by omega
          refine .inr ⟨e, ?_⟩
          have h2 := posB_eq (xs := xs) (by omega)
          simp only [← e] at h2
          exact h2)
      generalize xs[k]'hlt = x at *
      clear hr
      rcases HQ.out with ⟨h, hb⟩ | ⟨h, hb⟩
      · rw [hb] at HK
        have HH := Lib.hid h
        clear hb h hk HQ
        go_wp2_with ((with_reducible refine (HK.out).mono ?_); rintro e w2 ⟨rfl, hb2⟩; have HB2 := Lib.hid hb2; clear hb2)
        go_roundw
        case rel => exact ⟨k + 1, HH.out, by go_num, Lib.hid (HF.out.trans (HB2.out.mono HF.out.size))⟩
        case measure => have := HLE.out; simp [intOf]; omega
      · rw [hb] at HK
        have HH : Hid (posBI xs = (k : Int)) := Lib.hid (by unfold posBI; rw [← h, if_pos hlt])
        clear hb h hk HQ
        go_wp2_with ((with_reducible refine (HK.out).mono ?_); rintro e w2 ⟨rfl, hb2⟩; have HB2 := Lib.hid hb2; clear hb2)
        go_ret
        exact ⟨by rw [HH.out]; rfl, HF.out.trans (HB2.out.mono HF.out.size)⟩
    · have HH : Hid (posBI xs = -1) := Lib.hid (by unfold posBI; have := HP.out; rw [if_neg (by omega)])
      have i1 : ¬ (k : Int) < (xs.length : Int) := by omega
      go_wp2
      go_ret
      exact ⟨by rw [HH.out]; rfl, HF.out⟩
set_option maxRecDepth 100000 in
theorem not_all_good : ∀ xs : List ReqX, (!xs.all reqGood) = xs.any notGood
  | [] => rfl
  | x :: xs => by
    rw [List.all_cons, List.any_cons, Bool.not_and, not_all_good xs]
    rfl
set_option maxRecDepth 100000 in
theorem contains_bad (xs : List ReqX) (A : Option Addr) (c : Nat) (hn : xs.length ≤ maxLen) (w : World) (hS : QSee w w.heap.size A xs) :
    Calls Tryz.prog 80 #[.slice A xs.length c, .func (.func 81) #[] #[]] w fun e w' => e = .returned (.bool (!xs.all reqGood)) ∧ Below w.heap.size w w' := by
  have HI := Lib.hid (index_bad xs A c hn w hS)
  have HE : Hid (decide (0 ≤ posBI xs) = !xs.all reqGood) := Lib.hid (by
    rw [not_all_good, Bool.eq_iff_iff]
    simp only [decide_eq_true_iff]
    rw [List.any_eq_true]
    unfold posBI
    by_cases h : posB xs < xs.length
    · rw [if_pos h]
      exact ⟨fun _ => ⟨_, List.getElem_mem h, posB_eq h⟩, fun _ => by omega⟩
    · rw [if_neg h]
      refine ⟨fun h => by omega, fun ⟨x, hx, hb⟩ => ?_⟩
      exact absurd (List.findIdx_lt_length_of_exists ⟨x, hx, hb⟩) h)
  clear hS
  generalize posBI xs = k at *
  go_enter Tryz.func80, Tryz.ntmps80
  go_wp2_with (go_at_call 118; (with_reducible refine (HI.out).mono ?_); rintro e w2 ⟨rfl, hb⟩; have HB := Lib.hid hb; clear hb)
  go_ret
  exact ⟨ret_val (congrArg Value.bool HE.out), HB.out⟩

set_option maxRecDepth 100000 in
theorem blkGood_eq (x : BlkX) : blkGood x = (rqIn x.epoch 0 1073741824 && (rqIn x.height 1 1024 && (decide (x.reqs.length ≤ 8) && x.reqs.all reqGood))) := by
  unfold blkGood rqIn
  simp only [Bool.decide_and]

set_option maxRecDepth 100000 in
set_option maxHeartbeats 1000000 in
theorem good_any12 (b : BlkM) (hn : b.x.reqs.length ≤ maxLen) (w : World) (hS : QSee w w.heap.size b.A b.x.reqs) : Calls Tryz.prog 47 #[.agg b.cells.toArray] w fun e w' => e = .returned (.bool (blkGood b.x)) ∧ Below w.heap.size w w' := by
  have HB : Hid (Box (w.alloc (.cells b.cells.toArray 32)) w.heap.size 32 b.cells.toArray) := Box.made _ _ _
  have c0 : (w.alloc (.cells b.cells.toArray 32)).cell? ⟨w.heap.size, 0, none⟩ = some (.int .i64 b.x.epoch) := HB.out.bk_0
  have c1 : (w.alloc (.cells b.cells.toArray 32)).cell? ⟨w.heap.size, 1, none⟩ = some (.int .i64 b.x.height) := HB.out.bk_1
  have c2 : (w.alloc (.cells b.cells.toArray 32)).cell? ⟨w.heap.size, 98, none⟩ = some (.slice b.A b.x.reqs.length b.z) := HB.out.bk_98 b.x.lp b.x.ls b.x.ln
  have HF : Hid (Below w.heap.size w (w.alloc (.cells b.cells.toArray 32))) := Lib.hid ((Below.refl _ _).alloc (Nat.le_refl _) _)
  have H0 := Lib.hid (bkwithin_any b.x.epoch 0 1073741824)
  have H1 := Lib.hid (bkwithin_any b.x.height 1 1024)
  have H2 := Lib.hid (contains_bad b.x.reqs b.A b.z hn (w.alloc (.cells b.cells.toArray 32)) (hS.far HF.out))
  have HE := Lib.hid (blkGood_eq b.x)
  clear HB hS hn
  generalize blkGood b.x = r at *
  generalize rqIn b.x.epoch 0 1073741824 = p0 at *
  generalize rqIn b.x.height 1 1024 = p1 at *
  generalize (b.x.reqs.all reqGood) = p3 at *
  generalize b.cells.toArray = cs at *
  generalize b.x.epoch = n0 at *
  generalize b.x.height = n1 at *
  generalize b.x.reqs.length = n2 at *
  generalize b.A = A at *
  generalize b.z = z at *
  rcases p0 with _ | _
  · have HR : Hid (r = false) := Lib.hid (by rw [HE.out]; rfl)
    clear HE H2
    go_enter Tryz.func47, Tryz.ntmps47
    go_wp2_with (go_at_call 79; (with_reducible refine (H0.out _).mono ?_); rintro e w' ⟨rfl, rfl⟩)
    go_ret
    exact ⟨ret_val (congrArg Value.bool HR.out.symm), HF.out⟩
  rcases p1 with _ | _
  · have HR : Hid (r = false) := Lib.hid (by rw [HE.out]; rfl)
    clear HE H2
    go_enter Tryz.func47, Tryz.ntmps47
    go_wp2_with (first
      | (go_at_call 79; (with_reducible refine (H0.out _).mono ?_); rintro e w' ⟨rfl, rfl⟩)
      | (go_at_call 79; (with_reducible refine (H1.out _).mono ?_); rintro e w' ⟨rfl, rfl⟩))
    go_ret
    exact ⟨ret_val (congrArg Value.bool HR.out.symm), HF.out⟩
  by_cases h8 : n2 ≤ 8
  rotate_left
  · have HR : Hid (r = false) := Lib.hid (by rw [HE.out, decide_eq_false h8]; rfl)
    have e8 : decide ((n2 : Int) ≤ 8) = false := decide_eq_false (by omega)
    clear HE H2 h8
    go_enter Tryz.func47, Tryz.ntmps47
    go_wp2_with (first
      | (go_at_call 79; (with_reducible refine (H0.out _).mono ?_); rintro e w' ⟨rfl, rfl⟩)
      | (go_at_call 79; (with_reducible refine (H1.out _).mono ?_); rintro e w' ⟨rfl, rfl⟩))
    go_ret
    exact ⟨ret_val (congrArg Value.bool HR.out.symm), HF.out⟩
  have HR : Hid (r = p3) := Lib.hid (by rw [HE.out, decide_eq_true h8]; rfl)
  have e8 : decide ((n2 : Int) ≤ 8) = true := decide_eq_true (by omega)
  clear HE h8
  go_enter Tryz.func47, Tryz.ntmps47
  go_wp2_with (first
    | (go_at_call 79; (with_reducible refine (H0.out _).mono ?_); rintro e w' ⟨rfl, rfl⟩)
    | (go_at_call 79; (with_reducible refine (H1.out _).mono ?_); rintro e w' ⟨rfl, rfl⟩)
    | (go_at_call 80; (with_reducible refine (H2.out).mono ?_); rintro e w' ⟨rfl, hb⟩; have HB2 := Lib.hid (HF.out.trans (hb.mono HF.out.size)); clear hb))
  go_ret
  exact ⟨ret_val (by rw [HR.out]; simp), HB2.out⟩
end Go.Proofs.YtbclepdcngaonaaGreatDoor
