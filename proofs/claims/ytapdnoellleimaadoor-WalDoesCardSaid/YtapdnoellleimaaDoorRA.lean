/-
  Requests and replies on plain lists: their bytes, what is read of bytes, there and back. No program, no memory.
  Requests in memory: their cells, what is loaded, stored, compared and built.
  Requests: whether one can be (request.Good, the document's Good); wapentakelaw09.long.
-/
import Derived.Test.YtapdnoellleimaaDoorKRdPlain
import Derived.Test.YtapdnoellleimaaDoorWr
import Derived.Test.YtapdnoellleimaaDoorRd
import Derived.Test.YtapdnoellleimaaDoorKA
import Derived.Test.YtapdnoellleimaaDoorTG
import Derived.Lib.Hide
import Derived.Deep.RegionHeld3
import Derived.Test.YtapdnoellleimaaDoorChecked
import Derived.WalkKit
import Derived.Deep.QuietTactic
import Derived.BigQuiet
import Derived.Lib.QuietBelow
import Derived.KernelRfl
import Derived.LoopTactic
import Derived.LoopN
namespace Go.Proofs.YtapdnoellleimaaDoor
open Go.RowKit

def R64 (n : Int) : Prop := -9223372036854775808 ≤ n ∧ n ≤ 9223372036854775807

structure ReqX where
  client : Int
  num : Int
  kind : Int
  key : ByteArray
  val : ByteArray
  old : ByteArray
  ck : Int
  cid : Int
  cn : Int
  root : List UInt8
  high : Int
  len : root.length = 32
set_option maxRecDepth 100000 in
theorem ReqX.same {x y : ReqX} (h1 : x.client = y.client) (h2 : x.num = y.num) (h3 : x.kind = y.kind) (h4 : x.key = y.key) (h5 : x.val = y.val) (h6 : x.old = y.old) (h7 : x.ck = y.ck) (h8 : x.cid = y.cid) (h9 : x.cn = y.cn) (h10 : x.root = y.root) (h11 : x.high = y.high) : x = y := by
  cases x; cases y; simp_all
set_option maxRecDepth 100000 in
theorem ReqX.eq_iff (x y : ReqX) : x = y ↔ x.client = y.client ∧ x.num = y.num ∧ x.kind = y.kind ∧ x.key = y.key ∧ x.val = y.val ∧ x.old = y.old ∧ x.ck = y.ck ∧ x.cid = y.cid ∧ x.cn = y.cn ∧ x.root = y.root ∧ x.high = y.high :=
  ⟨fun h => by subst h; exact ⟨rfl, rfl, rfl, rfl, rfl, rfl, rfl, rfl, rfl, rfl, rfl⟩, fun ⟨h1, h2, h3, h4, h5, h6, h7, h8, h9, h10, h11⟩ => ReqX.same h1 h2 h3 h4 h5 h6 h7 h8 h9 h10 h11⟩
instance : DecidableEq ReqX := fun x y => decidable_of_iff _ (ReqX.eq_iff x y).symm

/-- Its numbers are ints; its texts fit four bytes' lengths. -/
structure ReqX.Wf (x : ReqX) : Prop where
  client : R64 x.client
  num : R64 x.num
  kind : R64 x.kind
  ck : R64 x.ck
  cid : R64 x.cid
  cn : R64 x.cn
  high : R64 x.high
  key : x.key.size < 4294967296
  val : x.val.size < 4294967296
  old : x.old.size < 4294967296

def zreq : ReqX := ⟨0, 0, 0, ⟨#[]⟩, ⟨#[]⟩, ⟨#[]⟩, 0, 0, 0, zeros, 0, rfl⟩

/-- A request's bytes. -/
def reqB (x : ReqX) : List UInt8 :=
  numBytes x.client ++ (numBytes x.num ++ (numBytes x.kind ++ (textBytes x.key ++ (textBytes x.val ++ (textBytes x.old ++ (numBytes x.ck ++ (numBytes x.cid ++ (numBytes x.cn ++ (numBytes x.high ++ x.root)))))))))
/-- Can it be? -/
def reqGood (x : ReqX) : Bool :=
  decide (1 ≤ x.client ∧ x.client ≤ 64) && decide (1 ≤ x.num ∧ x.num ≤ 1099511627776) && decide (1 ≤ x.kind ∧ x.kind ≤ 7) && (decide (x.key.size ≤ 1024) && decide (x.val.size ≤ 1024) && decide (x.old.size ≤ 1024))

def nuV (l : List UInt8) (b : Bool) : Int × List UInt8 × Bool := (numV l b, (tk 8 l b).2)
def dgV (l : List UInt8) (b : Bool) : List UInt8 × List UInt8 × Bool := (digV l b, (tk 32 l b).2)

set_option maxRecDepth 100000 in
theorem nuV_app {n : Int} (hn : R64 n) (r : List UInt8) : nuV (numBytes n ++ r) false = (n, r, false) := by
  unfold nuV
  rw [knumV_back hn, ktk_app _ _ (numBytes_len n)]
set_option maxRecDepth 100000 in
theorem inV_app {n : Int} (hn : R64 n) (lo hi : Int) (r : List UInt8) : inV lo hi (numBytes n ++ r) false = if lo ≤ n ∧ n ≤ hi then (n, r, false) else (0, [], true) := by
  unfold inV
  rw [knumV_back hn, ktk_app _ _ (numBytes_len n)]
  by_cases h : n < lo ∨ hi < n
  · rw [if_pos h, if_neg (by omega)]
  · rw [if_neg h, if_pos (by omega)]
set_option maxRecDepth 100000 in
theorem dgV_app {d : List UInt8} (hd : d.length = 32) (r : List UInt8) : dgV (d ++ r) false = (d, r, false) := by
  unfold dgV digV
  rw [ktk_app _ _ hd]
  simp
set_option maxRecDepth 100000 in
theorem txtV_app {s : ByteArray} (hs : s.size < 4294967296) (m : Int) (r : List UInt8) : txtV m (textBytes s ++ r) false = if (s.size : Int) ≤ m then (s.data.toList, r, false) else ([], [], true) := by
  have e : textBytes s ++ r = beBytes 4 s.size ++ (s.data.toList ++ r) := by unfold textBytes; rw [List.append_assoc]
  have e2 : beNat (beBytes 4 s.size) = s.size := by rw [kbeNat_beBytes]; exact Nat.mod_eq_of_lt hs
  unfold txtV
  rw [e, ktk_app _ _ (beBytes_length 4 _)]
  simp only [e2]
  by_cases h : (s.size : Int) ≤ m
  · rw [if_pos h, if_neg (by rintro (h1 | h1); · cases h1
                             · omega), ktk_app _ _ (size_data s)]
  · rw [if_neg h, if_pos (.inr (by omega))]

set_option maxRecDepth 100000 in
theorem numV_tt (l : List UInt8) : numV l true = 0 := by
  unfold numV
  rw [ktk_bad]
  show wrap64 ((beNat [] : Nat) : Int) = 0
  rw [beNat_nil]
  simp [wrap64]
set_option maxRecDepth 100000 in
theorem nuV_bad (l : List UInt8) : nuV l true = (0, [], true) := by unfold nuV; rw [numV_tt, ktk_bad]
set_option maxRecDepth 100000 in
theorem inV_bad (lo hi : Int) (l : List UInt8) : inV lo hi l true = (0, [], true) := by
  unfold inV
  rw [numV_tt, ktk_bad]
  split <;> rfl
set_option maxRecDepth 100000 in
theorem dgV_bad (l : List UInt8) : dgV l true = (zeros, [], true) := by unfold dgV digV; rw [ktk_bad]; rfl
set_option maxRecDepth 100000 in
theorem txtV_bad (m : Int) (l : List UInt8) : txtV m l true = ([], [], true) := by unfold txtV; rw [ktk_bad]; simp

/-- What a change is read as, one part behind the other. -/
def rc0 (l : List UInt8) (b : Bool) := nuV l b
def rc1 (l : List UInt8) (b : Bool) := nuV (rc0 l b).2.1 (rc0 l b).2.2
def rc2 (l : List UInt8) (b : Bool) := nuV (rc1 l b).2.1 (rc1 l b).2.2
def rc3 (l : List UInt8) (b : Bool) := nuV (rc2 l b).2.1 (rc2 l b).2.2
def rc4 (l : List UInt8) (b : Bool) := dgV (rc3 l b).2.1 (rc3 l b).2.2
set_option maxRecDepth 100000 in
theorem rc4_len (l : List UInt8) (b : Bool) : (rc4 l b).1.length = 32 := digV_len _ _
/-- And a request. -/
def rq0 (l : List UInt8) (b : Bool) := inV 1 64 l b
def rq1 (l : List UInt8) (b : Bool) := inV 1 1099511627776 (rq0 l b).2.1 (rq0 l b).2.2
def rq2 (l : List UInt8) (b : Bool) := inV 1 7 (rq1 l b).2.1 (rq1 l b).2.2
def rq3 (l : List UInt8) (b : Bool) := txtV 1024 (rq2 l b).2.1 (rq2 l b).2.2
def rq4 (l : List UInt8) (b : Bool) := txtV 1024 (rq3 l b).2.1 (rq3 l b).2.2
def rq5 (l : List UInt8) (b : Bool) := txtV 1024 (rq4 l b).2.1 (rq4 l b).2.2
def rqF (l : List UInt8) (b : Bool) : List UInt8 × Bool := ((rc4 (rq5 l b).2.1 (rq5 l b).2.2).2.1, (rc4 (rq5 l b).2.1 (rq5 l b).2.2).2.2)
def rqX (l : List UInt8) (b : Bool) : ReqX :=
  if (rqF l b).2 = true then zreq else
  ⟨(rq0 l b).1, (rq1 l b).1, (rq2 l b).1, ⟨(rq3 l b).1.toArray⟩, ⟨(rq4 l b).1.toArray⟩, ⟨(rq5 l b).1.toArray⟩,
    (rc0 (rq5 l b).2.1 (rq5 l b).2.2).1, (rc1 (rq5 l b).2.1 (rq5 l b).2.2).1, (rc2 (rq5 l b).2.1 (rq5 l b).2.2).1, (rc4 (rq5 l b).2.1 (rq5 l b).2.2).1, (rc3 (rq5 l b).2.1 (rq5 l b).2.2).1, rc4_len _ _⟩

set_option maxRecDepth 100000 in
theorem inV_at {s : List UInt8 × Bool} (lo hi : Int) (h : s = ([], true)) : (inV lo hi s.1 s.2).2 = ([], true) := by subst h; rw [inV_bad]
set_option maxRecDepth 100000 in
theorem txtV_at {s : List UInt8 × Bool} (m : Int) (h : s = ([], true)) : (txtV m s.1 s.2).2 = ([], true) := by subst h; rw [txtV_bad]
set_option maxRecDepth 100000 in
theorem nuV_at {s : List UInt8 × Bool} (h : s = ([], true)) : (nuV s.1 s.2).2 = ([], true) := by subst h; rw [nuV_bad]
set_option maxRecDepth 100000 in
theorem dgV_at {s : List UInt8 × Bool} (h : s = ([], true)) : (dgV s.1 s.2).2 = ([], true) := by subst h; rw [dgV_bad]
set_option maxRecDepth 100000 in
theorem rc4_bad (l : List UInt8) : (rc4 l true).2 = ([], true) := by
  have h0 : (rc0 l true).2 = ([], true) := by unfold rc0; rw [nuV_bad]
  have h1 : (rc1 l true).2 = ([], true) := by unfold rc1; exact nuV_at h0
  have h2 : (rc2 l true).2 = ([], true) := by unfold rc2; exact nuV_at h1
  have h3 : (rc3 l true).2 = ([], true) := by unfold rc3; exact nuV_at h2
  unfold rc4; exact dgV_at h3
set_option maxRecDepth 100000 in
theorem rq1_bad {l : List UInt8} {b : Bool} (h : (rq0 l b).2 = ([], true)) : (rq1 l b).2 = ([], true) := by unfold rq1; exact inV_at _ _ h
set_option maxRecDepth 100000 in
theorem rq2_bad {l : List UInt8} {b : Bool} (h : (rq1 l b).2 = ([], true)) : (rq2 l b).2 = ([], true) := by unfold rq2; exact inV_at _ _ h
set_option maxRecDepth 100000 in
theorem rq3_bad {l : List UInt8} {b : Bool} (h : (rq2 l b).2 = ([], true)) : (rq3 l b).2 = ([], true) := by unfold rq3; exact txtV_at _ h
set_option maxRecDepth 100000 in
theorem rq4_bad {l : List UInt8} {b : Bool} (h : (rq3 l b).2 = ([], true)) : (rq4 l b).2 = ([], true) := by unfold rq4; exact txtV_at _ h
set_option maxRecDepth 100000 in
theorem rq5_bad {l : List UInt8} {b : Bool} (h : (rq4 l b).2 = ([], true)) : (rq5 l b).2 = ([], true) := by unfold rq5; exact txtV_at _ h
set_option maxRecDepth 100000 in
theorem rc4_at {s : List UInt8 × Bool} (h : s = ([], true)) : (rc4 s.1 s.2).2 = ([], true) := by rw [h]; exact rc4_bad _
set_option maxRecDepth 100000 in
theorem rqF_bad {l : List UInt8} {b : Bool} (h : (rq5 l b).2 = ([], true)) : rqF l b = ([], true) := by
  unfold rqF
  rw [rc4_at h]
set_option maxRecDepth 100000 in
theorem chg_app {k i n h : Int} {r : List UInt8} (hk : R64 k) (hi : R64 i) (hn : R64 n) (hh : R64 h) (hr : r.length = 32) (rest : List UInt8) :
    rc0 (numBytes k ++ (numBytes i ++ (numBytes n ++ (numBytes h ++ (r ++ rest))))) false = (k, numBytes i ++ (numBytes n ++ (numBytes h ++ (r ++ rest))), false) ∧
    rc1 (numBytes k ++ (numBytes i ++ (numBytes n ++ (numBytes h ++ (r ++ rest))))) false = (i, numBytes n ++ (numBytes h ++ (r ++ rest)), false) ∧
    rc2 (numBytes k ++ (numBytes i ++ (numBytes n ++ (numBytes h ++ (r ++ rest))))) false = (n, numBytes h ++ (r ++ rest), false) ∧
    rc3 (numBytes k ++ (numBytes i ++ (numBytes n ++ (numBytes h ++ (r ++ rest))))) false = (h, r ++ rest, false) ∧
    rc4 (numBytes k ++ (numBytes i ++ (numBytes n ++ (numBytes h ++ (r ++ rest))))) false = (r, rest, false) := by
  have e0 : rc0 (numBytes k ++ (numBytes i ++ (numBytes n ++ (numBytes h ++ (r ++ rest))))) false = (k, numBytes i ++ (numBytes n ++ (numBytes h ++ (r ++ rest))), false) := nuV_app hk _
  have e1 : rc1 (numBytes k ++ (numBytes i ++ (numBytes n ++ (numBytes h ++ (r ++ rest))))) false = (i, numBytes n ++ (numBytes h ++ (r ++ rest)), false) := by unfold rc1; rw [e0]; exact nuV_app hi _
  have e2 : rc2 (numBytes k ++ (numBytes i ++ (numBytes n ++ (numBytes h ++ (r ++ rest))))) false = (n, numBytes h ++ (r ++ rest), false) := by unfold rc2; rw [e1]; exact nuV_app hn _
  have e3 : rc3 (numBytes k ++ (numBytes i ++ (numBytes n ++ (numBytes h ++ (r ++ rest))))) false = (h, r ++ rest, false) := by unfold rc3; rw [e2]; exact nuV_app hh _
  exact ⟨e0, e1, e2, e3, by unfold rc4; rw [e3]; exact dgV_app hr _⟩

set_option maxRecDepth 100000 in
/-- There and back. -/
theorem req_back (x : ReqX) (hw : x.Wf) (rest : List UInt8) : rqF (reqB x ++ rest) false = (if reqGood x = true then (rest, false) else ([], true)) ∧ (reqGood x = true → rqX (reqB x ++ rest) false = x) := by
  have E : reqB x ++ rest = numBytes x.client ++ (numBytes x.num ++ (numBytes x.kind ++ (textBytes x.key ++ (textBytes x.val ++ (textBytes x.old ++ (numBytes x.ck ++ (numBytes x.cid ++ (numBytes x.cn ++ (numBytes x.high ++ (x.root ++ rest)))))))))) := by
    unfold reqB; simp only [List.append_assoc]
  rw [E]
  obtain ⟨d0, d1, d2, d3, d4⟩ := chg_app hw.ck hw.cid hw.cn hw.high x.len rest
  generalize hL : numBytes x.ck ++ (numBytes x.cid ++ (numBytes x.cn ++ (numBytes x.high ++ (x.root ++ rest)))) = L at *
  generalize hT : numBytes x.client ++ (numBytes x.num ++ (numBytes x.kind ++ (textBytes x.key ++ (textBytes x.val ++ (textBytes x.old ++ L))))) = T at *
  have e0 : rq0 T false = if 1 ≤ x.client ∧ x.client ≤ 64 then (x.client, numBytes x.num ++ (numBytes x.kind ++ (textBytes x.key ++ (textBytes x.val ++ (textBytes x.old ++ L)))), false) else (0, [], true) := by rw [← hT]; exact inV_app hw.client _ _ _
  by_cases g0 : 1 ≤ x.client ∧ x.client ≤ 64
  rotate_left
  · rw [if_neg g0] at e0
    have hg : reqGood x = false := by unfold reqGood; rw [decide_eq_false g0]; rfl
    have hf : rqF T false = ([], true) := rqF_bad (rq5_bad (rq4_bad (rq3_bad (rq2_bad (rq1_bad (by rw [e0]))))))
    rw [hg, if_neg (by decide)]
    exact ⟨hf, fun h => by cases h⟩
  rw [if_pos g0] at e0
  have e1 : rq1 T false = if 1 ≤ x.num ∧ x.num ≤ 1099511627776 then (x.num, numBytes x.kind ++ (textBytes x.key ++ (textBytes x.val ++ (textBytes x.old ++ L))), false) else (0, [], true) := by unfold rq1; rw [e0]; exact inV_app hw.num _ _ _
  by_cases g1 : 1 ≤ x.num ∧ x.num ≤ 1099511627776
  rotate_left
  · rw [if_neg g1] at e1
    have hg : reqGood x = false := by unfold reqGood; rw [decide_eq_false g1]; simp
    have hf : rqF T false = ([], true) := rqF_bad (rq5_bad (rq4_bad (rq3_bad (rq2_bad (by rw [e1])))))
    rw [hg, if_neg (by decide)]
    exact ⟨hf, fun h => by cases h⟩
  rw [if_pos g1] at e1
  have e2 : rq2 T false = if 1 ≤ x.kind ∧ x.kind ≤ 7 then (x.kind, textBytes x.key ++ (textBytes x.val ++ (textBytes x.old ++ L)), false) else (0, [], true) := by unfold rq2; rw [e1]; exact inV_app hw.kind _ _ _
  by_cases g2 : 1 ≤ x.kind ∧ x.kind ≤ 7
  rotate_left
  · rw [if_neg g2] at e2
    have hg : reqGood x = false := by unfold reqGood; rw [decide_eq_false g2]; simp
    have hf : rqF T false = ([], true) := rqF_bad (rq5_bad (rq4_bad (rq3_bad (by rw [e2]))))
    rw [hg, if_neg (by decide)]
    exact ⟨hf, fun h => by cases h⟩
  rw [if_pos g2] at e2
  have e3 : rq3 T false = if (x.key.size : Int) ≤ 1024 then (x.key.data.toList, textBytes x.val ++ (textBytes x.old ++ L), false) else ([], [], true) := by unfold rq3; rw [e2]; exact txtV_app hw.key _ _
  by_cases g3 : (x.key.size : Int) ≤ 1024
  rotate_left
  · rw [if_neg g3] at e3
    have hg : reqGood x = false := by unfold reqGood; rw [decide_eq_false (p := x.key.size ≤ 1024) (by omega)]; simp
    have hf : rqF T false = ([], true) := rqF_bad (rq5_bad (rq4_bad (by rw [e3])))
    rw [hg, if_neg (by decide)]
    exact ⟨hf, fun h => by cases h⟩
  rw [if_pos g3] at e3
  have e4 : rq4 T false = if (x.val.size : Int) ≤ 1024 then (x.val.data.toList, textBytes x.old ++ L, false) else ([], [], true) := by unfold rq4; rw [e3]; exact txtV_app hw.val _ _
  by_cases g4 : (x.val.size : Int) ≤ 1024
  rotate_left
  · rw [if_neg g4] at e4
    have hg : reqGood x = false := by unfold reqGood; rw [decide_eq_false (p := x.val.size ≤ 1024) (by omega)]; simp
    have hf : rqF T false = ([], true) := rqF_bad (rq5_bad (by rw [e4]))
    rw [hg, if_neg (by decide)]
    exact ⟨hf, fun h => by cases h⟩
  rw [if_pos g4] at e4
  have e5 : rq5 T false = if (x.old.size : Int) ≤ 1024 then (x.old.data.toList, L, false) else ([], [], true) := by unfold rq5; rw [e4]; exact txtV_app hw.old _ _
  by_cases g5 : (x.old.size : Int) ≤ 1024
  rotate_left
  · rw [if_neg g5] at e5
    have hg : reqGood x = false := by unfold reqGood; rw [decide_eq_false (p := x.old.size ≤ 1024) (by omega)]; simp
    have hf : rqF T false = ([], true) := rqF_bad (by rw [e5])
    rw [hg, if_neg (by decide)]
    exact ⟨hf, fun h => by cases h⟩
  rw [if_pos g5] at e5
  have hg : reqGood x = true := by
    unfold reqGood
    rw [decide_eq_true g0, decide_eq_true g1, decide_eq_true g2, decide_eq_true (p := x.key.size ≤ 1024) (by omega), decide_eq_true (p := x.val.size ≤ 1024) (by omega), decide_eq_true (p := x.old.size ≤ 1024) (by omega)]; rfl
  have f5 : (rq5 T false).2 = (L, false) := by rw [e5]
  have hf : rqF T false = (rest, false) := by unfold rqF; rw [f5, d4]
  rw [hg, if_pos rfl]
  refine ⟨hf, fun _ => ?_⟩
  have hn : ¬ ((rqF T false).2 = true) := by rw [hf]; simp
  have hx : ∀ hl, (⟨(rq0 T false).1, (rq1 T false).1, (rq2 T false).1, ⟨(rq3 T false).1.toArray⟩, ⟨(rq4 T false).1.toArray⟩, ⟨(rq5 T false).1.toArray⟩,
    (rc0 (rq5 T false).2.1 (rq5 T false).2.2).1, (rc1 (rq5 T false).2.1 (rq5 T false).2.2).1, (rc2 (rq5 T false).2.1 (rq5 T false).2.2).1, (rc4 (rq5 T false).2.1 (rq5 T false).2.2).1, (rc3 (rq5 T false).2.1 (rq5 T false).2.2).1, hl⟩ : ReqX) = x := by
    intro hl
    refine ReqX.same (by rw [e0]) (by rw [e1]) (by rw [e2]) ?_ ?_ ?_ ?_ ?_ ?_ ?_ ?_
    · show (⟨(rq3 T false).1.toArray⟩ : ByteArray) = _; rw [e3]
    · show (⟨(rq4 T false).1.toArray⟩ : ByteArray) = _; rw [e4]
    · show (⟨(rq5 T false).1.toArray⟩ : ByteArray) = _; rw [e5]
    · show (rc0 (rq5 T false).2.1 (rq5 T false).2.2).1 = _; rw [f5]; show (rc0 L false).1 = _; rw [d0]
    · show (rc1 (rq5 T false).2.1 (rq5 T false).2.2).1 = _; rw [f5]; show (rc1 L false).1 = _; rw [d1]
    · show (rc2 (rq5 T false).2.1 (rq5 T false).2.2).1 = _; rw [f5]; show (rc2 L false).1 = _; rw [d2]
    · show (rc4 (rq5 T false).2.1 (rq5 T false).2.2).1 = _; rw [f5]; show (rc4 L false).1 = _; rw [d4]
    · show (rc3 (rq5 T false).2.1 (rq5 T false).2.2).1 = _; rw [f5]; show (rc3 L false).1 = _; rw [d3]
  clear e0 e1 e2 e3 e4 e5 d0 d1 d2 d3 d4 hf
  unfold rqX
  rw [if_neg hn]
  exact hx _

set_option maxRecDepth 100000 in
theorem num_cut {n m : Int} (hn : R64 n) (hm : R64 m) {r s : List UInt8} (h : numBytes n ++ r = numBytes m ++ s) : n = m ∧ r = s := by
  have e := congrArg (fun l => nuV l false) h
  simp only [nuV_app hn, nuV_app hm, Prod.mk.injEq] at e
  exact ⟨e.1, e.2.1⟩
set_option maxRecDepth 100000 in
theorem text_cut {a b : ByteArray} (ha : a.size < 4294967296) (hb : b.size < 4294967296) {r s : List UInt8} (h : textBytes a ++ r = textBytes b ++ s) : a = b ∧ r = s := by
  have e := congrArg (fun l => txtV 4294967296 l false) h
  simp only [txtV_app ha, txtV_app hb] at e
  rw [if_pos (by omega), if_pos (by omega)] at e
  simp only [Prod.mk.injEq] at e
  refine ⟨?_, e.2.1⟩
  cases a; cases b
  congr 1
  exact Array.toList_inj.1 e.1

set_option maxRecDepth 100000 in
theorem req_one {x y : ReqX} (hx : x.Wf) (hy : y.Wf) : reqB x = reqB y ↔ x = y := by
  refine ⟨fun h => ?_, fun h => by rw [h]⟩
  unfold reqB at h
  obtain ⟨h1, h⟩ := num_cut hx.client hy.client h
  obtain ⟨h2, h⟩ := num_cut hx.num hy.num h
  obtain ⟨h3, h⟩ := num_cut hx.kind hy.kind h
  obtain ⟨h4, h⟩ := text_cut hx.key hy.key h
  obtain ⟨h5, h⟩ := text_cut hx.val hy.val h
  obtain ⟨h6, h⟩ := text_cut hx.old hy.old h
  obtain ⟨h7, h⟩ := num_cut hx.ck hy.ck h
  obtain ⟨h8, h⟩ := num_cut hx.cid hy.cid h
  obtain ⟨h9, h⟩ := num_cut hx.cn hy.cn h
  obtain ⟨h11, h10⟩ := num_cut hx.high hy.high h
  exact ReqX.same h1 h2 h3 h4 h5 h6 h7 h8 h9 h10 h11

/-- A reply's bytes. -/
def repB (c n k : Int) (vs : List ByteArray) : List UInt8 := numBytes c ++ (numBytes n ++ (numBytes k ++ (numBytes (vs.length : Int) ++ vs.flatMap textBytes)))
set_option maxRecDepth 100000 in
theorem texts_one : ∀ {a b : List ByteArray}, a.length = b.length → (∀ s ∈ a, s.size < 4294967296) → (∀ s ∈ b, s.size < 4294967296) → a.flatMap textBytes = b.flatMap textBytes → a = b
  | [], [], _, _, _, _ => rfl
  | [], _ :: _, h, _, _, _ => by simp at h
  | _ :: _, [], h, _, _, _ => by simp at h
  | x :: a, y :: b, h, ha, hb, e => by
    rw [List.flatMap_cons, List.flatMap_cons] at e
    obtain ⟨h1, h2⟩ := text_cut (ha x List.mem_cons_self) (hb y List.mem_cons_self) e
    rw [h1, texts_one (by simpa using h) (fun s hs => ha s (List.mem_cons_of_mem _ hs)) (fun s hs => hb s (List.mem_cons_of_mem _ hs)) h2]
set_option maxRecDepth 100000 in
theorem rep_one {c n k c' n' k' : Int} {vs vs' : List ByteArray} (h1 : R64 c) (h2 : R64 n) (h3 : R64 k) (h1' : R64 c') (h2' : R64 n') (h3' : R64 k') (hl : vs.length ≤ 4096) (hl' : vs'.length ≤ 4096)
    (hv : ∀ s ∈ vs, s.size < 4294967296) (hv' : ∀ s ∈ vs', s.size < 4294967296) : repB c n k vs = repB c' n' k' vs' ↔ c = c' ∧ n = n' ∧ k = k' ∧ vs = vs' := by
  refine ⟨fun h => ?_, fun ⟨e1, e2, e3, e4⟩ => by rw [e1, e2, e3, e4]⟩
  unfold repB at h
  obtain ⟨e1, h⟩ := num_cut h1 h1' h
  obtain ⟨e2, h⟩ := num_cut h2 h2' h
  obtain ⟨e3, h⟩ := num_cut h3 h3' h
  obtain ⟨e4, h⟩ := num_cut (by unfold R64; omega) (by unfold R64; omega) h
  exact ⟨e1, e2, e3, texts_one (by omega) hv hv' h⟩

/-- Texts that are read, one behind the other. -/
def rvS : Nat → List UInt8 → Bool → List UInt8 × Bool
  | 0, l, b => (l, b)
  | k + 1, l, b => (txtV 1024 (rvS k l b).1 (rvS k l b).2).2
def rvAt (l : List UInt8) (b : Bool) (i : Nat) : ByteArray := ⟨(txtV 1024 (rvS i l b).1 (rvS i l b).2).1.toArray⟩
def rvsT (n : Nat) (l : List UInt8) (b : Bool) : List ByteArray := (List.range n).map (rvAt l b)
set_option maxRecDepth 100000 in
theorem rvsT_len (n : Nat) (l : List UInt8) (b : Bool) : (rvsT n l b).length = n := by unfold rvsT; simp
set_option maxRecDepth 100000 in
theorem rvsT_succ (n : Nat) (l : List UInt8) (b : Bool) : rvsT (n + 1) l b = rvsT n l b ++ [rvAt l b n] := by unfold rvsT; rw [List.range_succ, List.map_append]; rfl
set_option maxRecDepth 100000 in
theorem rvS_bad : ∀ (k : Nat), rvS k [] true = ([], true)
  | 0 => rfl
  | k + 1 => by unfold rvS; rw [rvS_bad k, txtV_bad]
set_option maxRecDepth 100000 in
theorem rvS_add (i : Nat) (l : List UInt8) (b : Bool) : ∀ j, rvS (i + j) l b = rvS j (rvS i l b).1 (rvS i l b).2
  | 0 => rfl
  | j + 1 => by show (txtV 1024 (rvS (i + j) l b).1 (rvS (i + j) l b).2).2 = _; rw [rvS_add i l b j]; rfl
/-- And a reply. -/
def rp2 (l : List UInt8) (b : Bool) := inV 0 1024 (rq1 l b).2.1 (rq1 l b).2.2
def rp3 (l : List UInt8) (b : Bool) := inV 0 256 (rp2 l b).2.1 (rp2 l b).2.2
def rpN (l : List UInt8) (b : Bool) : Nat := (rp3 l b).1.toNat
def rpF (l : List UInt8) (b : Bool) : List UInt8 × Bool := rvS (rpN l b) (rp3 l b).2.1 (rp3 l b).2.2
set_option maxRecDepth 100000 in
theorem inV_in (lo hi : Int) (hlo : lo ≤ 0) (hhi : 0 ≤ hi) (l : List UInt8) (b : Bool) : lo ≤ (inV lo hi l b).1 ∧ (inV lo hi l b).1 ≤ hi := by
  unfold inV
  by_cases h : numV l b < lo ∨ hi < numV l b
  · rw [if_pos h]; exact ⟨hlo, hhi⟩
  · rw [if_neg h]; exact ⟨by omega, by omega⟩
set_option maxRecDepth 100000 in
theorem rp3_in (l : List UInt8) (b : Bool) : (rp3 l b).1 = (rpN l b : Int) ∧ rpN l b ≤ 256 := by
  have h := inV_in 0 256 (by omega) (by omega) (rp2 l b).2.1 (rp2 l b).2.2
  unfold rpN rp3
  omega
set_option maxRecDepth 100000 in
/-- Behind a fault nothing is left. -/
theorem inV_left (lo hi : Int) (l : List UInt8) (b : Bool) (h : (inV lo hi l b).2.2 = true) : (inV lo hi l b).2.1 = [] := by
  unfold inV at *
  by_cases h1 : numV l b < lo ∨ hi < numV l b
  · rw [if_pos h1]
  · rw [if_neg h1] at h ⊢
    by_cases h2 : b = false ∧ 8 ≤ l.length
    · unfold tk at h; rw [if_pos h2] at h; cases h
    · rw [tk_no h2]

end Go.Proofs.YtapdnoellleimaaDoor

namespace Go.Proofs.YtapdnoellleimaaDoor
open Go.RowKit

/-! ### Structs compared, field by field -/
section
variable {P : Program} {d : Nat} {w : World} {xs ys : Array Value}
set_option maxRecDepth 100000 in
theorem eqF_nil : (Op.eqFields d xs ys []).run P w = .ok true w := rfl
set_option maxRecDepth 100000 in
theorem eqF_cons {f : Field} {fs : List Field} {a b : Bool} {x y : Value} {ty : TypeId} {off : Nat} (n : decide (f.name ≠ "_") = true ∧ f.type = ty ∧ f.offset = off) (hx : (part ty xs off).run P w = .ok x w) (hy : (part ty ys off).run P w = .ok y w)
    (he : (Op.equalIn d ty x y).run P w = .ok a w) (h : (Op.eqFields d xs ys fs).run P w = .ok b w) : (Op.eqFields d xs ys (f :: fs)).run P w = .ok (a && b) w := by
  obtain ⟨n0, rfl, rfl⟩ := n
  unfold Op.eqFields
  rw [if_pos (of_decide_eq_true n0), Sem.run_bind, hx, Result.andThen_ok, Sem.run_bind, hy, Result.andThen_ok, Sem.run_bind, he, Result.andThen_ok]
  cases a
  · rw [if_pos (by simp)]
    rfl
  · rw [if_neg (by simp), h]
    rfl
set_option maxRecDepth 100000 in
theorem part_agg {ty : TypeId} {fs : Array Field} {off n : Nat} {pre mid post : List Value} (hu : P.underlying ty = some (.struct fs)) (hi : (P.info? ty).map (·.size) = some n) (ho : pre.length = off) (hm : mid.length = n) :
    (part ty (pre ++ (mid ++ post)).toArray off).run P w = .ok (.agg mid.toArray) w := by
  obtain ⟨i, hi1⟩ := info_of_underlying hu
  rw [hi1] at hi
  simp only [Option.map_some, Option.some.injEq] at hi
  have hsz : P.cellsOf ty = n := by unfold Program.cellsOf; rw [hi1]; simpa using hi
  have e : List.take (P.cellsOf ty) (List.drop off (pre ++ (mid ++ post))) = mid := by
    rw [hsz, ← ho, ← hm]
    simp
  unfold part isAgg
  simp only [Sem.run_bind, run_underlying hu, Result.andThen_ok]
  simp [run_sizeOf w hi1, e]
end
set_option maxRecDepth 100000 in
theorem run_eq_str (d : Nat) (a b : ByteArray) (w : World) : (Op.equalIn (d + 1) 9 (.string a) (.string b)).run Tryd.prog w = .ok (decide (a = b)) w := by
  rw [run_equalIn_string w d 9 a b Tryd.underlying9]
  congr 1
  rw [Bool.eq_iff_iff]
  simp only [beq_iff_eq, decide_eq_true_iff, ByteArray.toList_eq]
  refine ⟨fun h => ?_, fun h => by rw [h]⟩
  cases a; cases b
  congr 1
  exact Array.toList_inj.1 h
set_option maxRecDepth 100000 in
theorem run_eq_int (d : Nat) (a b : Int) (w : World) : (Op.equalIn (d + 1) 3 (.int .i64 a) (.int .i64 b)).run Tryd.prog w = .ok (decide (a = b)) w := by
  rw [run_equalIn_int w d 3 .i64 .i64 a b Tryd.underlying3]
  congr 1

/-! ### A request's cells -/
def opL (x : ReqX) : List Value := .int .i64 x.kind :: .string x.key :: .string x.val :: .string x.old :: chgL x.ck x.cid x.cn x.root x.high
def ReqX.cells (x : ReqX) : List Value := .int .i64 x.client :: .int .i64 x.num :: opL x
def ReqX.enc (x : ReqX) : Value := .agg x.cells.toArray
set_option maxRecDepth 100000 in
theorem opL_len (x : ReqX) : (opL x).length = 40 := by
  unfold opL
  simp only [List.length_cons, chg_len x.len]
set_option maxRecDepth 100000 in
theorem ReqX.cells_len (x : ReqX) : x.cells.length = 42 := by
  unfold ReqX.cells
  simp only [List.length_cons, opL_len x]
set_option maxRecDepth 100000 in
theorem ReqX.cells_one (x : ReqX) : ∀ v ∈ x.cells, v.oneCell' = true := by
  intro v hv
  unfold ReqX.cells opL chgL at hv
  simp only [List.mem_cons] at hv
  rcases hv with rfl | rfl | rfl | rfl | rfl | rfl | rfl | rfl | rfl | hv <;> first | rfl | exact keyL_one _ _ v hv
abbrev zreqV : Array Value := #[.int .i64 0, .int .i64 0, .int .i64 0, .string ⟨#[]⟩, .string ⟨#[]⟩, .string ⟨#[]⟩, .int .i64 0, .int .i64 0, .int .i64 0, .int .u8 0, .int .u8 0, .int .u8 0, .int .u8 0, .int .u8 0, .int .u8 0, .int .u8 0, .int .u8 0, .int .u8 0, .int .u8 0, .int .u8 0, .int .u8 0, .int .u8 0, .int .u8 0, .int .u8 0, .int .u8 0, .int .u8 0, .int .u8 0, .int .u8 0, .int .u8 0, .int .u8 0, .int .u8 0, .int .u8 0, .int .u8 0, .int .u8 0, .int .u8 0, .int .u8 0, .int .u8 0, .int .u8 0, .int .u8 0, .int .u8 0, .int .u8 0, .int .i64 0]
set_option maxRecDepth 100000 in
theorem zeros_len : zeros.length = 32 := rfl
set_option maxRecDepth 100000 in
theorem zreq_cells : zreq.cells.toArray = zreqV := rfl
abbrev zchgV : Array Value := #[.int .i64 0, .int .i64 0, .int .i64 0, .int .u8 0, .int .u8 0, .int .u8 0, .int .u8 0, .int .u8 0, .int .u8 0, .int .u8 0, .int .u8 0, .int .u8 0, .int .u8 0, .int .u8 0, .int .u8 0, .int .u8 0, .int .u8 0, .int .u8 0, .int .u8 0, .int .u8 0, .int .u8 0, .int .u8 0, .int .u8 0, .int .u8 0, .int .u8 0, .int .u8 0, .int .u8 0, .int .u8 0, .int .u8 0, .int .u8 0, .int .u8 0, .int .u8 0, .int .u8 0, .int .u8 0, .int .u8 0, .int .i64 0]
set_option maxRecDepth 100000 in
theorem zchg_cells : (chgL 0 0 0 zeros 0).toArray = zchgV := rfl

/-! ### What is frozen -/
/-! ### One part of a request or a change is put -/
set_option maxRecDepth 100000 in
theorem Box.put_in {w : World} {g o : Nat} {t : TypeId} {pre post : List Value} {v : Value} (h : Box w g t (pre ++ (v :: post)).toArray) (ho : pre.length = o) (u : Value) : Box (w.setCell ⟨g, o, none⟩ u) g t (pre ++ (u :: post)).toArray := by
  subst ho
  have e : (pre ++ (v :: post)).toArray.setIfInBounds pre.length u = (pre ++ (u :: post)).toArray := by
    apply Array.ext'
    simp
  have := h.put pre.length u
  rwa [e] at this
section
variable {w : World} {g : Nat} {t : TypeId} {x : ReqX} (h : Box w g t x.cells.toArray)
include h
set_option maxRecDepth 100000 in
theorem Box.put_client (u : Int) : Box (w.setCell ⟨g, 0, none⟩ (.int .i64 u)) g t ({ x with client := u } : ReqX).cells.toArray := Box.put_in (pre := []) h rfl _
set_option maxRecDepth 100000 in
theorem Box.put_num (u : Int) : Box (w.setCell ⟨g, 1, none⟩ (.int .i64 u)) g t ({ x with num := u } : ReqX).cells.toArray := Box.put_in (pre := [.int .i64 x.client]) h rfl _
set_option maxRecDepth 100000 in
theorem Box.put_kind (u : Int) : Box (w.setCell ⟨g, 2, none⟩ (.int .i64 u)) g t ({ x with kind := u } : ReqX).cells.toArray := Box.put_in (pre := [.int .i64 x.client, .int .i64 x.num]) h rfl _
set_option maxRecDepth 100000 in
theorem Box.put_key (u : ByteArray) : Box (w.setCell ⟨g, 3, none⟩ (.string u)) g t ({ x with key := u } : ReqX).cells.toArray := Box.put_in (pre := [.int .i64 x.client, .int .i64 x.num, .int .i64 x.kind]) h rfl _
set_option maxRecDepth 100000 in
theorem Box.put_val (u : ByteArray) : Box (w.setCell ⟨g, 4, none⟩ (.string u)) g t ({ x with val := u } : ReqX).cells.toArray := Box.put_in (pre := [.int .i64 x.client, .int .i64 x.num, .int .i64 x.kind, .string x.key]) h rfl _
set_option maxRecDepth 100000 in
theorem Box.put_old (u : ByteArray) : Box (w.setCell ⟨g, 5, none⟩ (.string u)) g t ({ x with old := u } : ReqX).cells.toArray := Box.put_in (pre := [.int .i64 x.client, .int .i64 x.num, .int .i64 x.kind, .string x.key, .string x.val]) h rfl _
set_option maxRecDepth 100000 in
theorem Box.put_ck (u : Int) : Box (w.setCell ⟨g, 6, none⟩ (.int .i64 u)) g t ({ x with ck := u } : ReqX).cells.toArray := Box.put_in (pre := [.int .i64 x.client, .int .i64 x.num, .int .i64 x.kind, .string x.key, .string x.val, .string x.old]) h rfl _
set_option maxRecDepth 100000 in
theorem Box.put_cid (u : Int) : Box (w.setCell ⟨g, 7, none⟩ (.int .i64 u)) g t ({ x with cid := u } : ReqX).cells.toArray := Box.put_in (pre := [.int .i64 x.client, .int .i64 x.num, .int .i64 x.kind, .string x.key, .string x.val, .string x.old, .int .i64 x.ck]) h rfl _
set_option maxRecDepth 100000 in
theorem Box.put_cn (u : Int) : Box (w.setCell ⟨g, 8, none⟩ (.int .i64 u)) g t ({ x with cn := u } : ReqX).cells.toArray := Box.put_in (pre := [.int .i64 x.client, .int .i64 x.num, .int .i64 x.kind, .string x.key, .string x.val, .string x.old, .int .i64 x.ck, .int .i64 x.cid]) h rfl _
set_option maxRecDepth 100000 in
theorem Box.put_high (u : Int) : Box (w.setCell ⟨g, 41, none⟩ (.int .i64 u)) g t ({ x with high := u } : ReqX).cells.toArray :=
  Box.put_in (pre := [.int .i64 x.client, .int .i64 x.num, .int .i64 x.kind, .string x.key, .string x.val, .string x.old, .int .i64 x.ck, .int .i64 x.cid, .int .i64 x.cn] ++ x.root.map bv) (v := .int .i64 x.high) (post := []) h (by simp [x.len]) _
set_option maxRecDepth 100000 in
theorem Box.put_root (d : List UInt8) (hd : d.length = 32) : (stDigest (.pointer (some ⟨g, 9, none⟩)) (.agg (d.map bv).toArray)).run Tryd.prog w = .ok () (w.setCells g 9 (d.map bv)) ∧ Box (w.setCells g 9 (d.map bv)) g t ({ x with root := d, len := hd } : ReqX).cells.toArray ∧ w.grownBy (w.setCells g 9 (d.map bv)) (some g) :=
  ⟨h.store_mid (o := 9) (by rw [List.size_toArray, x.cells_len]; decide) d hd,
    Box.put_mid (pre := [.int .i64 x.client, .int .i64 x.num, .int .i64 x.kind, .string x.key, .string x.val, .string x.old, .int .i64 x.ck, .int .i64 x.cid, .int .i64 x.cn]) (mid := x.root.map bv) (post := [.int .i64 x.high]) h rfl (by simp [x.len, hd]), only_cells (g := g) _ 9 w⟩
end

/-! ### The same, of a request whose parts are written out -/
section
variable {w : World} {g : Nat} {t : TypeId} {c n k a1 a2 a3 hh : Int} {s1 s2 s3 : ByteArray} {r : List UInt8} {hr : r.length = 32} (h : Box w g t (ReqX.mk c n k s1 s2 s3 a1 a2 a3 r hh hr).cells.toArray)
include h
set_option maxRecDepth 100000 in
theorem Box.rk_client (u : Int) : Box (w.setCell ⟨g, 0, none⟩ (.int .i64 u)) g t (ReqX.mk u n k s1 s2 s3 a1 a2 a3 r hh hr).cells.toArray := Box.put_client h u
set_option maxRecDepth 100000 in
theorem Box.rk_num (u : Int) : Box (w.setCell ⟨g, 1, none⟩ (.int .i64 u)) g t (ReqX.mk c u k s1 s2 s3 a1 a2 a3 r hh hr).cells.toArray := Box.put_num h u
set_option maxRecDepth 100000 in
theorem Box.rk_kind (u : Int) : Box (w.setCell ⟨g, 2, none⟩ (.int .i64 u)) g t (ReqX.mk c n u s1 s2 s3 a1 a2 a3 r hh hr).cells.toArray := Box.put_kind h u
set_option maxRecDepth 100000 in
theorem Box.rk_key (u : ByteArray) : Box (w.setCell ⟨g, 3, none⟩ (.string u)) g t (ReqX.mk c n k u s2 s3 a1 a2 a3 r hh hr).cells.toArray := Box.put_key h u
set_option maxRecDepth 100000 in
theorem Box.rk_val (u : ByteArray) : Box (w.setCell ⟨g, 4, none⟩ (.string u)) g t (ReqX.mk c n k s1 u s3 a1 a2 a3 r hh hr).cells.toArray := Box.put_val h u
set_option maxRecDepth 100000 in
theorem Box.rk_old (u : ByteArray) : Box (w.setCell ⟨g, 5, none⟩ (.string u)) g t (ReqX.mk c n k s1 s2 u a1 a2 a3 r hh hr).cells.toArray := Box.put_old h u
set_option maxRecDepth 100000 in
theorem Box.rk_ck (u : Int) : Box (w.setCell ⟨g, 6, none⟩ (.int .i64 u)) g t (ReqX.mk c n k s1 s2 s3 u a2 a3 r hh hr).cells.toArray := Box.put_ck h u
set_option maxRecDepth 100000 in
theorem Box.rk_cid (u : Int) : Box (w.setCell ⟨g, 7, none⟩ (.int .i64 u)) g t (ReqX.mk c n k s1 s2 s3 a1 u a3 r hh hr).cells.toArray := Box.put_cid h u
set_option maxRecDepth 100000 in
theorem Box.rk_cn (u : Int) : Box (w.setCell ⟨g, 8, none⟩ (.int .i64 u)) g t (ReqX.mk c n k s1 s2 s3 a1 a2 u r hh hr).cells.toArray := Box.put_cn h u
set_option maxRecDepth 100000 in
theorem Box.rk_high (u : Int) : Box (w.setCell ⟨g, 41, none⟩ (.int .i64 u)) g t (ReqX.mk c n k s1 s2 s3 a1 a2 a3 r u hr).cells.toArray := Box.put_high h u
set_option maxRecDepth 100000 in
theorem Box.rk_root (d : List UInt8) (hd : d.length = 32) : (stDigest (.pointer (some ⟨g, 9, none⟩)) (.agg (d.map bv).toArray)).run Tryd.prog w = .ok () (w.setCells g 9 (d.map bv)) ∧ Box (w.setCells g 9 (d.map bv)) g t (ReqX.mk c n k s1 s2 s3 a1 a2 a3 d hh hd).cells.toArray ∧ w.grownBy (w.setCells g 9 (d.map bv)) (some g) := Box.put_root h d hd
end

/-! ### A change's own block -/
section
variable {w : World} {g : Nat} {t : TypeId} {k i n hh : Int} {r : List UInt8} (h : Box w g t (chgL k i n r hh).toArray)
include h
set_option maxRecDepth 100000 in
theorem Box.chg_ck (u : Int) : Box (w.setCell ⟨g, 0, none⟩ (.int .i64 u)) g t (chgL u i n r hh).toArray := Box.put_in (pre := []) h rfl _
set_option maxRecDepth 100000 in
theorem Box.chg_cid (u : Int) : Box (w.setCell ⟨g, 1, none⟩ (.int .i64 u)) g t (chgL k u n r hh).toArray := Box.put_in (pre := [.int .i64 k]) h rfl _
set_option maxRecDepth 100000 in
theorem Box.chg_cn (u : Int) : Box (w.setCell ⟨g, 2, none⟩ (.int .i64 u)) g t (chgL k i u r hh).toArray := Box.put_in (pre := [.int .i64 k, .int .i64 i]) h rfl _
set_option maxRecDepth 100000 in
theorem Box.chg_high (hr : r.length = 32) (u : Int) : Box (w.setCell ⟨g, 35, none⟩ (.int .i64 u)) g t (chgL k i n r u).toArray :=
  Box.put_in (pre := [.int .i64 k, .int .i64 i, .int .i64 n] ++ r.map bv) (v := .int .i64 hh) (post := []) h (by simp [hr]) _
set_option maxRecDepth 100000 in
theorem Box.chg_root (hr : r.length = 32) (d : List UInt8) (hd : d.length = 32) : (stDigest (.pointer (some ⟨g, 3, none⟩)) (.agg (d.map bv).toArray)).run Tryd.prog w = .ok () (w.setCells g 3 (d.map bv)) ∧ Box (w.setCells g 3 (d.map bv)) g t (chgL k i n d hh).toArray ∧ w.grownBy (w.setCells g 3 (d.map bv)) (some g) :=
  ⟨h.store_mid (o := 3) (by rw [List.size_toArray, chg_len hr]; decide) d hd,
    Box.put_mid (pre := [.int .i64 k, .int .i64 i, .int .i64 n]) (mid := r.map bv) (post := [.int .i64 hh]) h rfl (by simp [hr, hd]), only_cells (g := g) _ 3 w⟩
end
set_option maxRecDepth 100000 in
theorem Box.chg_3 {w : World} {g : Nat} {t : TypeId} {k i n hh : Int} {r : List UInt8} (h : Box w g t (chgL k i n r hh).toArray) : w.rangeAt g 3 (r.map bv) := Box.range_mid (pre := [Value.int .i64 k, .int .i64 i, .int .i64 n]) (post := [.int .i64 hh]) h rfl
set_option maxRecDepth 100000 in
theorem Box.chg_35 {w : World} {g : Nat} {t : TypeId} {k i n hh : Int} {r : List UInt8} (h : Box w g t (chgL k i n r hh).toArray) (hr : r.length = 32) : w.cell? ⟨g, 35, none⟩ = some (.int .i64 hh) := by
  rw [h.cell, List.getElem?_toArray]
  show (r.map bv ++ [Value.int .i64 hh])[32]? = _
  rw [List.getElem?_append_right (by simp [hr])]
  simp [hr]
/-! ### What a request's block holds -/
section
variable {w : World} {g : Nat} {t : TypeId} {x : ReqX} (h : Box w g t x.cells.toArray)
include h
set_option maxRecDepth 100000 in
theorem Box.rq_cell {j : Nat} {v : Value} (e : x.cells[j]? = some v) : w.cell? ⟨g, j, none⟩ = some v := by rw [h.cell, List.getElem?_toArray, e]
set_option maxRecDepth 100000 in
theorem Box.rq_high : w.cell? ⟨g, 41, none⟩ = some (.int .i64 x.high) := h.rq_cell (by
  show (chgL x.ck x.cid x.cn x.root x.high)[35]? = _
  show (x.root.map bv ++ [Value.int .i64 x.high])[32]? = _
  rw [List.getElem?_append_right (by simp [x.len])]
  simp [x.len])
set_option maxRecDepth 100000 in
theorem Box.rq_root : w.rangeAt g 9 (x.root.map bv) := Box.range_mid (pre := [.int .i64 x.client, .int .i64 x.num, .int .i64 x.kind, .string x.key, .string x.val, .string x.old, .int .i64 x.ck, .int .i64 x.cid, .int .i64 x.cn]) (post := [.int .i64 x.high]) h rfl
set_option maxRecDepth 100000 in
theorem Box.rq_chg : w.rangeAt g 6 (chgL x.ck x.cid x.cn x.root x.high) := by
  have hb : Box w g t ([Value.int .i64 x.client, .int .i64 x.num, .int .i64 x.kind, .string x.key, .string x.val, .string x.old] ++ (chgL x.ck x.cid x.cn x.root x.high ++ [])).toArray := by rw [List.append_nil]; exact h
  exact Box.range_mid hb rfl
end

/-! ### Comparison -/
end Go.Proofs.YtapdnoellleimaaDoor

namespace Go.Proofs.YtapdnoellleimaaDoor
open Go.RowKit

def rqIn (n lo hi : Int) : Bool := decide (lo ≤ n) && decide (n ≤ hi)
/-! ### No text is longer than one can be -/
def rqLong (s : ByteArray) : Bool := decide (1024 < (s.size : Int))
def posL (ss : List ByteArray) : Nat := ss.findIdx rqLong
def posLI (ss : List ByteArray) : Int := if posL ss < ss.length then (posL ss : Int) else -1
set_option maxRecDepth 100000 in
theorem posL_le (ss : List ByteArray) : posL ss ≤ ss.length := List.findIdx_le_length
set_option maxRecDepth 100000 in
theorem posL_ne {ss : List ByteArray} {j : Nat} (h : j < posL ss) (hj : j < ss.length) : rqLong (ss[j]'hj) = false := by
  have := List.not_of_lt_findIdx h
  simpa using this
set_option maxRecDepth 100000 in
theorem posL_eq {ss : List ByteArray} (h : posL ss < ss.length) : rqLong (ss[posL ss]'h) = true := List.findIdx_getElem (w := h)

/-! ### Good -/
set_option maxRecDepth 100000 in
theorem rqGood_eq (x : ReqX) : reqGood x = (rqIn x.client 1 64 && (rqIn x.num 1 1099511627776 && (rqIn x.kind 1 7 && !([x.key, x.val, x.old].any rqLong)))) := by
  unfold reqGood rqIn rqLong
  rw [Bool.eq_iff_iff]
  simp only [Bool.and_eq_true, decide_eq_true_iff, List.any_cons, List.any_nil, Bool.not_eq_true', Bool.or_false, Bool.or_eq_false_iff, decide_eq_false_iff_not]
  omega

def reqLong (x : ReqX) : Bool := decide (4096 < (x.key.size : Int)) || (decide (4096 < (x.val.size : Int)) || decide (4096 < (x.old.size : Int)))
end Go.Proofs.YtapdnoellleimaaDoor
