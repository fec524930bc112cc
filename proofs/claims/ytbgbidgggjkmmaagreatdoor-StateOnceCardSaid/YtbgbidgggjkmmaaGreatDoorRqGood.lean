/-
  Requests: whether one can be (request.Good, the document's Good); wapentakelaw09.long.
-/
import Derived.Test.YtbgbidgggjkmmaaGreatDoorRqKit
import Derived.Test.YtbgbidgggjkmmaaGreatDoorChecked
import Derived.WalkKit
import Derived.Deep.QuietTactic
import Derived.BigQuiet
import Derived.Lib.QuietBelow
import Derived.KernelRfl
import Derived.LoopTactic
import Derived.LoopN
import Derived.Lib.Hide
namespace Go.Proofs.YtbgbidgggjkmmaaGreatDoor
open Go.RowKit

def rqIn (n lo hi : Int) : Bool := decide (lo ≤ n) && decide (n ≤ hi)
set_option maxRecDepth 100000 in
theorem rqwithin_any (n lo hi : Int) (w : World) : Calls Tryz.prog 42 #[.int .i64 n, .int .i64 lo, .int .i64 hi] w fun e w' => e = .returned (.bool (rqIn n lo hi)) ∧ w = w' := by
  unfold rqIn
  by_cases h : lo ≤ n
  · have e : decide (lo ≤ n) = true := by simpa using h
    rw [e, Bool.true_and]
    clear e
    go_enter Tryz.func42, Tryz.ntmps42
    go_wp2
    go_ret
    exact ⟨rfl, rfl⟩
  · have e : decide (lo ≤ n) = false := by simpa using h
    rw [e, Bool.false_and]
    clear e
    go_enter Tryz.func42, Tryz.ntmps42
    go_wp2
    go_ret
    exact ⟨rfl, rfl⟩

/-! ### No text is longer than one can be -/
set_option maxRecDepth 100000 in
theorem short1_any (s : ByteArray) (w : World) : Calls Tryz.prog 52 #[.string s] w fun e w' => e = .returned (.bool (decide (1024 < (s.size : Int)))) ∧ w = w' := by
  go_enter Tryz.func52, Tryz.ntmps52
  go_wp2
  go_ret
  exact ⟨rfl, rfl⟩
def rqLong (s : ByteArray) : Bool := decide (1024 < (s.size : Int))
def posL (ss : List ByteArray) : Nat := ss.findIdx rqLong
def posLI (ss : List ByteArray) : Int := if posL ss < ss.length then (posL ss : Int) else -1
set_option maxRecDepth 100000 in
theorem posL_le (ss : List ByteArray) : posL ss ≤ ss.length := List.findIdx_le_length
set_option maxRecDepth 100000 in
theorem posL_ne {ss : List ByteArray} {j : Nat} (h : j < posL ss) (hj : j < ss.length) : rqLong (ss[j]'hj) = false := by
  have := List.not_of_lt_findIdx h
  simpa using this
set_option maxRecDepth 100000 in
theorem posL_eq {ss : List ByteArray} (h : posL ss < ss.length) : rqLong (ss[posL ss]'h) = true := List.findIdx_getElem (w := h)

set_option maxRecDepth 100000 in
set_option maxHeartbeats 1000000 in
theorem index_long (ss : List ByteArray) (A : Option Addr) (c : Nat) (hn : ss.length ≤ maxLen) (w : World) (hS : Sees w w.heap.size A (ss.map Value.string)) :
    Calls Tryz.prog 58 #[.slice A ss.length c, .func (.func 52) #[] #[]] w fun e w' => e = .returned (.int .i64 (posLI ss)) ∧ w = w' := by
  have HS := Lib.hid hS
  have HN : Hid (ss.length ≤ 9223372036854775807) := Lib.hid (Nat.le_trans hn (by simp [maxLen]))
  have HP := Lib.hid (posL_le ss)
  clear hS hn
  go_enter Tryz.func58, Tryz.ntmps58
  go_wp2
  go_loopw [8] (fun n wr => ∃ k : Nat, k ≤ posL ss ∧ n = .int .i64 (k : Int) ∧ w = wr) (fun n _ => ss.length - (intOf n).toNat)
  case atStart => exact ⟨0, Nat.zero_le _, rfl, rfl⟩
  case round =>
    obtain ⟨k, hk, rfl, rfl⟩ := hrel
    by_cases hlt : k < ss.length
    · obtain ⟨g, oo, rfl, _, hr⟩ := HS.out.at_ (k := k) (by simpa using hlt)
      simp only [List.getElem_map] at hr
      have HK := Lib.hid (short1_any (ss[k]'hlt) w)
      have HLE := Lib.hid hlt
      have wk : IntKind.i64.wrap ((k : Int) + 1) = ((k + 1 : Nat) : Int) := by
        rw [IntKind.wrap_i64]
        have := HN.out
        omega
      have i1 : (k : Int) < (ss.length : Int) := by omega
      have HQ : Hid (k < posL ss ∧ rqLong (ss[k]'hlt) = false ∨ k = posL ss ∧ rqLong (ss[k]'hlt) = true) := Lib.hid (by
        rcases Nat.lt_or_ge k (posL ss) with h | h
        · exact .inl ⟨h, by simpa using posL_ne h hlt⟩
        · have e : k = posL ss := by omega
          refine .inr ⟨e, ?_⟩
          have h2 := posL_eq (ss := ss) (by omega)
          simp only [← e] at h2
          simpa using h2)
      unfold rqLong at HQ
      generalize ss[k]'hlt = x at *
      rcases HQ.out with ⟨h, hb⟩ | ⟨h, hb⟩
      · rw [hb] at HK
        have HH := Lib.hid h
        clear hb h hk HQ
        go_wp2_with ((with_reducible refine (HK.out).mono ?_); rintro e w2 ⟨rfl, rfl⟩)
        go_roundw
        case rel => exact ⟨k + 1, HH.out, by go_num, by first | rfl | trivial⟩
        case measure => have := HLE.out; simp [intOf]; omega
      · rw [hb] at HK
        have HH : Hid (posLI ss = (k : Int)) := Lib.hid (by unfold posLI; rw [← h, if_pos hlt])
        clear hb h hk HQ
        go_wp2_with ((with_reducible refine (HK.out).mono ?_); rintro e w2 ⟨rfl, rfl⟩)
        go_ret
        exact ⟨by rw [HH.out]; rfl, rfl⟩
    · have HH : Hid (posLI ss = -1) := Lib.hid (by unfold posLI; have := HP.out; rw [if_neg (by omega)])
      have i1 : ¬ (k : Int) < (ss.length : Int) := by omega
      go_wp2
      go_ret
      exact ⟨by rw [HH.out]; rfl, rfl⟩
set_option maxRecDepth 100000 in
theorem contains_long (ss : List ByteArray) (A : Option Addr) (c : Nat) (hn : ss.length ≤ maxLen) (w : World) (hS : Sees w w.heap.size A (ss.map Value.string)) :
    Calls Tryz.prog 51 #[.slice A ss.length c, .func (.func 52) #[] #[]] w fun e w' => e = .returned (.bool (ss.any rqLong)) ∧ w = w' := by
  have HI := Lib.hid (index_long ss A c hn w hS)
  have HE : Hid (decide (0 ≤ posLI ss) = ss.any rqLong) := Lib.hid (by
    rw [Bool.eq_iff_iff]
    simp only [decide_eq_true_iff]
    rw [List.any_eq_true]
    unfold posLI
    by_cases h : posL ss < ss.length
    · rw [if_pos h]
      exact ⟨fun _ => ⟨_, List.getElem_mem h, posL_eq h⟩, fun _ => by omega⟩
    · rw [if_neg h]
      refine ⟨fun h => by omega, fun ⟨x, hx, hb⟩ => ?_⟩
      exact absurd (List.findIdx_lt_length_of_exists ⟨x, hx, hb⟩) h)
  clear hS
  generalize posLI ss = k at *
  go_enter Tryz.func51, Tryz.ntmps51
  go_wp2_with (go_at_call 58; (with_reducible refine (HI.out).mono ?_); rintro e w2 ⟨rfl, rfl⟩)
  go_ret
  exact ⟨ret_val (congrArg Value.bool HE.out), rfl⟩
set_option maxRecDepth 100000 in
theorem short_any (ss : List ByteArray) (A : Option Addr) (c : Nat) (hn : ss.length ≤ maxLen) (w : World) (hS : Sees w w.heap.size A (ss.map Value.string)) :
    Calls Tryz.prog 43 #[.slice A ss.length c] w fun e w' => e = .returned (.bool (!ss.any rqLong)) ∧ w = w' := by
  have HI := Lib.hid (contains_long ss A c hn w hS)
  clear hS
  generalize ss.any rqLong = b at *
  go_enter Tryz.func43, Tryz.ntmps43
  go_wp2_with (go_at_call 51; (with_reducible refine (HI.out).mono ?_); rintro e w2 ⟨rfl, rfl⟩)
  go_ret
  exact ⟨rfl, rfl⟩

/-! ### Good -/
set_option maxRecDepth 100000 in
theorem rqGood_eq (x : ReqX) : reqGood x = (rqIn x.client 1 64 && (rqIn x.num 1 1099511627776 && (rqIn x.kind 1 7 && !([x.key, x.val, x.old].any rqLong)))) := by
  unfold reqGood rqIn rqLong
  rw [Bool.eq_iff_iff]
  simp only [Bool.and_eq_true, decide_eq_true_iff, List.any_cons, List.any_nil, Bool.not_eq_true', Bool.or_false, Bool.or_eq_false_iff, decide_eq_false_iff_not]
  omega

set_option maxRecDepth 100000 in
set_option maxHeartbeats 1000000 in
theorem good_any9 (x : ReqX) (w : World) : Calls Tryz.prog 37 #[.agg x.cells.toArray] w fun e w' => e = .returned (.bool (reqGood x)) ∧ Below w.heap.size w w' := by
  have HB : Hid (Box (w.alloc (.cells x.cells.toArray 56)) w.heap.size 56 x.cells.toArray) := Box.made _ _ _
  have c0 : (w.alloc (.cells x.cells.toArray 56)).cell? ⟨w.heap.size, 0, none⟩ = some (.int .i64 x.client) := HB.out.rq_cell rfl
  have c1 : (w.alloc (.cells x.cells.toArray 56)).cell? ⟨w.heap.size, 1, none⟩ = some (.int .i64 x.num) := HB.out.rq_cell rfl
  have c2 : (w.alloc (.cells x.cells.toArray 56)).cell? ⟨w.heap.size, 2, none⟩ = some (.int .i64 x.kind) := HB.out.rq_cell rfl
  have c3 : (w.alloc (.cells x.cells.toArray 56)).cell? ⟨w.heap.size, 3, none⟩ = some (.string x.key) := HB.out.rq_cell rfl
  have c4 : (w.alloc (.cells x.cells.toArray 56)).cell? ⟨w.heap.size, 4, none⟩ = some (.string x.val) := HB.out.rq_cell rfl
  have c5 : (w.alloc (.cells x.cells.toArray 56)).cell? ⟨w.heap.size, 5, none⟩ = some (.string x.old) := HB.out.rq_cell rfl
  have HF : Hid (Below w.heap.size w (w.alloc (.cells x.cells.toArray 56))) := Lib.hid ((Below.refl _ _).alloc (Nat.le_refl _) _)
  have H0 := Lib.hid (rqwithin_any x.client 1 64)
  have H1 := Lib.hid (rqwithin_any x.num 1 1099511627776)
  have H2 := Lib.hid (rqwithin_any x.kind 1 7)
  have H3 : Hid (Calls Tryz.prog 43 #[.slice (some ⟨w.heap.size + 1, 0, none⟩) 3 3] ((w.alloc (.cells x.cells.toArray 56)).alloc (.cells #[.string x.key, .string x.val, .string x.old] 9)) fun e w' => e = .returned (.bool (!([x.key, x.val, x.old].any rqLong))) ∧ ((w.alloc (.cells x.cells.toArray 56)).alloc (.cells #[.string x.key, .string x.val, .string x.old] 9)) = w') := Lib.hid (by
    have hb : Box ((w.alloc (.cells x.cells.toArray 56)).alloc (.cells #[.string x.key, .string x.val, .string x.old] 9)) (w.heap.size + 1) 9 #[.string x.key, .string x.val, .string x.old] := Box.made_at (by simp) _ _
    exact short_any [x.key, x.val, x.old] (some ⟨w.heap.size + 1, 0, none⟩) 3 (by simp [maxLen]) _ (Sees.of_box hb hb.lt))
  have HE := Lib.hid (rqGood_eq x)
  generalize reqGood x = r at *
  generalize rqIn x.client 1 64 = p0 at *
  generalize rqIn x.num 1 1099511627776 = p1 at *
  generalize rqIn x.kind 1 7 = p2 at *
  generalize (!([x.key, x.val, x.old].any rqLong)) = p3 at *
  generalize x.cells.toArray = cs at *
  generalize x.client = n0 at *
  generalize x.num = n1 at *
  generalize x.kind = n2 at *
  generalize x.key = s0 at *
  generalize x.val = s1 at *
  generalize x.old = s2 at *
  clear HB
  rcases p0 with _ | _
  · have HR : Hid (r = false) := Lib.hid (by rw [HE.out]; rfl)
    go_enter Tryz.func37, Tryz.ntmps37
    go_wp2_with (go_at_call 42; (with_reducible refine (H0.out _).mono ?_); rintro e w' ⟨rfl, rfl⟩)
    go_ret
    exact ⟨ret_val (congrArg Value.bool HR.out.symm), HF.out⟩
  rcases p1 with _ | _
  · have HR : Hid (r = false) := Lib.hid (by rw [HE.out]; rfl)
    go_enter Tryz.func37, Tryz.ntmps37
    go_wp2_with (first
      | (go_at_call 42; (with_reducible refine (H0.out _).mono ?_); rintro e w' ⟨rfl, rfl⟩)
      | (go_at_call 42; (with_reducible refine (H1.out _).mono ?_); rintro e w' ⟨rfl, rfl⟩))
    go_ret
    exact ⟨ret_val (congrArg Value.bool HR.out.symm), HF.out⟩
  rcases p2 with _ | _
  · have HR : Hid (r = false) := Lib.hid (by rw [HE.out]; rfl)
    go_enter Tryz.func37, Tryz.ntmps37
    go_wp2_with (first
      | (go_at_call 42; (with_reducible refine (H0.out _).mono ?_); rintro e w' ⟨rfl, rfl⟩)
      | (go_at_call 42; (with_reducible refine (H1.out _).mono ?_); rintro e w' ⟨rfl, rfl⟩)
      | (go_at_call 42; (with_reducible refine (H2.out _).mono ?_); rintro e w' ⟨rfl, rfl⟩))
    go_ret
    exact ⟨ret_val (congrArg Value.bool HR.out.symm), HF.out⟩
  have HR : Hid (r = p3) := Lib.hid (by rw [HE.out]; rfl)
  go_enter Tryz.func37, Tryz.ntmps37
  go_wp2_with (first
    | (go_at_call 42; (with_reducible refine (H0.out _).mono ?_); rintro e w' ⟨rfl, rfl⟩)
    | (go_at_call 42; (with_reducible refine (H1.out _).mono ?_); rintro e w' ⟨rfl, rfl⟩)
    | (go_at_call 42; (with_reducible refine (H2.out _).mono ?_); rintro e w' ⟨rfl, rfl⟩)
    | (go_at_call 43; (with_reducible refine (H3.out).mono ?_); rintro e w' ⟨rfl, rfl⟩))
  go_ret
  exact ⟨ret_val (congrArg Value.bool HR.out.symm), HF.out.alloc HF.out.size _⟩

set_option maxRecDepth 100000 in
set_option maxHeartbeats 1000000 in
theorem rgood_any9 (x : ReqX) (w : World) : Calls Tryz.prog 14 #[.agg x.cells.toArray] w fun e w' => e = .returned (.bool (reqGood x)) ∧ Below w.heap.size w w' := by
  have HB : Hid (Box (w.alloc (.cells x.cells.toArray 56)) w.heap.size 56 x.cells.toArray) := Box.made _ _ _
  have c0 : (w.alloc (.cells x.cells.toArray 56)).cell? ⟨w.heap.size, 0, none⟩ = some (.int .i64 x.client) := HB.out.rq_cell rfl
  have c1 : (w.alloc (.cells x.cells.toArray 56)).cell? ⟨w.heap.size, 1, none⟩ = some (.int .i64 x.num) := HB.out.rq_cell rfl
  have c2 : (w.alloc (.cells x.cells.toArray 56)).cell? ⟨w.heap.size, 2, none⟩ = some (.int .i64 x.kind) := HB.out.rq_cell rfl
  have c3 : (w.alloc (.cells x.cells.toArray 56)).cell? ⟨w.heap.size, 3, none⟩ = some (.string x.key) := HB.out.rq_cell rfl
  have c4 : (w.alloc (.cells x.cells.toArray 56)).cell? ⟨w.heap.size, 4, none⟩ = some (.string x.val) := HB.out.rq_cell rfl
  have c5 : (w.alloc (.cells x.cells.toArray 56)).cell? ⟨w.heap.size, 5, none⟩ = some (.string x.old) := HB.out.rq_cell rfl
  have HF : Hid (Below w.heap.size w (w.alloc (.cells x.cells.toArray 56))) := Lib.hid ((Below.refl _ _).alloc (Nat.le_refl _) _)
  have HE : Hid (reqGood x = (decide (1 ≤ x.client ∧ x.client ≤ 64) && decide (1 ≤ x.num ∧ x.num ≤ 1099511627776) && decide (1 ≤ x.kind ∧ x.kind ≤ 7) && (decide (x.key.size ≤ 1024) && decide (x.val.size ≤ 1024) && decide (x.old.size ≤ 1024)))) := Lib.hid rfl
  generalize reqGood x = r at *
  generalize x.cells.toArray = cs at *
  generalize x.client = n0 at *
  generalize x.num = n1 at *
  generalize x.kind = n2 at *
  generalize x.key = s0 at *
  generalize x.val = s1 at *
  generalize x.old = s2 at *
  clear HB
  by_cases h0 : n0 < 1
  · have HR : Hid (r = false) := Lib.hid (by rw [HE.out, decide_eq_false (p := 1 ≤ n0 ∧ n0 ≤ 64) (by omega)]; simp)
    clear HE
    go_enter Tryz.func14, Tryz.ntmps14
    go_wp2
    go_ret
    exact ⟨ret_val (congrArg Value.bool HR.out.symm), HF.out⟩
  by_cases h1 : 64 < n0
  · have HR : Hid (r = false) := Lib.hid (by rw [HE.out, decide_eq_false (p := 1 ≤ n0 ∧ n0 ≤ 64) (by omega)]; simp)
    clear HE
    go_enter Tryz.func14, Tryz.ntmps14
    go_wp2
    go_ret
    exact ⟨ret_val (congrArg Value.bool HR.out.symm), HF.out⟩
  by_cases h2 : n1 < 1
  · have HR : Hid (r = false) := Lib.hid (by rw [HE.out, decide_eq_false (p := 1 ≤ n1 ∧ n1 ≤ 1099511627776) (by omega)]; simp)
    clear HE
    go_enter Tryz.func14, Tryz.ntmps14
    go_wp2
    go_ret
    exact ⟨ret_val (congrArg Value.bool HR.out.symm), HF.out⟩
  by_cases h3 : 1099511627776 < n1
  · have HR : Hid (r = false) := Lib.hid (by rw [HE.out, decide_eq_false (p := 1 ≤ n1 ∧ n1 ≤ 1099511627776) (by omega)]; simp)
    clear HE
    go_enter Tryz.func14, Tryz.ntmps14
    go_wp2
    go_ret
    exact ⟨ret_val (congrArg Value.bool HR.out.symm), HF.out⟩
  by_cases h4 : n2 < 1
  · have HR : Hid (r = false) := Lib.hid (by rw [HE.out, decide_eq_false (p := 1 ≤ n2 ∧ n2 ≤ 7) (by omega)]; simp)
    clear HE
    go_enter Tryz.func14, Tryz.ntmps14
    go_wp2
    go_ret
    exact ⟨ret_val (congrArg Value.bool HR.out.symm), HF.out⟩
  by_cases h5 : 7 < n2
  · have HR : Hid (r = false) := Lib.hid (by rw [HE.out, decide_eq_false (p := 1 ≤ n2 ∧ n2 ≤ 7) (by omega)]; simp)
    clear HE
    go_enter Tryz.func14, Tryz.ntmps14
    go_wp2
    go_ret
    exact ⟨ret_val (congrArg Value.bool HR.out.symm), HF.out⟩
  have HE2 : Hid (r = (decide (s0.size ≤ 1024) && (decide (s1.size ≤ 1024) && decide (s2.size ≤ 1024)))) := Lib.hid (by rw [HE.out, decide_eq_true (p := 1 ≤ n0 ∧ n0 ≤ 64) (by omega), decide_eq_true (p := 1 ≤ n1 ∧ n1 ≤ 1099511627776) (by omega), decide_eq_true (p := 1 ≤ n2 ∧ n2 ≤ 7) (by omega)]; simp [Bool.and_assoc])
  clear HE
  by_cases k0 : (s0.size : Int) ≤ 1024
  rotate_left
  · have HR : Hid (r = false) := Lib.hid (by rw [HE2.out, decide_eq_false (p := s0.size ≤ 1024) (by omega)]; simp)
    clear HE2
    have e0 : decide ((s0.size : Int) ≤ 1024) = false := decide_eq_false k0
    go_enter Tryz.func14, Tryz.ntmps14
    go_wp2
    go_ret
    exact ⟨ret_val (congrArg Value.bool HR.out.symm), HF.out⟩
  by_cases k1 : (s1.size : Int) ≤ 1024
  rotate_left
  · have HR : Hid (r = false) := Lib.hid (by rw [HE2.out, decide_eq_false (p := s1.size ≤ 1024) (by omega)]; simp)
    clear HE2
    have e1 : decide ((s1.size : Int) ≤ 1024) = false := decide_eq_false k1
    go_enter Tryz.func14, Tryz.ntmps14
    go_wp2
    go_ret
    exact ⟨ret_val (congrArg Value.bool HR.out.symm), HF.out⟩
  have HR : Hid (r = decide ((s2.size : Int) ≤ 1024)) := Lib.hid (by rw [HE2.out, decide_eq_true (p := s0.size ≤ 1024) (by omega), decide_eq_true (p := s1.size ≤ 1024) (by omega), Bool.true_and, Bool.true_and, decide_eq_decide]; omega)
  clear HE2
  go_enter Tryz.func14, Tryz.ntmps14
  go_wp2
  go_ret
  exact ⟨ret_val (congrArg Value.bool HR.out.symm), HF.out⟩

def reqLong (x : ReqX) : Bool := decide (4096 < (x.key.size : Int)) || (decide (4096 < (x.val.size : Int)) || decide (4096 < (x.old.size : Int)))
end Go.Proofs.YtbgbidgggjkmmaaGreatDoor
