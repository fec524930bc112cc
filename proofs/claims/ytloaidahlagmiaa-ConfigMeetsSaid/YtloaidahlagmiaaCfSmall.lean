/-
  The calls of package config that make no loop, and the document's own counts.
-/
import Derived.Test.YtloaidahlagmiaaCfKit
import Derived.Test.YtloaidahlagmiaaChecked
import Derived.WalkKit
import Derived.Deep.QuietTactic
import Derived.BigQuiet
import Derived.Lib.QuietBelow
import Derived.KernelRfl
import Derived.LoopTactic
import Derived.Lib.Hide
namespace Go.Proofs.Ytloaidahlagmiaa
open Go.RowKit Go.Sort

def faultsN (n : Nat) : Nat := (n - 1) / 3
def quorumN (n : Nat) : Nat := (n + faultsN n) / 2 + 1
def inB (n lo hi : Int) : Bool := decide (lo ≤ n) && decide (n ≤ hi)
def fitsB (i h : Int) : Bool := inB i 1 63 && inB h 0 6

set_option maxRecDepth 100000 in
theorem cwithin_any (n lo hi : Int) (w : World) : Calls Try.prog 24 #[.int .i64 n, .int .i64 lo, .int .i64 hi] w fun e w' => e = .returned (.bool (inB n lo hi)) ∧ w = w' := by
  unfold inB
  by_cases h : lo ≤ n
  · have e : decide (lo ≤ n) = true := by simpa using h
    rw [e, Bool.true_and]
    clear e
    go_enter Try.func24, Try.ntmps24
    go_wp2
    go_ret
    exact ⟨rfl, rfl⟩
  · have e : decide (lo ≤ n) = false := by simpa using h
    rw [e, Bool.false_and]
    clear e
    go_enter Try.func24, Try.ntmps24
    go_wp2
    go_ret
    exact ⟨rfl, rfl⟩

set_option maxRecDepth 100000 in
theorem fits_any (x : MemX) (w : World) : Calls Try.prog 25 #[x.enc] w fun e w' => e = .returned (.bool (fitsB x.id x.high)) ∧ Below w.heap.size w w' := by
  have HB : Hid (Box (w.alloc (.cells x.cells.toArray 31)) w.heap.size 31 x.cells.toArray) := Box.made _ _ _
  have c0 : (w.alloc (.cells x.cells.toArray 31)).cell? ⟨w.heap.size, 0, none⟩ = some (.int .i64 x.id) := HB.out.cell 0
  have c33 : (w.alloc (.cells x.cells.toArray 31)).cell? ⟨w.heap.size, 33, none⟩ = some (.int .i64 x.high) := (HB.out.cell 33).trans (by rw [List.getElem?_toArray]; exact x.cell33)
  have HW := Lib.hid (cwithin_any x.id 1 63)
  have HV := Lib.hid (cwithin_any x.high 0 6)
  unfold fitsB
  generalize inB x.id 1 63 = p at *
  generalize inB x.high 0 6 = q at *
  unfold MemX.enc
  generalize x.cells.toArray = cs at *
  generalize x.id = i at *
  generalize x.high = hi at *
  clear HB
  cases p
  · go_enter Try.func25, Try.ntmps25
    go_wp2_with (go_at_call 24; (with_reducible refine (HW.out _).mono ?_); rintro e w' ⟨rfl, rfl⟩)
    go_ret
    exact ⟨rfl, (Below.refl _ _).alloc (Nat.le_refl _) _⟩
  · go_enter Try.func25, Try.ntmps25
    go_wp2_with (first
      | (go_at_call 24; (with_reducible refine (HW.out _).mono ?_); rintro e w' ⟨rfl, rfl⟩)
      | (go_at_call 24; (with_reducible refine (HV.out _).mono ?_); rintro e w' ⟨rfl, rfl⟩))
    go_ret
    exact ⟨rfl, (Below.refl _ _).alloc (Nat.le_refl _) _⟩

set_option maxRecDepth 100000 in
theorem right_any (x : MemX) (w : World) : Calls Try.prog 26 #[x.enc] w fun e w' => e = .returned (.bool (fitsB x.id x.high)) ∧ Below w.heap.size w w' := by
  have HB : Hid (Box (w.alloc (.cells x.cells.toArray 31)) w.heap.size 31 x.cells.toArray) := Box.made _ _ _
  have c0 : (w.alloc (.cells x.cells.toArray 31)).cell? ⟨w.heap.size, 0, none⟩ = some (.int .i64 x.id) := HB.out.cell 0
  have c33 : (w.alloc (.cells x.cells.toArray 31)).cell? ⟨w.heap.size, 33, none⟩ = some (.int .i64 x.high) := (HB.out.cell 33).trans (by rw [List.getElem?_toArray]; exact x.cell33)
  have HE : Hid (fitsB x.id x.high = (decide (0 < x.id) && (decide (x.id < 64) && (decide (0 ≤ x.high) && decide (x.high < 7))))) := Lib.hid (by
    unfold fitsB inB
    rw [Bool.eq_iff_iff]
    simp only [Bool.and_eq_true, decide_eq_true_iff]
    omega)
  unfold MemX.enc
  generalize fitsB x.id x.high = r at *
  generalize x.cells.toArray = cs at *
  generalize x.id = i at *
  generalize x.high = h at *
  clear HB
  by_cases h1 : 0 < i
  · by_cases h2 : i < 64
    · by_cases h3 : 0 ≤ h
      · have HR : Hid (r = decide (h < 7)) := Lib.hid (by rw [HE.out]; simp [h1, h2, h3])
        clear HE
        go_enter Try.func26, Try.ntmps26
        go_wp2
        go_ret
        exact ⟨ret_val (congrArg Value.bool HR.out.symm), (Below.refl _ _).alloc (Nat.le_refl _) _⟩
      · have HR : Hid (r = false) := Lib.hid (by rw [HE.out]; simp [h3])
        clear HE
        go_enter Try.func26, Try.ntmps26
        go_wp2
        go_ret
        exact ⟨ret_val (congrArg Value.bool HR.out.symm), (Below.refl _ _).alloc (Nat.le_refl _) _⟩
    · have HR : Hid (r = false) := Lib.hid (by rw [HE.out]; simp [h2])
      clear HE
      go_enter Try.func26, Try.ntmps26
      go_wp2
      go_ret
      exact ⟨ret_val (congrArg Value.bool HR.out.symm), (Below.refl _ _).alloc (Nat.le_refl _) _⟩
  · have HR : Hid (r = false) := Lib.hid (by rw [HE.out]; simp [h1])
    clear HE
    go_enter Try.func26, Try.ntmps26
    go_wp2
    go_ret
    exact ⟨ret_val (congrArg Value.bool HR.out.symm), (Below.refl _ _).alloc (Nat.le_refl _) _⟩

set_option maxRecDepth 100000 in
theorem faults_any (ep : Int) (A : Option Addr) (n c : Nat) (hn : n ≤ 9223372036854775807) (w : World) : Calls Try.prog 14 #[.agg (cfgV ep A n c)] w fun e w' => e = .returned (.int .i64 ((faultsN n : Nat) : Int)) ∧ Below w.heap.size w w' := by
  have e1 : IntKind.i64.wrap ((n : Int) - 1) = (n : Int) - 1 := by rw [IntKind.wrap_i64]; omega
  by_cases h : 2 ≤ n
  · have e2 : max ((n : Int) - 1) 0 = (n : Int) - 1 := by omega
    have h3 : (0 : Int) < (n : Int) - 1 := by omega
    have HE : Hid (((n : Int) - 1) / 3 = ((faultsN n : Nat) : Int)) := Lib.hid (by unfold faultsN; omega)
    generalize faultsN n = f at *
    go_enter Try.func14, Try.ntmps14
    go_wp2
    go_ret
    exact ⟨ret_val (congrArg (Value.int .i64) HE.out), (Below.refl _ _).alloc (Nat.le_refl _) _⟩
  · have hn2 : n = 0 ∨ n = 1 := by omega
    clear e1 h hn
    rcases hn2 with rfl | rfl
    all_goals
      go_enter Try.func14, Try.ntmps14
      go_wp2
      go_ret
      exact ⟨rfl, (Below.refl _ _).alloc (Nat.le_refl _) _⟩

set_option maxRecDepth 100000 in
/-- Of a world that has only grown. -/
theorem faults_far (ep : Int) (A : Option Addr) (n c : Nat) (hn : n ≤ 9223372036854775807) (w : World) (d : Nat) (os : Array Obj) : Calls Try.prog 14 #[.agg (cfgV ep A n c)] (Go.Sort.grow (redrawn w d) os) fun e w'' => e = .returned (.int .i64 ((faultsN n : Nat) : Int)) ∧ ∃ p : Regrown, w'' = Go.Sort.grow (redrawn w p.d) p.os :=
  Calls.regrown_of (faults_any ep A n c hn _)

set_option maxRecDepth 100000 in
theorem quorum_any (ep : Int) (A : Option Addr) (n c : Nat) (hn : n ≤ 1099511627776) (w : World) : Calls Try.prog 16 #[.agg (cfgV ep A n c)] w fun e w' => e = .returned (.int .i64 ((quorumN n : Nat) : Int)) ∧ Below w.heap.size w w' := by
  obtain ⟨w1, hw1⟩ : ∃ w1, w1 = w.alloc (.cells (cfgV ep A n c) 24) := ⟨_, rfl⟩
  have HB : Hid (Box w1 w.heap.size 24 (cfgV ep A n c)) := by
    rw [hw1]
    exact Box.made _ _ _
  have HF : Hid (Below w.heap.size w w1) := by
    rw [hw1]
    exact (Below.refl _ _).alloc (Nat.le_refl _) _
  have c0 : w1.cell? ⟨w.heap.size, 0, none⟩ = some (.int .i64 ep) := HB.out.cell 0
  have c1 : w1.cell? ⟨w.heap.size, 1, none⟩ = some (.slice A n c) := HB.out.cell 1
  have HC := Lib.hid (fun d os => faults_far ep A n c (by omega) w1 d os)
  have C0 := Lib.hid (fun d os => cell_regrown c0 d os)
  have C1 := Lib.hid (fun d os => cell_regrown c1 d os)
  have hf : faultsN n ≤ n := by unfold faultsN; omega
  have HE : Hid (((n : Int) + ((faultsN n : Nat) : Int)) / 2 + 1 = ((quorumN n : Nat) : Int)) := Lib.hid (by unfold quorumN; omega)
  generalize faultsN n = f at *
  generalize quorumN n = q at *
  have HN := Lib.hid hn
  clear c0 c1
  go_enter Try.func16, Try.ntmps16
  go_upto_region 1 with fail
  change Code.wp _ _ _ _ (w.alloc (.cells (cfgV ep A n c) 24))
  rw [← hw1]
  clear hw1 hn
  have s1 : IntKind.i64.wrap ((n : Int) + (f : Int)) = (n : Int) + f := by rw [IntKind.wrap_i64]; have := HN.out; omega
  have s2 : ((n : Int) + (f : Int)).tdiv 2 = ((n : Int) + f) / 2 := Int.tdiv_eq_ediv_of_nonneg (by omega)
  have s3 : IntKind.i64.wrap (((n : Int) + (f : Int)) / 2 + 1) = ((n : Int) + f) / 2 + 1 := by rw [IntKind.wrap_i64]; have := HN.out; omega
  have s4 : IntKind.i64.wrap (((n : Int) + (f : Int)) / 2) = ((n : Int) + f) / 2 := by rw [IntKind.wrap_i64]; have := HN.out; omega
  have d0 := C0.out
  have d1 := C1.out
  have n0 : (0 : Int) ≤ (n : Int) + f := by omega
  refine wp_region_quiet_below (by kernel_rfl) (by kernel_rfl) ?_
  repeat (quiet_step ((go_at_call 14; with_reducible exact HC.out _ _)))
  refine wpQuiet_nil ?_
  intro _ hw'
  obtain ⟨⟨dq, osq⟩, hw''⟩ := hw'
  subst hw''
  clear d0 d1
  go_wp2
  go_ret
  exact ⟨ret_val (congrArg (Value.int .i64) HE.out), HF.out.trans ((below_regrown w1 dq osq).mono HF.out.size)⟩
set_option maxRecDepth 100000 in
theorem weak_any (ep : Int) (A : Option Addr) (n c : Nat) (hn : n ≤ 1099511627776) (w : World) : Calls Try.prog 18 #[.agg (cfgV ep A n c)] w fun e w' => e = .returned (.int .i64 ((faultsN n + 1 : Nat) : Int)) ∧ Below w.heap.size w w' := by
  have HB : Hid (Box (w.alloc (.cells (cfgV ep A n c) 24)) w.heap.size 24 (cfgV ep A n c)) := Box.made _ _ _
  have c0 : (w.alloc (.cells (cfgV ep A n c) 24)).cell? ⟨w.heap.size, 0, none⟩ = some (.int .i64 ep) := HB.out.cell 0
  have c1 : (w.alloc (.cells (cfgV ep A n c) 24)).cell? ⟨w.heap.size, 1, none⟩ = some (.slice A n c) := HB.out.cell 1
  have HC := Lib.hid (faults_any ep A n c (by omega) (w.alloc (.cells (cfgV ep A n c) 24)))
  have hf : faultsN n ≤ n := by unfold faultsN; omega
  have HE : Hid (((faultsN n : Nat) : Int) + 1 = ((faultsN n + 1 : Nat) : Int)) := Lib.hid (by omega)
  generalize faultsN n = f at *
  generalize (f + 1 : Nat) = q at *
  have hf1 : (f : Int) ≤ 1099511627776 := by omega
  have hf0 : (0 : Int) ≤ (f : Int) := by omega
  go_enter Try.func18, Try.ntmps18
  go_wp2_with (go_at_call 14; (with_reducible refine (HC.out).mono ?_); rintro e w' ⟨rfl, hb⟩; have HB2 := Lib.hid hb; clear hb)
  go_ret
  exact ⟨ret_val (congrArg (Value.int .i64) HE.out), ((Below.refl _ _).alloc (Nat.le_refl _) _).trans (HB2.out.mono (by simp))⟩

set_option maxRecDepth 100000 in
theorem rfaults_any (n : Nat) (hn : n ≤ 1099511627776) (w : World) : Calls Try.prog 15 #[.int .i64 (n : Int)] w fun e w' => e = .returned (.int .i64 ((faultsN n : Nat) : Int)) ∧ w = w' := by
  have hm : 3 * faultsN n ≤ n - 1 ∧ n ≤ 3 * faultsN n + 3 := by unfold faultsN; omega
  generalize faultsN n = f at *
  go_enter Try.func15, Try.ntmps15
  go_wp2
  go_loop [3] (fun i => ∃ k : Nat, k ≤ f ∧ i = .int .i64 (k : Int)) (fun i => f - (intOf i).toNat)
  case atStart => exact ⟨0, Nat.zero_le _, rfl⟩
  case round =>
    obtain ⟨k, hk, rfl⟩ := hrel
    by_cases hlt : k < f
    · have h1 : 3 * ((k : Int) + 1) + 1 ≤ (n : Int) := by omega
      go_wp2
      go_round
      case rel => exact ⟨k + 1, by omega, by go_num⟩
      case measure => simp [intOf]; omega
    · obtain rfl : k = f := by omega
      by_cases h0 : n = 0
      · subst h0
        have h1 : ¬ 3 * ((k : Int) + 1) + 1 ≤ 0 := by omega
        go_wp2
        go_ret
        exact ⟨rfl, rfl⟩
      · have h1 : ¬ 3 * ((k : Int) + 1) + 1 ≤ (n : Int) := by omega
        go_wp2
        go_ret
        exact ⟨rfl, rfl⟩

set_option maxRecDepth 100000 in
theorem rquorum_any (n : Nat) (hn : n ≤ 1099511627776) (w : World) : Calls Try.prog 17 #[.int .i64 (n : Int)] w fun e w' => e = .returned (.int .i64 ((quorumN n : Nat) : Int)) ∧ w = w' := by
  have HC := Lib.hid (rfaults_any n hn w)
  have hm : 2 * (quorumN n - 1) ≤ n + faultsN n ∧ n + faultsN n < 2 * quorumN n ∧ 1 ≤ quorumN n ∧ faultsN n ≤ n := by unfold quorumN faultsN; omega
  generalize faultsN n = f at *
  generalize quorumN n = q at *
  go_enter Try.func17, Try.ntmps17
  go_wp2
  go_loop [3] (fun i => ∃ k : Nat, k ≤ q ∧ i = .int .i64 (k : Int)) (fun i => q - (intOf i).toNat)
  case atStart => exact ⟨0, Nat.zero_le _, rfl⟩
  case round =>
    obtain ⟨k, hk, rfl⟩ := hrel
    have hf1 : (f : Int) ≤ (n : Int) := by omega
    have hf0 : (0 : Int) ≤ (f : Int) := by omega
    by_cases hlt : k < q
    · have h1 : 2 * (k : Int) ≤ (n : Int) + f := by omega
      go_wp2_with (go_at_call 15; (with_reducible refine (HC.out).mono ?_); rintro e w' ⟨rfl, rfl⟩)
      go_round
      case rel => exact ⟨k + 1, by omega, by go_num⟩
      case measure => simp [intOf]; omega
    · obtain rfl : k = q := by omega
      have h1 : ¬ 2 * (k : Int) ≤ (n : Int) + f := by omega
      go_wp2_with (go_at_call 15; (with_reducible refine (HC.out).mono ?_); rintro e w' ⟨rfl, rfl⟩)
      go_ret
      exact ⟨rfl, rfl⟩
end Go.Proofs.Ytloaidahlagmiaa
