/-
  A member is looked for: slices.IndexFunc by its two closures, config.Find, config.has, the document's Place.
-/
import Derived.Test.YtloaidahlagmiaaCfSmall
import Derived.LoopN
namespace Go.Proofs.Ytloaidahlagmiaa
open Go.RowKit Go.Sort

/-- The first member of a number; as many as there are: none. -/
def posN (ms : List MemX) (i : Int) : Nat := ms.findIdx (fun m => m.id == i)
def posI (ms : List MemX) (i : Int) : Int := if posN ms i < ms.length then (posN ms i : Int) else -1
def hasB (ms : List MemX) (i : Int) : Bool := decide (posN ms i < ms.length)
def findM (ms : List MemX) (i : Int) : MemX := if posN ms i < ms.length then ms.getD (posN ms i) zmem else zmem
def findN (ms : List MemX) (i : Int) : Nat := if posN ms i < ms.length then posN ms i else 0
set_option maxRecDepth 100000 in
theorem posN_le (ms : List MemX) (i : Int) : posN ms i ≤ ms.length := List.findIdx_le_length
set_option maxRecDepth 100000 in
theorem posN_ne {ms : List MemX} {i : Int} {j : Nat} (h : j < posN ms i) (hj : j < ms.length) : (ms[j]'hj).id ≠ i := by
  have := List.not_of_lt_findIdx h
  simpa using this
set_option maxRecDepth 100000 in
theorem posN_eq {ms : List MemX} {i : Int} (h : posN ms i < ms.length) : (ms[posN ms i]'h).id = i := by
  have := List.findIdx_getElem (p := fun m : MemX => m.id == i) (w := h)
  exact eq_of_beq this

attribute [local go_sem ↓] ldMem_def stMem_def eqMem_def bdMem_def

set_option maxRecDepth 100000 in
theorem find1_any (x : MemX) (i : Int) (b : Nat) (w : World) (hc : w.cell? ⟨b, 0, none⟩ = some (.int .i64 i)) : Calls Try.prog 23 #[x.enc, .pointer (some ⟨b, 0, none⟩)] w fun e w' => e = .returned (.bool (x.id == i)) ∧ Below w.heap.size w w' := by
  have HB : Hid (Box (w.alloc (.cells x.cells.toArray 31)) w.heap.size 31 x.cells.toArray) := Box.made _ _ _
  have c0 : (w.alloc (.cells x.cells.toArray 31)).cell? ⟨w.heap.size, 0, none⟩ = some (.int .i64 x.id) := HB.out.cell 0
  have c1 : (w.alloc (.cells x.cells.toArray 31)).cell? ⟨b, 0, none⟩ = some (.int .i64 i) := (((Below.refl w.heap.size w).alloc (Nat.le_refl _) _).cell (p := ⟨b, 0, none⟩) (by have := World.block_lt_of_cell? w _ hc; exact this)).trans hc
  unfold MemX.enc
  generalize x.cells.toArray = cs at *
  generalize x.id = n at *
  clear HB hc
  go_enter Try.func23, Try.ntmps23
  go_wp2
  go_ret
  exact ⟨rfl, (Below.refl _ _).alloc (Nat.le_refl _) _⟩
set_option maxRecDepth 100000 in
theorem behind1_any (x : MemX) (i : Int) (b : Nat) (w : World) (hc : w.cell? ⟨b, 1, none⟩ = some (.int .i64 i)) : Calls Try.prog 33 #[x.enc, .pointer (some ⟨b, 0, none⟩)] w fun e w' => e = .returned (.bool (x.id == i)) ∧ Below w.heap.size w w' := by
  have HB : Hid (Box (w.alloc (.cells x.cells.toArray 31)) w.heap.size 31 x.cells.toArray) := Box.made _ _ _
  have c0 : (w.alloc (.cells x.cells.toArray 31)).cell? ⟨w.heap.size, 0, none⟩ = some (.int .i64 x.id) := HB.out.cell 0
  have c1 : (w.alloc (.cells x.cells.toArray 31)).cell? ⟨b, 1, none⟩ = some (.int .i64 i) := (((Below.refl w.heap.size w).alloc (Nat.le_refl _) _).cell (p := ⟨b, 1, none⟩) (by have := World.block_lt_of_cell? w _ hc; exact this)).trans hc
  unfold MemX.enc
  generalize x.cells.toArray = cs at *
  generalize x.id = n at *
  clear HB hc
  go_enter Try.func33, Try.ntmps33
  go_wp2
  go_ret
  exact ⟨rfl, (Below.refl _ _).alloc (Nat.le_refl _) _⟩

set_option maxRecDepth 100000 in
set_option maxHeartbeats 1000000 in
theorem index_id (ms : List MemX) (A : Option Addr) (c : Nat) (hn : ms.length ≤ maxLen) (i : Int) (b : Nat) (w : World) (hS : Mems w w.heap.size A ms) (hc : w.cell? ⟨b, 0, none⟩ = some (.int .i64 i)) :
    Calls Try.prog 22 #[.slice A ms.length c, .func (.func 23) #[] #[.pointer (some ⟨b, 0, none⟩)]] w fun e w' => e = .returned (.int .i64 (posI ms i)) ∧ Below w.heap.size w w' := by
  have HS := Lib.hid hS
  have HC := Lib.hid hc
  have HBL : Hid (b < w.heap.size) := Lib.hid (by have := World.block_lt_of_cell? w _ hc; exact this)
  have HN : Hid (ms.length ≤ 9223372036854775807) := Lib.hid (Nat.le_trans hn (by simp [maxLen]))
  have HP := Lib.hid (posN_le ms i)
  clear hS hc hn
  go_enter Try.func22, Try.ntmps22
  go_wp2
  go_loopw [8] (fun n wr => ∃ k : Nat, k ≤ posN ms i ∧ n = .int .i64 (k : Int) ∧ Hid (Below w.heap.size w wr)) (fun n _ => ms.length - (intOf n).toNat)
  case atStart => exact ⟨0, Nat.zero_le _, rfl, Lib.hid (Below.refl _ _)⟩
  case round =>
    obtain ⟨k, hk, rfl, HF⟩ := hrel
    by_cases hlt : k < ms.length
    · obtain ⟨g, oo, rfl, _, hr⟩ := (HS.out.far HF.out).range hlt
      have lk := range_mem (hr k hlt)
      have HK := Lib.hid (find1_any (ms[k]'hlt) i b wr ((HF.out.cell (p := ⟨b, 0, none⟩) HBL.out).trans HC.out))
      have HLE := Lib.hid hlt
      have wk : IntKind.i64.wrap ((k : Int) + 1) = ((k + 1 : Nat) : Int) := by
        rw [IntKind.wrap_i64]
        have := HN.out
        omega
      have i1 : (k : Int) < (ms.length : Int) := by omega
      have HQ : Hid (k < posN ms i ∧ ((ms[k]'hlt).id == i) = false ∨ k = posN ms i ∧ ((ms[k]'hlt).id == i) = true) := Lib.hid (by
        rcases Nat.lt_or_ge k (posN ms i) with h | h
        · exact .inl ⟨h, by simpa using posN_ne h hlt⟩
        · have e : k = posN ms i := by omega
          refine .inr ⟨e, ?_⟩
          have h2 := posN_eq (ms := ms) (i := i) (by omega)
          simp only [← e] at h2
          simpa using h2)
      generalize ms[k]'hlt = x at *
      clear hr
      rcases HQ.out with ⟨h, hb⟩ | ⟨h, hb⟩
      · rw [hb] at HK
        have HH := Lib.hid h
        clear hb h hk HQ
        go_wp2_with ((with_reducible refine (HK.out).mono ?_); rintro e w2 ⟨rfl, hb2⟩; have HB2 := Lib.hid hb2; clear hb2)
        go_roundw
        case rel => exact ⟨k + 1, HH.out, by go_num, Lib.hid (HF.out.trans (HB2.out.mono HF.out.size))⟩
        case measure => have := HLE.out; simp [intOf]; omega
      · rw [hb] at HK
        have HH : Hid (posI ms i = (k : Int)) := Lib.hid (by unfold posI; rw [← h, if_pos hlt])
        clear hb h hk HQ
        go_wp2_with ((with_reducible refine (HK.out).mono ?_); rintro e w2 ⟨rfl, hb2⟩; have HB2 := Lib.hid hb2; clear hb2)
        go_ret
        exact ⟨by rw [HH.out]; rfl, HF.out.trans (HB2.out.mono HF.out.size)⟩
    · have HH : Hid (posI ms i = -1) := Lib.hid (by unfold posI; have := HP.out; rw [if_neg (by omega)])
      have i1 : ¬ (k : Int) < (ms.length : Int) := by omega
      go_wp2
      go_ret
      exact ⟨by rw [HH.out]; rfl, HF.out⟩

set_option maxRecDepth 100000 in
set_option maxHeartbeats 1000000 in
theorem index_gone (ms : List MemX) (A : Option Addr) (c : Nat) (hn : ms.length ≤ maxLen) (i : Int) (b : Nat) (w : World) (hS : Mems w w.heap.size A ms) (hc : w.cell? ⟨b, 1, none⟩ = some (.int .i64 i)) :
    Calls Try.prog 22 #[.slice A ms.length c, .func (.func 33) #[] #[.pointer (some ⟨b, 0, none⟩)]] w fun e w' => e = .returned (.int .i64 (posI ms i)) ∧ Below w.heap.size w w' := by
  have HS := Lib.hid hS
  have HC := Lib.hid hc
  have HBL : Hid (b < w.heap.size) := Lib.hid (by have := World.block_lt_of_cell? w _ hc; exact this)
  have HN : Hid (ms.length ≤ 9223372036854775807) := Lib.hid (Nat.le_trans hn (by simp [maxLen]))
  have HP := Lib.hid (posN_le ms i)
  clear hS hc hn
  go_enter Try.func22, Try.ntmps22
  go_wp2
  go_loopw [8] (fun n wr => ∃ k : Nat, k ≤ posN ms i ∧ n = .int .i64 (k : Int) ∧ Hid (Below w.heap.size w wr)) (fun n _ => ms.length - (intOf n).toNat)
  case atStart => exact ⟨0, Nat.zero_le _, rfl, Lib.hid (Below.refl _ _)⟩
  case round =>
    obtain ⟨k, hk, rfl, HF⟩ := hrel
    by_cases hlt : k < ms.length
    · obtain ⟨g, oo, rfl, _, hr⟩ := (HS.out.far HF.out).range hlt
      have lk := range_mem (hr k hlt)
      have HK := Lib.hid (behind1_any (ms[k]'hlt) i b wr ((HF.out.cell (p := ⟨b, 1, none⟩) HBL.out).trans HC.out))
      have HLE := Lib.hid hlt
      have wk : IntKind.i64.wrap ((k : Int) + 1) = ((k + 1 : Nat) : Int) := by
        rw [IntKind.wrap_i64]
        have := HN.out
        omega
      have i1 : (k : Int) < (ms.length : Int) := by omega
      have HQ : Hid (k < posN ms i ∧ ((ms[k]'hlt).id == i) = false ∨ k = posN ms i ∧ ((ms[k]'hlt).id == i) = true) := Lib.hid (by
        rcases Nat.lt_or_ge k (posN ms i) with h | h
        · exact .inl ⟨h, by simpa using posN_ne h hlt⟩
        · have e : k = posN ms i := by omega
          refine .inr ⟨e, ?_⟩
          have h2 := posN_eq (ms := ms) (i := i) (by omega)
          simp only [← e] at h2
          simpa using h2)
      generalize ms[k]'hlt = x at *
      clear hr
      rcases HQ.out with ⟨h, hb⟩ | ⟨h, hb⟩
      · rw [hb] at HK
        have HH := Lib.hid h
        clear hb h hk HQ
        go_wp2_with ((with_reducible refine (HK.out).mono ?_); rintro e w2 ⟨rfl, hb2⟩; have HB2 := Lib.hid hb2; clear hb2)
        go_roundw
        case rel => exact ⟨k + 1, HH.out, by go_num, Lib.hid (HF.out.trans (HB2.out.mono HF.out.size))⟩
        case measure => have := HLE.out; simp [intOf]; omega
      · rw [hb] at HK
        have HH : Hid (posI ms i = (k : Int)) := Lib.hid (by unfold posI; rw [← h, if_pos hlt])
        clear hb h hk HQ
        go_wp2_with ((with_reducible refine (HK.out).mono ?_); rintro e w2 ⟨rfl, hb2⟩; have HB2 := Lib.hid hb2; clear hb2)
        go_ret
        exact ⟨by rw [HH.out]; rfl, HF.out.trans (HB2.out.mono HF.out.size)⟩
    · have HH : Hid (posI ms i = -1) := Lib.hid (by unfold posI; have := HP.out; rw [if_neg (by omega)])
      have i1 : ¬ (k : Int) < (ms.length : Int) := by omega
      go_wp2
      go_ret
      exact ⟨by rw [HH.out]; rfl, HF.out⟩

set_option maxRecDepth 100000 in
set_option maxHeartbeats 1000000 in
theorem find_any (ms : List MemX) (ep : Int) (A : Option Addr) (c : Nat) (hn : ms.length ≤ maxLen) (i : Int) (w : World) (hS : Mems w w.heap.size A ms) :
    Calls Try.prog 10 #[.agg (cfgV ep A ms.length c), .int .i64 i] w fun e w' => e = .returned (.tuple #[(findM ms i).enc, .int .i64 (findN ms i : Int), .bool (hasB ms i)]) ∧ Below w.heap.size w w' := by
  obtain ⟨w1, hw1⟩ : ∃ w1, w1 = ((w.alloc (.cells (cfgV ep A ms.length c) 24)).alloc (.cells #[.int .i64 i] 3)).alloc (.cells zmemV 31) := ⟨_, rfl⟩
  have HB : Hid (Box w1 w.heap.size 24 (cfgV ep A ms.length c)) := by
    rw [hw1]
    exact ((Box.made w _ _).alloc _).alloc _
  have HI : Hid (Box w1 (w.heap.size + 1) 3 #[.int .i64 i]) := by
    rw [hw1]
    exact (Box.made_at (by simp) _ _).alloc _
  have HM : Hid (Box w1 (w.heap.size + 1 + 1) 31 zmemV) := by
    rw [hw1]
    exact Box.made_at (by simp) _ _
  have HF : Hid (Below w.heap.size w w1) := by
    rw [hw1]
    exact (((Below.refl _ _).alloc (Nat.le_refl _) _).alloc (by simp) _).alloc (by simp; omega) _
  have HS := Lib.hid (hS.far HF.out)
  have HX := Lib.hid (index_id ms A c hn i (w.heap.size + 1) w1 HS.out (HI.out.cell 0))
  have c1 : w1.cell? ⟨w.heap.size, 1, none⟩ = some (.slice A ms.length c) := HB.out.cell 1
  have HN : Hid (ms.length ≤ 9223372036854775807) := Lib.hid (Nat.le_trans hn (by simp [maxLen]))
  clear hS hn
  go_enter Try.func10, Try.ntmps10
  go_upto_region 1 with fail
  change Code.wp _ _ _ _ (((w.alloc (.cells (cfgV ep A ms.length c) 24)).alloc (.cells #[.int .i64 i] 3)).alloc (.cells zmemV 31))
  rw [← hw1]
  clear hw1
  go_upto_region 2 with (go_at_call 22; (with_reducible refine (HX.out).mono ?_); rintro e w2 ⟨rfl, hb2⟩; have HB2 := Lib.hid hb2; clear hb2)
  clear HX c1
  have HM2 := Lib.hid (HM.out.below HB2.out HM.out.lt)
  by_cases h : posN ms i < ms.length
  · have e1 : posI ms i = (posN ms i : Int) := by unfold posI; rw [if_pos h]
    have HE : Hid (findM ms i = ms[posN ms i]'h ∧ findN ms i = posN ms i ∧ hasB ms i = true) := Lib.hid (by
      unfold findM findN hasB
      rw [if_pos h, if_pos h, decide_eq_true h, List.getD_eq_getElem?_getD, List.getElem?_eq_getElem h]
      exact ⟨rfl, rfl, rfl⟩)
    have e3 : w2.cell? ⟨w.heap.size, 1, none⟩ = some (.slice A ms.length c) := (HB.out.below HB2.out HB.out.lt).cell 1
    rw [e1]
    obtain ⟨g, oo, rfl, _, hr⟩ := (HS.out.far HB2.out).range h
    have lk := range_mem (hr (posN ms i) h)
    obtain ⟨w3, hst, hb3, hg3⟩ := HM2.out.st_mem zmem_size (ms[posN ms i]'h)
    generalize ms[posN ms i]'h = x at *
    generalize posN ms i = k at *
    have i1 : (k : Int) < (ms.length : Int) := by omega
    have i2 : ¬ (k : Int) < 0 := by omega
    have i0 : (0 : Int) ≤ (k : Int) := by omega
    have HB3 := Lib.hid hb3
    have HG3 := Lib.hid hg3
    clear e1 hr hb3 hg3 h
    go_wp2
    refine ret_mem3 rfl rfl rfl rfl rfl HB3.out ⟨?_, (HF.out.trans (HB2.out.mono HF.out.size)).trans (below_only HG3.out (by omega) (HF.out.trans (HB2.out.mono HF.out.size)).size)⟩
    obtain ⟨h1, h2, h3⟩ := HE.out
    rw [h1, h2, h3]
    rfl
  · have e1 : posI ms i = -1 := by unfold posI; rw [if_neg h]
    have HE : Hid (findM ms i = zmem ∧ findN ms i = 0 ∧ hasB ms i = false) := Lib.hid (by
      unfold findM findN hasB
      rw [if_neg h, if_neg h, decide_eq_false h]
      exact ⟨rfl, rfl, rfl⟩)
    rw [e1]
    obtain ⟨w3, hst, hb3, hg3⟩ := HM2.out.st_mem zmem_size zmem
    have hbd := bd_none w2
    have HB3 := Lib.hid hb3
    have HG3 := Lib.hid hg3
    clear e1 hb3 hg3 h
    go_wp2
    refine ret_mem3 rfl rfl rfl rfl rfl HB3.out ⟨?_, (HF.out.trans (HB2.out.mono HF.out.size)).trans (below_only HG3.out (by omega) (HF.out.trans (HB2.out.mono HF.out.size)).size)⟩
    obtain ⟨h1, h2, h3⟩ := HE.out
    rw [h1, h2, h3]
    rfl

set_option maxRecDepth 100000 in
set_option maxHeartbeats 1000000 in
theorem has_any (ms : List MemX) (ep : Int) (A : Option Addr) (c : Nat) (hn : ms.length ≤ maxLen) (i : Int) (w : World) (hS : Mems w w.heap.size A ms) :
    Calls Try.prog 30 #[.agg (cfgV ep A ms.length c), .int .i64 i] w fun e w' => e = .returned (.bool (hasB ms i)) ∧ Below w.heap.size w w' := by
  have HB : Hid (Box (w.alloc (.cells (cfgV ep A ms.length c) 24)) w.heap.size 24 (cfgV ep A ms.length c)) := Box.made _ _ _
  have HF : Hid (Below w.heap.size w (w.alloc (.cells (cfgV ep A ms.length c) 24))) := Lib.hid ((Below.refl _ _).alloc (Nat.le_refl _) _)
  have c0 : (w.alloc (.cells (cfgV ep A ms.length c) 24)).cell? ⟨w.heap.size, 0, none⟩ = some (.int .i64 ep) := HB.out.cell 0
  have c1 : (w.alloc (.cells (cfgV ep A ms.length c) 24)).cell? ⟨w.heap.size, 1, none⟩ = some (.slice A ms.length c) := HB.out.cell 1
  have HX := Lib.hid (find_any ms ep A c hn i _ (hS.far HF.out))
  clear hS hn HB
  generalize hasB ms i = b at *
  generalize findN ms i = k at *
  generalize findM ms i = x at *
  unfold MemX.enc at HX
  go_enter Try.func30, Try.ntmps30
  go_upto_region 2 with (go_at_call 10; (with_reducible refine (HX.out).mono ?_); rintro e w2 ⟨rfl, hb2⟩; have HB2 := Lib.hid hb2; obtain ⟨w3, hst, hb3, hg3⟩ := laid_mem w2 x; have HG3 := Lib.hid hg3; clear hb2 hb3 hg3; unfold MemX.enc zmemV at hst)
  go_wp2
  go_ret
  exact ⟨rfl, HF.out.trans ((HB2.out.trans (HG3.out.mono HB2.out.size)).mono HF.out.size)⟩

set_option maxRecDepth 100000 in
set_option maxHeartbeats 1000000 in
theorem place_any (ms : List MemX) (ep : Int) (A : Option Addr) (c : Nat) (hn : ms.length ≤ maxLen) (i : Int) (w : World) (hS : Mems w w.heap.size A ms) :
    Calls Try.prog 11 #[.agg (cfgV ep A ms.length c), .int .i64 i] w fun e w' => e = .returned (.int .i64 (posI ms i)) ∧ Below w.heap.size w w' := by
  have HB : Hid (Box (w.alloc (.cells (cfgV ep A ms.length c) 24)) w.heap.size 24 (cfgV ep A ms.length c)) := Box.made _ _ _
  have HF0 : Hid (Below w.heap.size w (w.alloc (.cells (cfgV ep A ms.length c) 24))) := Lib.hid ((Below.refl _ _).alloc (Nat.le_refl _) _)
  have c1 : (w.alloc (.cells (cfgV ep A ms.length c) 24)).cell? ⟨w.heap.size, 1, none⟩ = some (.slice A ms.length c) := HB.out.cell 1
  have HS := Lib.hid hS
  have HN : Hid (ms.length ≤ 9223372036854775807) := Lib.hid (Nat.le_trans hn (by simp [maxLen]))
  have HP := Lib.hid (posN_le ms i)
  clear hS hn HB
  go_enter Try.func11, Try.ntmps11
  go_wp2
  go_loopw [10] (fun n wr => ∃ k : Nat, k ≤ posN ms i ∧ n = .int .i64 (k : Int) ∧ Hid (Below w.heap.size w wr)) (fun n _ => ms.length - (intOf n).toNat)
  case atStart => exact ⟨0, Nat.zero_le _, rfl, HF0⟩
  case round =>
    obtain ⟨k, hk, rfl, HF⟩ := hrel
    clear c1
    by_cases hlt : k < ms.length
    · obtain ⟨g, oo, rfl, _, hr⟩ := (HS.out.far HF.out).range hlt
      have lk := range_mem (hr k hlt)
      obtain ⟨w3, hst0, hb3, hg3⟩ := laid_mem wr (ms[k]'hlt)
      have HF3 : Hid (Below w.heap.size w w3) := Lib.hid (HF.out.trans (hg3.mono HF.out.size))
      have c0 : w3.cell? ⟨wr.heap.size, 0, none⟩ = some (.int .i64 (ms[k]'hlt).id) := hb3.cell 0
      have hst := hst0
      unfold zmemV at hst
      have HLE := Lib.hid hlt
      have wk : IntKind.i64.wrap ((k : Int) + 1) = ((k + 1 : Nat) : Int) := by
        rw [IntKind.wrap_i64]
        have := HN.out
        omega
      have i1 : (k : Int) < (ms.length : Int) := by omega
      have HQ : Hid (k < posN ms i ∧ ((ms[k]'hlt).id == i) = false ∨ k = posN ms i ∧ ((ms[k]'hlt).id == i) = true) := Lib.hid (by
        rcases Nat.lt_or_ge k (posN ms i) with h | h
        · exact .inl ⟨h, by simpa using posN_ne h hlt⟩
        · have e : k = posN ms i := by omega
          refine .inr ⟨e, ?_⟩
          have h2 := posN_eq (ms := ms) (i := i) (by omega)
          simp only [← e] at h2
          simpa using h2)
      generalize ms[k]'hlt = x at *
      clear hr hst0 hb3 hg3
      rcases HQ.out with ⟨h, hb⟩ | ⟨h, hb⟩
      · have HH := Lib.hid h
        clear h hk HQ
        go_wp2
        go_roundw
        case rel => exact ⟨k + 1, HH.out, by go_num, HF3⟩
        case measure => have := HLE.out; simp [intOf]; omega
      · have HH : Hid (posI ms i = (k : Int)) := Lib.hid (by unfold posI; rw [← h, if_pos hlt])
        clear h hk HQ
        go_wp2
        go_ret
        exact ⟨by rw [HH.out]; rfl, HF3.out⟩
    · have HH : Hid (posI ms i = -1) := Lib.hid (by unfold posI; have := HP.out; rw [if_neg (by omega)])
      have i1 : ¬ (k : Int) < (ms.length : Int) := by omega
      go_wp2
      go_ret
      exact ⟨by rw [HH.out]; rfl, HF.out⟩
end Go.Proofs.Ytloaidahlagmiaa
