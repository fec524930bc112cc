/-
  A script's calls in memory, read and laid; great; a list of keys read, and the one that is asked for.
-/
import Derived.Test.YtojgmdagamdcfaaGreatDoorRiAlive
import Derived.Test.YtojgmdagamdcfaaGreatDoorRiIter
import Derived.Test.YtojgmdagamdcfaaGreatDoorRiSort
namespace Go.Proofs.YtojgmdagamdcfaaGreatDoor
open Go.RowKit Go.Maps

attribute [local go_sem ↓] ldKey_def stKey_def

/-- A call of a script. -/
structure CallX where
  kind : Int
  seed : UInt8
  key : Int
  n : Int
  d : List UInt8
  len : d.length = 32
def callL (k : Int) (s : UInt8) (i n : Int) (d : List UInt8) : List Value := .int .i64 k :: bv s :: .int .i64 i :: .int .i64 n :: d.map bv
def CallX.cells (x : CallX) : List Value := callL x.kind x.seed x.key x.n x.d
def CallX.enc (x : CallX) : Value := .agg x.cells.toArray
set_option maxRecDepth 100000 in
theorem CallX.cells_len (x : CallX) : x.cells.length = 36 := by
  unfold CallX.cells callL
  simp [x.len]
set_option maxRecDepth 100000 in
theorem CallX.cells_one (x : CallX) : ∀ v ∈ x.cells, v.oneCell' = true := by
  intro v hv
  simp only [CallX.cells, callL, List.mem_cons, List.mem_map] at hv
  rcases hv with rfl | rfl | rfl | rfl | ⟨b, _, rfl⟩ <;> rfl
set_option maxRecDepth 100000 in
theorem CallX.size (x : CallX) : (Tryz.prog.info? 35).map (·.size) = some x.cells.length := by
  rw [x.cells_len]
  kernel_rfl
def zcall : Array Value := #[.int .i64 0, .int .u8 0, .int .i64 0, .int .i64 0, .int .u8 0, .int .u8 0, .int .u8 0, .int .u8 0, .int .u8 0, .int .u8 0, .int .u8 0, .int .u8 0, .int .u8 0, .int .u8 0, .int .u8 0, .int .u8 0, .int .u8 0, .int .u8 0, .int .u8 0, .int .u8 0, .int .u8 0, .int .u8 0, .int .u8 0, .int .u8 0, .int .u8 0, .int .u8 0, .int .u8 0, .int .u8 0, .int .u8 0, .int .u8 0, .int .u8 0, .int .u8 0, .int .u8 0, .int .u8 0, .int .u8 0, .int .u8 0]

noncomputable def ldCall (v : Value) : Sem Value := Instr.loadAt 35 v
set_option maxRecDepth 100000 in
theorem ldCall_def (v : Value) : Instr.loadAt 35 v = ldCall v := rfl
noncomputable def stCall (p v : Value) : Sem Unit := Instr.storeAt 35 p v
set_option maxRecDepth 100000 in
theorem stCall_def (p v : Value) : Instr.storeAt 35 p v = stCall p v := rfl
set_option maxRecDepth 100000 in
theorem range_call {w : World} {g o : Nat} {x : CallX} (h : w.rangeAt g o x.cells) : (ldCall (.pointer (some ⟨g, o, none⟩))).run Tryz.prog w = .ok x.enc w :=
  run_loadAt_mid (P := Tryz.prog) w g o 35 x.cells _ h Tryz.underlying35 rfl x.size
set_option maxRecDepth 100000 in
theorem range_key {w : World} {g o : Nat} {x : KeyX} (h : w.rangeAt g o x.cells) : (ldKey (.pointer (some ⟨g, o, none⟩))).run Tryz.prog w = .ok x.enc w :=
  run_loadAt_mid (P := Tryz.prog) w g o 37 x.cells _ h Tryz.underlying37 rfl (key_list x.len x.high)
set_option maxRecDepth 100000 in
/-- A block is laid for a call, and the call is stored there. -/
theorem laid_call (w : World) (x : CallX) : ∃ w', (stCall (.pointer (some ⟨w.heap.size, 0, none⟩)) x.enc).run Tryz.prog (w.alloc (.cells zcall 35)) = .ok () w' ∧ Box w' w.heap.size 35 x.cells.toArray ∧ w.grownBy w' none := by
  have hb := Box.made w 35 zcall
  refine ⟨(w.alloc (.cells zcall 35)).setCells w.heap.size 0 x.cells, ?_, hb.cells_all x.cells.toArray (by rw [List.size_toArray, x.cells_len]; rfl), only_new (World.grownBy_alloc w (.cells zcall 35) none) (only_cells (g := w.heap.size) x.cells 0 _) (Nat.le_refl _)⟩
  exact run_storeAt_mid (P := Tryz.prog) _ w.heap.size 0 35 x.cells.toArray (fun j hj => by
    rw [List.size_toArray, x.cells_len] at hj
    have hs : zcall.size = 36 := rfl
    rw [hb.cell, hb.free, Array.getElem?_eq_getElem (by omega)]
    exact ⟨rfl, rfl⟩) (by rw [List.size_toArray]; exact x.size) (by have := all_oneCell_toArray x.cells_one; simpa using this)

set_option maxRecDepth 100000 in
theorem flat_at {α : Type} (f : α → List Value) (k : Nat) (hf : ∀ x, (f x).length = k) : ∀ (xs : List α) (i : Nat) (hi : i < xs.length), ((xs.flatMap f).drop (i * k)).take k = f (xs[i]'hi)
  | x :: r, 0, _ => by
    rw [List.flatMap_cons, Nat.zero_mul, List.drop_zero, List.take_append_of_le_length (by rw [hf]; exact Nat.le_refl _), List.take_of_length_le (by rw [hf]; exact Nat.le_refl _)]
    rfl
  | x :: r, i + 1, hi => by
    rw [List.flatMap_cons, List.drop_append, List.drop_of_length_le (by rw [hf, Nat.add_mul]; omega), List.nil_append, hf, show (i + 1) * k - k = i * k by rw [Nat.add_mul]; omega]
    exact flat_at f k hf r i (by simpa using hi)
set_option maxRecDepth 100000 in
/-- What is seen of a slice of such things at one place. -/
theorem Sees.flat {α : Type} (f : α → List Value) (k : Nat) (hk : 0 < k) (hf : ∀ x, (f x).length = k) {w : World} {B : Nat} {A : Option Addr} {xs : List α} (h : Sees w B A (xs.flatMap f)) {i : Nat} (hi : i < xs.length) : ∃ g o, A = some ⟨g, o, none⟩ ∧ g < B ∧ ∀ j (hj : j < xs.length), w.rangeAt g (o + j * k) (f (xs[j]'hj)) := by
  rcases h with hn | ⟨g, o, rfl, hg, hc⟩
  · have hl := flat_len f k hf xs
    rw [hn, List.length_nil] at hl
    have : 0 < xs.length * k := Nat.mul_pos (by omega) hk
    omega
  · refine ⟨g, o, rfl, hg, fun j hj => ?_⟩
    rw [← flat_at f k hf xs j hj]
    exact range_part hc _ _

abbrev Cals (w : World) (B : Nat) (A : Option Addr) (cs : List CallX) : Prop := Sees w B A (cs.flatMap CallX.cells)
abbrev KeyS (w : World) (B : Nat) (A : Option Addr) (ks : List KeyX) : Prop := Sees w B A (ks.flatMap KeyX.cells)

attribute [local go_sem ↓] ldCall_def stCall_def
def CallX.bad (x : CallX) : Bool := decide (x.kind = 0) && decide (2 < x.n) && decide (x.n ≤ 6)
def greatB (cs : List CallX) : Bool := cs.any CallX.bad || decide (30 < cs.length)
set_option maxRecDepth 100000 in
set_option maxHeartbeats 1000000 in
theorem great_any6 (cs : List CallX) (A : Option Addr) (c : Nat) (hn : cs.length ≤ maxLen) (w : World) (hS : Cals w w.heap.size A cs) :
    Calls Tryz.prog 5 #[.slice A cs.length c] w fun e w' => e = .returned (.bool (greatB cs)) ∧ Below w.heap.size w w' := by
  have HS := Lib.hid hS
  have HN : Hid (cs.length ≤ 9223372036854775807) := Lib.hid (Nat.le_trans hn (by simp [maxLen]))
  clear hS hn
  go_enter Tryz.func5, Tryz.ntmps5
  go_wp2
  go_loopw [7] (fun i wr => ∃ k : Nat, k ≤ cs.length ∧ i = .int .i64 (k : Int) ∧ Hid (Below w.heap.size w wr) ∧ Hid (∀ j (h : j < cs.length), j < k → (cs[j]'h).bad = false)) (fun i _ => cs.length - (intOf i).toNat)
  case atStart => exact ⟨0, Nat.zero_le _, rfl, Lib.hid (Below.refl _ _), Lib.hid (fun j _ h => by omega)⟩
  case round =>
    obtain ⟨k, hk, rfl, HF, HG⟩ := hrel
    by_cases hlt : k < cs.length
    · obtain ⟨g, oo, rfl, _, hr⟩ := Sees.flat CallX.cells 36 (by decide) CallX.cells_len (HS.out.below HF.out) hlt
      obtain ⟨x, hx⟩ : ∃ x, x = cs[k]'hlt := ⟨_, rfl⟩
      have lk := range_call (hr k hlt)
      rw [← hx] at lk
      have HX := Lib.hid hx
      obtain ⟨w3, hst0, hb3, hg3⟩ := laid_call wr x
      have hst : (stCall (.pointer (some ⟨wr.heap.size, 0, none⟩)) x.enc).run Tryz.prog (wr.alloc (.cells #[.int .i64 0, .int .u8 0, .int .i64 0, .int .i64 0, .int .u8 0, .int .u8 0, .int .u8 0, .int .u8 0, .int .u8 0, .int .u8 0, .int .u8 0, .int .u8 0, .int .u8 0, .int .u8 0, .int .u8 0, .int .u8 0, .int .u8 0, .int .u8 0, .int .u8 0, .int .u8 0, .int .u8 0, .int .u8 0, .int .u8 0, .int .u8 0, .int .u8 0, .int .u8 0, .int .u8 0, .int .u8 0, .int .u8 0, .int .u8 0, .int .u8 0, .int .u8 0, .int .u8 0, .int .u8 0, .int .u8 0, .int .u8 0] 35)) = .ok () w3 := hst0
      have c0 : w3.cell? ⟨wr.heap.size, 0, none⟩ = some (.int .i64 x.kind) := hb3.cell 0
      have c3 : w3.cell? ⟨wr.heap.size, 3, none⟩ = some (.int .i64 x.n) := hb3.cell 3
      have HF3 : Hid (Below w.heap.size w w3) := Lib.hid (HF.out.trans ⟨hg3.os, hg3.tape, hg3.output, hg3.size, fun i hi => hg3.block i (Nat.lt_of_lt_of_le hi HF.out.size) (by simp)⟩)
      have HLE := Lib.hid hlt
      have wk : IntKind.i64.wrap ((k : Int) + 1) = ((k + 1 : Nat) : Int) := by
        rw [IntKind.wrap_i64]
        have := HN.out
        omega
      have i1 : (k : Int) < (cs.length : Int) := by omega
      clear hx hr hst0 hb3 hg3 HF
      by_cases q1 : x.kind = 0
      · have e1 : (x.kind == 0) = true := by simp [q1]
        by_cases q2 : 2 < x.n
        · have e2 : decide (2 < x.n) = true := by simp [q2]
          by_cases q3 : x.n ≤ 6
          · have e3 : decide (x.n ≤ 6) = true := by simp [q3]
            have HB : Hid (greatB cs = true) := Lib.hid (by
              unfold greatB
              rw [Bool.or_eq_true]
              exact .inl (List.any_eq_true.2 ⟨_, List.getElem_mem hlt, by rw [← HX.out]; unfold CallX.bad; simp [q1, q2, q3]⟩))
            clear q1 q2 q3
            go_wp2
            go_ret
            exact ⟨by rw [HB.out]; rfl, HF3.out⟩
          · have e3 : decide (x.n ≤ 6) = false := by simp; omega
            have HB : Hid (∀ j (h : j < cs.length), j < k + 1 → (cs[j]'h).bad = false) := Lib.hid (fun j h hj => by
              by_cases e : j = k
              · subst e
                rw [← HX.out]
                unfold CallX.bad
                simp [q3]
              · exact HG.out j h (by omega))
            clear q1 q2 q3
            go_wp2
            go_roundw
            case rel => exact ⟨k + 1, HLE.out, by go_num, HF3, HB⟩
            case measure => have := HLE.out; simp [intOf]; omega
        · have e2 : decide (2 < x.n) = false := by simp; omega
          have HB : Hid (∀ j (h : j < cs.length), j < k + 1 → (cs[j]'h).bad = false) := Lib.hid (fun j h hj => by
            by_cases e : j = k
            · subst e
              rw [← HX.out]
              unfold CallX.bad
              simp [q2]
            · exact HG.out j h (by omega))
          clear q1 q2
          go_wp2
          go_roundw
          case rel => exact ⟨k + 1, HLE.out, by go_num, HF3, HB⟩
          case measure => have := HLE.out; simp [intOf]; omega
      · have e1 : (x.kind == 0) = false := by simp [q1]
        have HB : Hid (∀ j (h : j < cs.length), j < k + 1 → (cs[j]'h).bad = false) := Lib.hid (fun j h hj => by
          by_cases e : j = k
          · subst e
            rw [← HX.out]
            unfold CallX.bad
            simp [q1]
          · exact HG.out j h (by omega))
        clear q1
        go_wp2
        go_roundw
        case rel => exact ⟨k + 1, HLE.out, by go_num, HF3, HB⟩
        case measure => have := HLE.out; simp [intOf]; omega
    · obtain rfl : k = cs.length := by omega
      clear hlt
      have HA : Hid (greatB cs = decide (30 < cs.length)) := Lib.hid (by
        unfold greatB
        rw [show cs.any CallX.bad = false from List.any_eq_false.2 fun y hy => by
          obtain ⟨j, hj, rfl⟩ := List.getElem_of_mem hy
          simp [HG.out j hj hj], Bool.false_or])
      by_cases q : 30 < cs.length
      · have e1 : decide ((30 : Int) < (cs.length : Int)) = true := by
          rw [decide_eq_true_iff]
          omega
        have e1' : decide (30 < cs.length) = true := by simp [q]
        have HQ := Lib.hid e1'
        clear q
        go_wp2
        go_ret
        exact ⟨by rw [HA.out, HQ.out]; rfl, HF.out⟩
      · have e1 : decide ((30 : Int) < (cs.length : Int)) = false := by
          rw [decide_eq_false_iff_not]
          omega
        have e1' : decide (30 < cs.length) = false := by simp [q]
        have HQ := Lib.hid e1'
        clear q
        go_wp2
        go_ret
        exact ⟨by rw [HA.out, HQ.out]; rfl, HF.out⟩
set_option maxRecDepth 100000 in
set_option maxHeartbeats 1000000 in
theorem key_neg (ks : List KeyX) (A : Option Addr) (c : Nat) (n : Int) (hn : n < 0) (w : World) :
    Calls Tryz.prog 7 #[.slice A ks.length c, .int .i64 n] w fun e w' => (∃ x : KeyX, e = .returned x.enc) ∧ Below w.heap.size w w' := by
  have e1 : decide (n < 0) = true := by simp [hn]
  clear hn
  obtain ⟨w3, hst0, hb3, hg3⟩ := laid_key w (r := List.replicate 32 0) rfl 0
  have hst : (stKey (.pointer (some ⟨w.heap.size, 0, none⟩)) (.agg #[.int .u8 0, .int .u8 0, .int .u8 0, .int .u8 0, .int .u8 0, .int .u8 0, .int .u8 0, .int .u8 0, .int .u8 0, .int .u8 0, .int .u8 0, .int .u8 0, .int .u8 0, .int .u8 0, .int .u8 0, .int .u8 0, .int .u8 0, .int .u8 0, .int .u8 0, .int .u8 0, .int .u8 0, .int .u8 0, .int .u8 0, .int .u8 0, .int .u8 0, .int .u8 0, .int .u8 0, .int .u8 0, .int .u8 0, .int .u8 0, .int .u8 0, .int .u8 0, .int .i64 0])).run Tryz.prog (w.alloc (.cells #[.int .u8 0, .int .u8 0, .int .u8 0, .int .u8 0, .int .u8 0, .int .u8 0, .int .u8 0, .int .u8 0, .int .u8 0, .int .u8 0, .int .u8 0, .int .u8 0, .int .u8 0, .int .u8 0, .int .u8 0, .int .u8 0, .int .u8 0, .int .u8 0, .int .u8 0, .int .u8 0, .int .u8 0, .int .u8 0, .int .u8 0, .int .u8 0, .int .u8 0, .int .u8 0, .int .u8 0, .int .u8 0, .int .u8 0, .int .u8 0, .int .u8 0, .int .u8 0, .int .i64 0] 37)) = .ok () w3 := hst0
  have HF3 : Hid (Below w.heap.size w w3) := Lib.hid ⟨hg3.os, hg3.tape, hg3.output, hg3.size, fun i hi => hg3.block i hi (by simp)⟩
  have HB3 := Lib.hid hb3
  clear hst0 hb3 hg3
  go_enter Tryz.func7, Tryz.ntmps7
  go_wp2
  exact bodyPost_ret (results_cell_row rfl _ w3 w.heap.size 37 _ (0, 0) _ rfl HB3.out Tryz.underlying37 rfl (key_size rfl _)) rfl ⟨⟨⟨List.replicate 32 0, 0, rfl, rfl⟩, rfl⟩, HF3.out⟩
set_option maxRecDepth 100000 in
set_option maxHeartbeats 1000000 in
theorem key_past (ks : List KeyX) (A : Option Addr) (c : Nat) (k : Nat) (hn : ks.length ≤ k) (w : World) :
    Calls Tryz.prog 7 #[.slice A ks.length c, .int .i64 (k : Int)] w fun e w' => (∃ x : KeyX, e = .returned x.enc) ∧ Below w.heap.size w w' := by
  have e1 : decide ((k : Int) < 0) = false := by simp
  have e2 : decide ((ks.length : Int) ≤ (k : Int)) = true := by simp; omega
  have e2' : decide (ks.length ≤ k) = true := by simp; omega
  clear hn
  obtain ⟨w3, hst0, hb3, hg3⟩ := laid_key w (r := List.replicate 32 0) rfl 0
  have hst : (stKey (.pointer (some ⟨w.heap.size, 0, none⟩)) (.agg #[.int .u8 0, .int .u8 0, .int .u8 0, .int .u8 0, .int .u8 0, .int .u8 0, .int .u8 0, .int .u8 0, .int .u8 0, .int .u8 0, .int .u8 0, .int .u8 0, .int .u8 0, .int .u8 0, .int .u8 0, .int .u8 0, .int .u8 0, .int .u8 0, .int .u8 0, .int .u8 0, .int .u8 0, .int .u8 0, .int .u8 0, .int .u8 0, .int .u8 0, .int .u8 0, .int .u8 0, .int .u8 0, .int .u8 0, .int .u8 0, .int .u8 0, .int .u8 0, .int .i64 0])).run Tryz.prog (w.alloc (.cells #[.int .u8 0, .int .u8 0, .int .u8 0, .int .u8 0, .int .u8 0, .int .u8 0, .int .u8 0, .int .u8 0, .int .u8 0, .int .u8 0, .int .u8 0, .int .u8 0, .int .u8 0, .int .u8 0, .int .u8 0, .int .u8 0, .int .u8 0, .int .u8 0, .int .u8 0, .int .u8 0, .int .u8 0, .int .u8 0, .int .u8 0, .int .u8 0, .int .u8 0, .int .u8 0, .int .u8 0, .int .u8 0, .int .u8 0, .int .u8 0, .int .u8 0, .int .u8 0, .int .i64 0] 37)) = .ok () w3 := hst0
  have HF3 : Hid (Below w.heap.size w w3) := Lib.hid ⟨hg3.os, hg3.tape, hg3.output, hg3.size, fun i hi => hg3.block i hi (by simp)⟩
  have HB3 := Lib.hid hb3
  clear hst0 hb3 hg3
  go_enter Tryz.func7, Tryz.ntmps7
  go_wp2
  exact bodyPost_ret (results_cell_row rfl _ w3 w.heap.size 37 _ (0, 0) _ rfl HB3.out Tryz.underlying37 rfl (key_size rfl _)) rfl ⟨⟨⟨List.replicate 32 0, 0, rfl, rfl⟩, rfl⟩, HF3.out⟩
set_option maxRecDepth 100000 in
set_option maxHeartbeats 1000000 in
theorem key_in (ks : List KeyX) (A : Option Addr) (c : Nat) (k : Nat) (hn : k < ks.length) (w : World) (hS : KeyS w w.heap.size A ks) :
    Calls Tryz.prog 7 #[.slice A ks.length c, .int .i64 (k : Int)] w fun e w' => (∃ x : KeyX, e = .returned x.enc) ∧ Below w.heap.size w w' := by
  have e1 : decide ((k : Int) < 0) = false := by simp
  have e2 : decide ((ks.length : Int) ≤ (k : Int)) = false := by simp; omega
  have e2' : decide (ks.length ≤ k) = false := by simp; omega
  have hS' : KeyS (w.alloc (.cells zkey 37)) w.heap.size A ks := hS.below ((Below.refl _ _).alloc (Nat.le_refl _) _)
  obtain ⟨g, oo, rfl, _, hr⟩ := Sees.flat KeyX.cells 33 (by decide) KeyX.cells_len hS' hn
  obtain ⟨x, hx⟩ : ∃ x, x = ks[k]'hn := ⟨_, rfl⟩
  have lk0 := range_key (hr k hn)
  rw [← hx] at lk0
  have lk : (ldKey (.pointer (some ⟨g, oo + k * 33, none⟩))).run Tryz.prog (w.alloc (.cells #[.int .u8 0, .int .u8 0, .int .u8 0, .int .u8 0, .int .u8 0, .int .u8 0, .int .u8 0, .int .u8 0, .int .u8 0, .int .u8 0, .int .u8 0, .int .u8 0, .int .u8 0, .int .u8 0, .int .u8 0, .int .u8 0, .int .u8 0, .int .u8 0, .int .u8 0, .int .u8 0, .int .u8 0, .int .u8 0, .int .u8 0, .int .u8 0, .int .u8 0, .int .u8 0, .int .u8 0, .int .u8 0, .int .u8 0, .int .u8 0, .int .u8 0, .int .u8 0, .int .i64 0] 37)) = .ok x.enc (w.alloc (.cells #[.int .u8 0, .int .u8 0, .int .u8 0, .int .u8 0, .int .u8 0, .int .u8 0, .int .u8 0, .int .u8 0, .int .u8 0, .int .u8 0, .int .u8 0, .int .u8 0, .int .u8 0, .int .u8 0, .int .u8 0, .int .u8 0, .int .u8 0, .int .u8 0, .int .u8 0, .int .u8 0, .int .u8 0, .int .u8 0, .int .u8 0, .int .u8 0, .int .u8 0, .int .u8 0, .int .u8 0, .int .u8 0, .int .u8 0, .int .u8 0, .int .u8 0, .int .u8 0, .int .i64 0] 37)) := lk0
  have i1 : (k : Int) < (ks.length : Int) := by omega
  clear hx hr hn hS hS' lk0
  obtain ⟨w3, hst0, hb3, hg3⟩ := laid_key w x.len x.high
  have hst : (stKey (.pointer (some ⟨w.heap.size, 0, none⟩)) x.enc).run Tryz.prog (w.alloc (.cells #[.int .u8 0, .int .u8 0, .int .u8 0, .int .u8 0, .int .u8 0, .int .u8 0, .int .u8 0, .int .u8 0, .int .u8 0, .int .u8 0, .int .u8 0, .int .u8 0, .int .u8 0, .int .u8 0, .int .u8 0, .int .u8 0, .int .u8 0, .int .u8 0, .int .u8 0, .int .u8 0, .int .u8 0, .int .u8 0, .int .u8 0, .int .u8 0, .int .u8 0, .int .u8 0, .int .u8 0, .int .u8 0, .int .u8 0, .int .u8 0, .int .u8 0, .int .u8 0, .int .i64 0] 37)) = .ok () w3 := hst0
  have HF3 : Hid (Below w.heap.size w w3) := Lib.hid ⟨hg3.os, hg3.tape, hg3.output, hg3.size, fun i hi => hg3.block i hi (by simp)⟩
  have HB3 := Lib.hid hb3
  clear hst0 hb3 hg3
  go_enter Tryz.func7, Tryz.ntmps7
  go_wp2
  exact bodyPost_ret (results_cell_row rfl _ w3 w.heap.size 37 _ (0, 0) _ rfl HB3.out Tryz.underlying37 rfl (key_size x.len _)) rfl ⟨⟨x, rfl⟩, HF3.out⟩
set_option maxRecDepth 100000 in
theorem key_any6 (ks : List KeyX) (A : Option Addr) (c : Nat) (n : Int) (w : World) (hS : KeyS w w.heap.size A ks) :
    Calls Tryz.prog 7 #[.slice A ks.length c, .int .i64 n] w fun e w' => (∃ x : KeyX, e = .returned x.enc) ∧ Below w.heap.size w w' := by
  by_cases h : n < 0
  · exact key_neg ks A c n h w
  obtain ⟨k, rfl⟩ : ∃ k : Nat, n = (k : Int) := ⟨n.toNat, by omega⟩
  rcases Nat.lt_or_ge k ks.length with h | h
  · exact key_in ks A c k h w hS
  · exact key_past ks A c k h w
end Go.Proofs.YtojgmdagamdcfaaGreatDoor
