/-
  Members in memory: their cells, what is loaded, stored, compared and built; slices that read as members.
  The calls of package config that make no loop, and the document's own counts.
  A member is looked for: slices.IndexFunc by its two closures, config.Find, config.has, the document's Place.
  Whether a configuration can be: config.Good, and the document's own.
  Two configurations compared: the document's Same.
-/
import Derived.Test.YtbclepdcngaonaaGreatDoorKA
import Derived.Lib.Hide
import Derived.Deep.RegionHeld3
import Derived.Test.YtbclepdcngaonaaGreatDoorChecked
import Derived.WalkKit
import Derived.Deep.QuietTactic
import Derived.BigQuiet
import Derived.Lib.QuietBelow
import Derived.KernelRfl
import Derived.LoopTactic
import Derived.LoopN
namespace Go.Proofs.YtbclepdcngaonaaGreatDoor
open Go.RowKit

/-- A member. -/
structure MemX where
  id : Int
  root : List UInt8
  high : Int
  len : root.length = 32
set_option maxRecDepth 100000 in
theorem MemX.same {x y : MemX} (h1 : x.id = y.id) (h2 : x.root = y.root) (h3 : x.high = y.high) : x = y := by
  obtain ⟨a, b, c, d⟩ := x
  obtain ⟨a', b', c', d'⟩ := y
  simp only at h1 h2 h3
  subst h1
  subst h2
  subst h3
  rfl
instance : DecidableEq MemX := fun x y => decidable_of_iff (x.id = y.id ∧ x.root = y.root ∧ x.high = y.high) ⟨fun h => MemX.same h.1 h.2.1 h.2.2, fun h => by rw [h]; exact ⟨rfl, rfl, rfl⟩⟩
def memL (i : Int) (r : List UInt8) (h : Int) : List Value := .int .i64 i :: keyL r h
def MemX.cells (x : MemX) : List Value := memL x.id x.root x.high
def MemX.enc (x : MemX) : Value := .agg x.cells.toArray
set_option maxRecDepth 100000 in
theorem MemX.cells_len (x : MemX) : x.cells.length = 34 := by
  unfold MemX.cells memL
  rw [List.length_cons, keyL_len x.len]
set_option maxRecDepth 100000 in
theorem MemX.cells_one (x : MemX) : ∀ v ∈ x.cells, v.oneCell' = true := by
  intro v hv
  rcases List.mem_cons.1 hv with rfl | hv
  · rfl
  · exact keyL_one _ _ v hv
set_option maxRecDepth 100000 in
theorem MemX.size (x : MemX) : (Tryz.prog.info? 66).map (·.size) = some x.cells.length := by
  rw [x.cells_len]
  kernel_rfl
def z32 : List UInt8 := List.replicate 32 0
set_option maxRecDepth 100000 in
theorem z32_len : z32.length = 32 := rfl
def zmem : MemX := ⟨0, z32, 0, rfl⟩
instance : Inhabited MemX := ⟨zmem⟩
def zmemV : Array Value := #[.int .i64 0, .int .u8 0, .int .u8 0, .int .u8 0, .int .u8 0, .int .u8 0, .int .u8 0, .int .u8 0, .int .u8 0, .int .u8 0, .int .u8 0, .int .u8 0, .int .u8 0, .int .u8 0, .int .u8 0, .int .u8 0, .int .u8 0, .int .u8 0, .int .u8 0, .int .u8 0, .int .u8 0, .int .u8 0, .int .u8 0, .int .u8 0, .int .u8 0, .int .u8 0, .int .u8 0, .int .u8 0, .int .u8 0, .int .u8 0, .int .u8 0, .int .u8 0, .int .u8 0, .int .i64 0]
set_option maxRecDepth 100000 in
theorem zmem_size : zmemV.size = 34 := rfl
set_option maxRecDepth 100000 in
theorem MemX.cell0 (x : MemX) : x.cells[0]? = some (.int .i64 x.id) := rfl
set_option maxRecDepth 100000 in
theorem MemX.cell33 (x : MemX) : x.cells[33]? = some (.int .i64 x.high) := by
  show (keyL x.root x.high)[32]? = _
  unfold keyL
  rw [List.getElem?_append_right (by simp [x.len])]
  simp [x.len]

/-! ### Loads, stores, comparisons, literals, kept whole while a walk goes on -/
noncomputable def ldMem (v : Value) : Sem Value := Instr.loadAt 66 v
set_option maxRecDepth 100000 in
theorem ldMem_def (v : Value) : Instr.loadAt 66 v = ldMem v := rfl
noncomputable def stMem (p v : Value) : Sem Unit := Instr.storeAt 66 p v
set_option maxRecDepth 100000 in
theorem stMem_def (p v : Value) : Instr.storeAt 66 p v = stMem p v := rfl
noncomputable def eqMem (a b : Value) : Sem Bool := Op.equalIn 10000 66 a b
set_option maxRecDepth 100000 in
theorem eqMem_def (a b : Value) : Op.equalIn 10000 66 a b = eqMem a b := rfl
noncomputable def bdMem (parts : Array (Nat × Value)) : Sem Value := Instr.build 66 parts
set_option maxRecDepth 100000 in
theorem bdMem_def (parts : Array (Nat × Value)) : Instr.build 66 parts = bdMem parts := rfl

set_option maxRecDepth 100000 in
theorem range_mem {w : World} {g o : Nat} {x : MemX} (h : w.rangeAt g o x.cells) : (ldMem (.pointer (some ⟨g, o, none⟩))).run Tryz.prog w = .ok x.enc w :=
  run_loadAt_mid (P := Tryz.prog) w g o 66 x.cells _ h Tryz.underlying66 rfl x.size
set_option maxRecDepth 100000 in
theorem Box.ld_mem {w : World} {g : Nat} {t : TypeId} {x : MemX} (h : Box w g t x.cells.toArray) : (ldMem (.pointer (some ⟨g, 0, none⟩))).run Tryz.prog w = .ok x.enc w := range_mem h.range
set_option maxRecDepth 100000 in
theorem Box.st_mem {w : World} {g : Nat} {t : TypeId} {cs : Array Value} (h : Box w g t cs) (hs : cs.size = 34) (x : MemX) :
    ∃ w', (stMem (.pointer (some ⟨g, 0, none⟩)) x.enc).run Tryz.prog w = .ok () w' ∧ Box w' g t x.cells.toArray ∧ w.grownBy w' (some g) := by
  refine ⟨w.setCells g 0 x.cells, ?_, h.cells_all x.cells.toArray (by rw [List.size_toArray, x.cells_len, hs]), only_cells (g := g) x.cells 0 _⟩
  exact run_storeAt_mid (P := Tryz.prog) _ g 0 66 x.cells.toArray (fun j hj => by
    rw [List.size_toArray, x.cells_len] at hj
    rw [h.cell, h.free, Array.getElem?_eq_getElem (by omega)]
    exact ⟨rfl, rfl⟩) (by rw [List.size_toArray]; exact x.size) (by have := all_oneCell_toArray x.cells_one; simpa using this)
set_option maxRecDepth 100000 in
/-- A block is laid for a member, and the member is stored there. -/
theorem laid_mem (w : World) (x : MemX) : ∃ w', (stMem (.pointer (some ⟨w.heap.size, 0, none⟩)) x.enc).run Tryz.prog (w.alloc (.cells zmemV 66)) = .ok () w' ∧ Box w' w.heap.size 66 x.cells.toArray ∧ Below w.heap.size w w' := by
  obtain ⟨w', h1, h2, h3⟩ := (Box.made w 66 zmemV).st_mem zmem_size x
  exact ⟨w', h1, h2, ((Below.refl _ _).alloc (Nat.le_refl _) _).trans (below_only h3 (Nat.le_refl _) (by simp))⟩

set_option maxRecDepth 100000 in
theorem eq_mem (x y : MemX) (w : World) : (eqMem x.enc y.enc).run Tryz.prog w = .ok (decide (x = y)) w := by
  have hu : Tryz.prog.underlying 66 = some (.struct (Tryz.prog.fieldsOf 66)) := by kernel_rfl
  have hst : Tryz.prog.stoodInHeld 66 = false := by kernel_rfl
  have hfs : (Tryz.prog.fieldsOf 66).toList.map (fun f => (decide (f.name ≠ "_"), f.type, f.offset)) = [(true, 3, 0), (true, 64, 1)] := by kernel_rfl
  show (Op.equalIn (9999 + 1) 66 (.agg x.cells.toArray) (.agg y.cells.toArray)).run _ w = _
  rw [run_equalIn_struct w 9999 66 _ _ hu hst]
  generalize (Tryz.prog.fieldsOf 66).toList = fs at hfs
  obtain ⟨f0, fs, rfl⟩ : ∃ f0 r, fs = f0 :: r := by cases fs <;> simp at hfs ⊢
  obtain ⟨f1, fs, rfl⟩ : ∃ f1 r, fs = f1 :: r := by cases fs <;> simp at hfs ⊢
  obtain rfl : fs = [] := by cases fs <;> simp at hfs ⊢
  simp only [List.map_cons, List.map_nil, List.cons.injEq, Prod.mk.injEq, and_true] at hfs
  obtain ⟨⟨n0, t0, o0⟩, n1, t1, o1⟩ := hfs
  have x0 : ∀ z : MemX, (part 3 z.cells.toArray 0).run Tryz.prog w = .ok (.int .i64 z.id) w := fun z => run_part_plain (P := Tryz.prog) w (by kernel_rfl) rfl
  have x1 : ∀ z : MemX, (part 64 z.cells.toArray 1).run Tryz.prog w = .ok (.agg (keyV z.root z.high)) w := fun z => by
    have hk : Tryz.prog.underlying 64 = some (.struct (Tryz.prog.fieldsOf 64)) := by kernel_rfl
    have e : (List.take 33 z.cells.tail).toArray = keyV z.root z.high := by
      unfold MemX.cells memL keyV
      rw [List.tail_cons, List.take_of_length_le (Nat.le_of_eq (keyL_len z.len z.high))]
    unfold part isAgg
    simp [run_underlying hk, e]
  have p1 : (Op.equalIn 9999 3 (.int .i64 x.id) (.int .i64 y.id)).run Tryz.prog w = .ok (x.id == y.id) w := run_equalIn_int w 9998 3 .i64 .i64 _ _ Tryz.underlying3
  have p2 : (Op.equalIn 9999 64 (.agg (keyV x.root x.high)) (.agg (keyV y.root y.high))).run Tryz.prog w = .ok (decide (x.root = y.root) && decide (x.high = y.high)) w := eq_key_at 9996 _ _ _ _ x.len y.len w
  have y1 := x0 x
  have y2 := x0 y
  have z1 := x1 x
  have z2 := x1 y
  clear x0 x1 hu hst
  unfold Op.eqFields
  rw [if_pos (of_decide_eq_true n0), t0, o0, Sem.run_bind, y1, Result.andThen_ok, Sem.run_bind, y2, Result.andThen_ok, Sem.run_bind, p1, Result.andThen_ok]
  have hb : decide (x = y) = ((x.id == y.id) && (decide (x.root = y.root) && decide (x.high = y.high))) := by
    rw [Bool.eq_iff_iff]
    simp only [decide_eq_true_iff, Bool.and_eq_true, beq_iff_eq]
    exact ⟨fun h => by rw [h]; exact ⟨rfl, rfl, rfl⟩, fun h => MemX.same h.1 h.2.1 h.2.2⟩
  rw [hb]
  by_cases e1 : x.id = y.id
  · rw [show (x.id == y.id) = true by simpa using e1, if_neg (by simp), Bool.true_and]
    unfold Op.eqFields
    rw [if_pos (of_decide_eq_true n1), t1, o1, Sem.run_bind, z1, Result.andThen_ok, Sem.run_bind, z2, Result.andThen_ok, Sem.run_bind, p2, Result.andThen_ok]
    cases h2 : (decide (x.root = y.root) && decide (x.high = y.high))
    · rw [if_pos (by simp)]
      rfl
    · rw [if_neg (by simp)]
      rfl
  · rw [show (x.id == y.id) = false by simpa using e1, if_pos (by simp), Bool.false_and]
    rfl

set_option maxRecDepth 100000 in
theorem built_id (i : Int) : Tryz.prog.built 66 [(0, .int .i64 i)] = some (memL i z32 0).toArray := by kernel_rfl
set_option maxRecDepth 100000 in
theorem bd_id (i : Int) (w : World) : (bdMem #[(0, .int .i64 i)]).run Tryz.prog w = .ok (.agg (memL i z32 0).toArray) w :=
  run_build w _ _ _ (built_id i)
set_option maxRecDepth 100000 in
theorem bd_none (w : World) : (bdMem #[]).run Tryz.prog w = .ok zmem.enc w :=
  run_build w _ _ _ (by kernel_rfl)

/-! ### Slices of members -/
set_option maxRecDepth 100000 in
theorem cf_get {α : Type} (f : α → List Value) (k : Nat) (hf : ∀ x, (f x).length = k) : ∀ (xs : List α) (j : Nat), j < xs.length * k → ∃ x, xs[j / k]? = some x ∧ (xs.flatMap f)[j]? = (f x)[j % k]?
  | [], j, hj => by simp at hj
  | x :: r, j, hj => by
    have hk : 0 < k := by
      rcases Nat.eq_zero_or_pos k with rfl | h
      · simp at hj
      · exact h
    rw [List.flatMap_cons]
    rcases Nat.lt_or_ge j k with hlt | hge
    · refine ⟨x, by rw [Nat.div_eq_of_lt hlt]; rfl, ?_⟩
      rw [List.getElem?_append_left (by rw [hf]; exact hlt), Nat.mod_eq_of_lt hlt]
    · obtain ⟨y, h1, h2⟩ := cf_get f k hf r (j - k) (by
        rw [List.length_cons, Nat.add_mul, Nat.one_mul] at hj
        omega)
      refine ⟨y, ?_, ?_⟩
      · have e : j / k = (j - k) / k + 1 := by
          rw [Nat.div_eq_sub_div hk hge]
        rw [e]
        simpa using h1
      · rw [List.getElem?_append_right (by rw [hf]; exact hge), hf, h2]
        have e : j % k = (j - k) % k := Nat.mod_eq_sub_mod hge
        rw [e]
set_option maxRecDepth 100000 in
theorem cf_len {α : Type} (f : α → List Value) (k : Nat) (hf : ∀ x, (f x).length = k) : ∀ xs : List α, (xs.flatMap f).length = xs.length * k
  | [] => by simp
  | x :: r => by
    rw [List.flatMap_cons, List.length_append, hf, cf_len f k hf r, List.length_cons, Nat.add_mul, Nat.one_mul, Nat.add_comm]
set_option maxRecDepth 100000 in
theorem cf_at {α : Type} (f : α → List Value) (k : Nat) (hf : ∀ x, (f x).length = k) : ∀ (xs : List α) (i : Nat) (hi : i < xs.length), ((xs.flatMap f).drop (i * k)).take k = f (xs[i]'hi)
  | x :: r, 0, _ => by
    rw [List.flatMap_cons, Nat.zero_mul, List.drop_zero, List.take_append_of_le_length (by rw [hf]; exact Nat.le_refl _), List.take_of_length_le (by rw [hf]; exact Nat.le_refl _)]
    rfl
  | x :: r, i + 1, hi => by
    rw [List.flatMap_cons, List.drop_append, List.drop_of_length_le (by rw [hf, Nat.add_mul]; omega), List.nil_append, hf, show (i + 1) * k - k = i * k by rw [Nat.add_mul]; omega]
    exact cf_at f k hf r i (by simpa using hi)
set_option maxRecDepth 100000 in
theorem cf_range {w : World} {g o : Nat} {cs : List Value} (h : w.rangeAt g o cs) (k n : Nat) : w.rangeAt g (o + k) ((cs.drop k).take n) := by
  intro j v hv
  rw [List.getElem?_take] at hv
  split at hv
  · rw [List.getElem?_drop] at hv
    rw [Nat.add_assoc]
    exact h (k + j) v hv
  · cases hv

abbrev flatM (ms : List MemX) : List Value := ms.flatMap MemX.cells
set_option maxRecDepth 100000 in
theorem flatM_len (ms : List MemX) : (flatM ms).length = ms.length * 34 := cf_len MemX.cells 34 MemX.cells_len ms
/-- A slice whose address is A reads as these members, below block B. -/
abbrev Mems (w : World) (B : Nat) (A : Option Addr) (ms : List MemX) : Prop := Sees w B A (flatM ms)
set_option maxRecDepth 100000 in
theorem Mems.range {w : World} {B : Nat} {A : Option Addr} {ms : List MemX} (h : Mems w B A ms) {i : Nat} (hi : i < ms.length) : ∃ g o, A = some ⟨g, o, none⟩ ∧ g < B ∧ ∀ j (hj : j < ms.length), w.rangeAt g (o + j * 34) (ms[j]'hj).cells := by
  rcases h with hn | ⟨g, o, rfl, hg, hc⟩
  · have hl := flatM_len ms
    rw [hn, List.length_nil] at hl
    omega
  · refine ⟨g, o, rfl, hg, fun j hj => ?_⟩
    rw [← cf_at MemX.cells 34 MemX.cells_len ms j hj]
    exact cf_range hc _ _
set_option maxRecDepth 100000 in
theorem Mems.far {w w' : World} {A : Option Addr} {ms : List MemX} (h : Mems w w.heap.size A ms) (hb : Below w.heap.size w w') : Mems w' w'.heap.size A ms := (Sees.below h hb).more hb.size

set_option maxRecDepth 100000 in
theorem Box.ldm {w : World} {g : Nat} {t : TypeId} {x : MemX} (h : Box w g t x.cells.toArray) : (ldMem (.pointer (some ⟨g, 0, none⟩))).run Tryz.prog w = .ok (.agg x.cells.toArray) w := h.ld_mem
set_option maxRecDepth 100000 in
theorem range_ldm {w : World} {g o : Nat} {x : MemX} (h : w.rangeAt g o x.cells) : (ldMem (.pointer (some ⟨g, o, none⟩))).run Tryz.prog w = .ok (.agg x.cells.toArray) w := range_mem h
/-- A configuration by value. -/
abbrev cfgV (ep : Int) (A : Option Addr) (n c : Nat) : Array Value := #[.int .i64 ep, .slice A n c]
set_option maxRecDepth 100000 in
theorem cfg_size (ep : Int) (A : Option Addr) (n c : Nat) : (Tryz.prog.info? 24).map (·.size) = some (cfgV ep A n c).size := by
  show _ = some 2
  kernel_rfl

set_option maxRecDepth 100000 in
theorem ret_mem3 {fn : Func} {p q r : Tmp} (hf : fn.results = #[.cell p 66, .tmp q, .tmp r]) {a : Act} {w : World} {g : Nat} (hp : a.tmps.getD p undef = .pointer (some ⟨g, 0, none⟩)) {b c : Value} (hq : a.tmps.getD q undef = b) (hr : a.tmps.getD r undef = c) (hdf : a.defers = []) {t : TypeId} {x : MemX} (hb : Box w g t x.cells.toArray)
    {R : Ending → World → Prop} (hR : R (.returned (.tuple #[x.enc, b, c])) w) : bodyPost Tryz.prog fn R .ret a w := by
  have hp' : a.tmps[p]?.getD undef = .pointer (some ⟨g, 0, none⟩) := by simpa using hp
  have hq' : a.tmps[q]?.getD undef = b := by simpa using hq
  have hr' : a.tmps[r]?.getD undef = c := by simpa using hr
  refine bodyPost_ret (v := .tuple #[x.enc, b, c]) ?_ hdf hR
  simp [results, hf, hp', hq', hr', asAddr, run_loadVar_row w g t 66 x.cells.toArray (0, 0) _ hb Tryz.underlying66 rfl (by rw [List.size_toArray]; exact x.size)]
  rfl
set_option maxRecDepth 100000 in
theorem ret_cfg {fn : Func} {p : Tmp} (hf : fn.results = #[.cell p 24]) {a : Act} {w : World} {g : Nat} (hp : a.tmps.getD p undef = .pointer (some ⟨g, 0, none⟩)) (hdf : a.defers = []) {t : TypeId} {ep : Int} {A : Option Addr} {n c : Nat} (hb : Box w g t (cfgV ep A n c))
    {R : Ending → World → Prop} (hR : R (.returned (.agg (cfgV ep A n c))) w) : bodyPost Tryz.prog fn R .ret a w :=
  bodyPost_ret (results_cell_row hf _ w g t _ (0, 0) _ hp hb Tryz.underlying24 rfl (cfg_size ep A n c)) hdf hR
end Go.Proofs.YtbclepdcngaonaaGreatDoor

namespace Go.Proofs.YtbclepdcngaonaaGreatDoor
open Go.RowKit Go.Sort

def faultsN (n : Nat) : Nat := (n - 1) / 3
def quorumN (n : Nat) : Nat := (n + faultsN n) / 2 + 1
def inB (n lo hi : Int) : Bool := decide (lo ≤ n) && decide (n ≤ hi)
def fitsB (i h : Int) : Bool := inB i 1 63 && inB h 0 6

set_option maxRecDepth 100000 in
theorem cwithin_any (n lo hi : Int) (w : World) : Calls Tryz.prog 45 #[.int .i64 n, .int .i64 lo, .int .i64 hi] w fun e w' => e = .returned (.bool (inB n lo hi)) ∧ w = w' := by
  unfold inB
  by_cases h : lo ≤ n
  · have e : decide (lo ≤ n) = true := by simpa using h
    rw [e, Bool.true_and]
    clear e
    go_enter Tryz.func45, Tryz.ntmps45
    go_wp2
    go_ret
    exact ⟨rfl, rfl⟩
  · have e : decide (lo ≤ n) = false := by simpa using h
    rw [e, Bool.false_and]
    clear e
    go_enter Tryz.func45, Tryz.ntmps45
    go_wp2
    go_ret
    exact ⟨rfl, rfl⟩

set_option maxRecDepth 100000 in
theorem fits_any (x : MemX) (w : World) : Calls Tryz.prog 46 #[x.enc] w fun e w' => e = .returned (.bool (fitsB x.id x.high)) ∧ Below w.heap.size w w' := by
  have HB : Hid (Box (w.alloc (.cells x.cells.toArray 66)) w.heap.size 66 x.cells.toArray) := Box.made _ _ _
  have c0 : (w.alloc (.cells x.cells.toArray 66)).cell? ⟨w.heap.size, 0, none⟩ = some (.int .i64 x.id) := HB.out.cell 0
  have c33 : (w.alloc (.cells x.cells.toArray 66)).cell? ⟨w.heap.size, 33, none⟩ = some (.int .i64 x.high) := (HB.out.cell 33).trans (by rw [List.getElem?_toArray]; exact x.cell33)
  have HW := Lib.hid (cwithin_any x.id 1 63)
  have HV := Lib.hid (cwithin_any x.high 0 6)
  unfold fitsB
  generalize inB x.id 1 63 = p at *
  generalize inB x.high 0 6 = q at *
  unfold MemX.enc
  generalize x.cells.toArray = cs at *
  generalize x.id = i at *
  generalize x.high = hi at *
  clear HB
  cases p
  · go_enter Tryz.func46, Tryz.ntmps46
    go_wp2_with (go_at_call 45; (with_reducible refine (HW.out _).mono ?_); rintro e w' ⟨rfl, rfl⟩)
    go_ret
    exact ⟨rfl, (Below.refl _ _).alloc (Nat.le_refl _) _⟩
  · go_enter Tryz.func46, Tryz.ntmps46
    go_wp2_with (first
      | (go_at_call 45; (with_reducible refine (HW.out _).mono ?_); rintro e w' ⟨rfl, rfl⟩)
      | (go_at_call 45; (with_reducible refine (HV.out _).mono ?_); rintro e w' ⟨rfl, rfl⟩))
    go_ret
    exact ⟨rfl, (Below.refl _ _).alloc (Nat.le_refl _) _⟩

set_option maxRecDepth 100000 in
theorem faults_any (ep : Int) (A : Option Addr) (n c : Nat) (hn : n ≤ 9223372036854775807) (w : World) : Calls Tryz.prog 82 #[.agg (cfgV ep A n c)] w fun e w' => e = .returned (.int .i64 ((faultsN n : Nat) : Int)) ∧ Below w.heap.size w w' := by
  have e1 : IntKind.i64.wrap ((n : Int) - 1) = (n : Int) - 1 := by rw [IntKind.wrap_i64]; omega
  by_cases h : 2 ≤ n
  · have e2 : max ((n : Int) - 1) 0 = (n : Int) - 1 := by omega
    have h3 : (0 : Int) < (n : Int) - 1 := by omega
    have HE : Hid (((n : Int) - 1) / 3 = ((faultsN n : Nat) : Int)) := Lib.hid (by unfold faultsN; omega)
    generalize faultsN n = f at *
    go_enter Tryz.func82, Tryz.ntmps82
    go_wp2
    go_ret
    exact ⟨ret_val (congrArg (Value.int .i64) HE.out), (Below.refl _ _).alloc (Nat.le_refl _) _⟩
  · have hn2 : n = 0 ∨ n = 1 := by omega
    clear e1 h hn
    rcases hn2 with rfl | rfl
    all_goals
      go_enter Tryz.func82, Tryz.ntmps82
      go_wp2
      go_ret
      exact ⟨rfl, (Below.refl _ _).alloc (Nat.le_refl _) _⟩

set_option maxRecDepth 100000 in
/-- Of a world that has only grown. -/
theorem faults_far (ep : Int) (A : Option Addr) (n c : Nat) (hn : n ≤ 9223372036854775807) (w : World) (d : Nat) (os : Array Obj) : Calls Tryz.prog 82 #[.agg (cfgV ep A n c)] (Go.Sort.grow (redrawn w d) os) fun e w'' => e = .returned (.int .i64 ((faultsN n : Nat) : Int)) ∧ ∃ p : Regrown, w'' = Go.Sort.grow (redrawn w p.d) p.os :=
  Calls.regrown_of (faults_any ep A n c hn _)

set_option maxRecDepth 100000 in
theorem quorum_any (ep : Int) (A : Option Addr) (n c : Nat) (hn : n ≤ 1099511627776) (w : World) : Calls Tryz.prog 48 #[.agg (cfgV ep A n c)] w fun e w' => e = .returned (.int .i64 ((quorumN n : Nat) : Int)) ∧ Below w.heap.size w w' := by
  obtain ⟨w1, hw1⟩ : ∃ w1, w1 = w.alloc (.cells (cfgV ep A n c) 24) := ⟨_, rfl⟩
  have HB : Hid (Box w1 w.heap.size 24 (cfgV ep A n c)) := by
    rw [hw1]
    exact Box.made _ _ _
  have HF : Hid (Below w.heap.size w w1) := by
    rw [hw1]
    exact (Below.refl _ _).alloc (Nat.le_refl _) _
  have c0 : w1.cell? ⟨w.heap.size, 0, none⟩ = some (.int .i64 ep) := HB.out.cell 0
  have c1 : w1.cell? ⟨w.heap.size, 1, none⟩ = some (.slice A n c) := HB.out.cell 1
  have HC := Lib.hid (fun d os => faults_far ep A n c (by omega) w1 d os)
  have C0 := Lib.hid (fun d os => cell_regrown c0 d os)
  have C1 := Lib.hid (fun d os => cell_regrown c1 d os)
  have hf : faultsN n ≤ n := by unfold faultsN; omega
  have HE : Hid (((n : Int) + ((faultsN n : Nat) : Int)) / 2 + 1 = ((quorumN n : Nat) : Int)) := Lib.hid (by unfold quorumN; omega)
  generalize faultsN n = f at *
  generalize quorumN n = q at *
  have HN := Lib.hid hn
  clear c0 c1
  go_enter Tryz.func48, Tryz.ntmps48
  go_upto_region 1 with fail
  change Code.wp _ _ _ _ (w.alloc (.cells (cfgV ep A n c) 24))
  rw [← hw1]
  clear hw1 hn
  have s1 : IntKind.i64.wrap ((n : Int) + (f : Int)) = (n : Int) + f := by rw [IntKind.wrap_i64]; have := HN.out; omega
  have s2 : ((n : Int) + (f : Int)).tdiv 2 = ((n : Int) + f) / 2 := Int.tdiv_eq_ediv_of_nonneg (by omega)
  have s3 : IntKind.i64.wrap (((n : Int) + (f : Int)) / 2 + 1) = ((n : Int) + f) / 2 + 1 := by rw [IntKind.wrap_i64]; have := HN.out; omega
  have s4 : IntKind.i64.wrap (((n : Int) + (f : Int)) / 2) = ((n : Int) + f) / 2 := by rw [IntKind.wrap_i64]; have := HN.out; omega
  have d0 := C0.out
  have d1 := C1.out
  have n0 : (0 : Int) ≤ (n : Int) + f := by omega
  refine wp_region_quiet_below (by kernel_rfl) (by kernel_rfl) ?_
  repeat (quiet_step ((go_at_call 82; with_reducible exact HC.out _ _)))
  refine wpQuiet_nil ?_
  intro _ hw'
  obtain ⟨⟨dq, osq⟩, hw''⟩ := hw'
  subst hw''
  clear d0 d1
  go_wp2
  go_ret
  exact ⟨ret_val (congrArg (Value.int .i64) HE.out), HF.out.trans ((below_regrown w1 dq osq).mono HF.out.size)⟩
end Go.Proofs.YtbclepdcngaonaaGreatDoor

namespace Go.Proofs.YtbclepdcngaonaaGreatDoor
open Go.RowKit Go.Sort

/-- The first member of a number; as many as there are: none. -/
def posN (ms : List MemX) (i : Int) : Nat := ms.findIdx (fun m => m.id == i)
def posI (ms : List MemX) (i : Int) : Int := if posN ms i < ms.length then (posN ms i : Int) else -1
def hasB (ms : List MemX) (i : Int) : Bool := decide (posN ms i < ms.length)
def findM (ms : List MemX) (i : Int) : MemX := if posN ms i < ms.length then ms.getD (posN ms i) zmem else zmem
def findN (ms : List MemX) (i : Int) : Nat := if posN ms i < ms.length then posN ms i else 0
set_option maxRecDepth 100000 in
theorem posN_le (ms : List MemX) (i : Int) : posN ms i ≤ ms.length := List.findIdx_le_length
set_option maxRecDepth 100000 in
theorem posN_ne {ms : List MemX} {i : Int} {j : Nat} (h : j < posN ms i) (hj : j < ms.length) : (ms[j]'hj).id ≠ i := by
  have := List.not_of_lt_findIdx h
  simpa using this
set_option maxRecDepth 100000 in
theorem posN_eq {ms : List MemX} {i : Int} (h : posN ms i < ms.length) : (ms[posN ms i]'h).id = i := by
  have := List.findIdx_getElem (p := fun m : MemX => m.id == i) (w := h)
  exact eq_of_beq this

attribute [local go_sem ↓] ldMem_def stMem_def eqMem_def bdMem_def

set_option maxRecDepth 100000 in
theorem find1_any (x : MemX) (i : Int) (b : Nat) (w : World) (hc : w.cell? ⟨b, 0, none⟩ = some (.int .i64 i)) : Calls Tryz.prog 139 #[x.enc, .pointer (some ⟨b, 0, none⟩)] w fun e w' => e = .returned (.bool (x.id == i)) ∧ Below w.heap.size w w' := by
  have HB : Hid (Box (w.alloc (.cells x.cells.toArray 66)) w.heap.size 66 x.cells.toArray) := Box.made _ _ _
  have c0 : (w.alloc (.cells x.cells.toArray 66)).cell? ⟨w.heap.size, 0, none⟩ = some (.int .i64 x.id) := HB.out.cell 0
  have c1 : (w.alloc (.cells x.cells.toArray 66)).cell? ⟨b, 0, none⟩ = some (.int .i64 i) := (((Below.refl w.heap.size w).alloc (Nat.le_refl _) _).cell (p := ⟨b, 0, none⟩) (by have := World.block_lt_of_cell? w _ hc; exact this)).trans hc
  unfold MemX.enc
  generalize x.cells.toArray = cs at *
  generalize x.id = n at *
  clear HB hc
  go_enter Tryz.func139, Tryz.ntmps139
  go_wp2
  go_ret
  exact ⟨rfl, (Below.refl _ _).alloc (Nat.le_refl _) _⟩
set_option maxRecDepth 100000 in
set_option maxHeartbeats 1000000 in
theorem index_id (ms : List MemX) (A : Option Addr) (c : Nat) (hn : ms.length ≤ maxLen) (i : Int) (b : Nat) (w : World) (hS : Mems w w.heap.size A ms) (hc : w.cell? ⟨b, 0, none⟩ = some (.int .i64 i)) :
    Calls Tryz.prog 138 #[.slice A ms.length c, .func (.func 139) #[] #[.pointer (some ⟨b, 0, none⟩)]] w fun e w' => e = .returned (.int .i64 (posI ms i)) ∧ Below w.heap.size w w' := by
  have HS := Lib.hid hS
  have HC := Lib.hid hc
  have HBL : Hid (b < w.heap.size) := Lib.hid (by have := World.block_lt_of_cell? w _ hc; exact this)
  have HN : Hid (ms.length ≤ 9223372036854775807) := Lib.hid (Nat.le_trans hn (by simp [maxLen]))
  have HP := Lib.hid (posN_le ms i)
  clear hS hc hn
  go_enter Tryz.func138, Tryz.ntmps138
  go_wp2
  go_loopw [8] (fun n wr => ∃ k : Nat, k ≤ posN ms i ∧ n = .int .i64 (k : Int) ∧ Hid (Below w.heap.size w wr)) (fun n _ => ms.length - (intOf n).toNat)
  case atStart => exact ⟨0, Nat.zero_le _, rfl, Lib.hid (Below.refl _ _)⟩
  case round =>
    obtain ⟨k, hk, rfl, HF⟩ := hrel
    by_cases hlt : k < ms.length
    · obtain ⟨g, oo, rfl, _, hr⟩ := (HS.out.far HF.out).range hlt
      have lk := range_mem (hr k hlt)
      have HK := Lib.hid (find1_any (ms[k]'hlt) i b wr ((HF.out.cell (p := ⟨b, 0, none⟩) HBL.out).trans HC.out))
      have HLE := Lib.hid hlt
      have wk : IntKind.i64.wrap ((k : Int) + 1) = ((k + 1 : Nat) : Int) := by
        rw [IntKind.wrap_i64]
        have := HN.out
        omega
      have i1 : (k : Int) < (ms.length : Int) := by omega
      have HQ : Hid (k < posN ms i ∧ ((ms[k]'hlt).id == i) = false ∨ k = posN ms i ∧ ((ms[k]'hlt).id == i) = true) := Lib.hid (by
        rcases Nat.lt_or_ge k (posN ms i) with h | h
        · exact .inl ⟨h, by simpa using posN_ne h hlt⟩
        · have e : k = posN ms i := by omega
          refine .inr ⟨e, ?_⟩
          have h2 := posN_eq (ms := ms) (i := i) (by omega)
          simp only [← e] at h2
          simpa using h2)
      generalize ms[k]'hlt = x at *
      clear hr
      rcases HQ.out with ⟨h, hb⟩ | ⟨h, hb⟩
      · rw [hb] at HK
        have HH := Lib.hid h
        clear hb h hk HQ
        go_wp2_with ((with_reducible refine (HK.out).mono ?_); rintro e w2 ⟨rfl, hb2⟩; have HB2 := Lib.hid hb2; clear hb2)
        go_roundw
        case rel => exact ⟨k + 1, HH.out, by go_num, Lib.hid (HF.out.trans (HB2.out.mono HF.out.size))⟩
        case measure => have := HLE.out; simp [intOf]; omega
      · rw [hb] at HK
        have HH : Hid (posI ms i = (k : Int)) := Lib.hid (by unfold posI; rw [← h, if_pos hlt])
        clear hb h hk HQ
        go_wp2_with ((with_reducible refine (HK.out).mono ?_); rintro e w2 ⟨rfl, hb2⟩; have HB2 := Lib.hid hb2; clear hb2)
        go_ret
        exact ⟨by rw [HH.out]; rfl, HF.out.trans (HB2.out.mono HF.out.size)⟩
    · have HH : Hid (posI ms i = -1) := Lib.hid (by unfold posI; have := HP.out; rw [if_neg (by omega)])
      have i1 : ¬ (k : Int) < (ms.length : Int) := by omega
      go_wp2
      go_ret
      exact ⟨by rw [HH.out]; rfl, HF.out⟩

set_option maxRecDepth 100000 in
set_option maxHeartbeats 1000000 in
theorem find_any (ms : List MemX) (ep : Int) (A : Option Addr) (c : Nat) (hn : ms.length ≤ maxLen) (i : Int) (w : World) (hS : Mems w w.heap.size A ms) :
    Calls Tryz.prog 121 #[.agg (cfgV ep A ms.length c), .int .i64 i] w fun e w' => e = .returned (.tuple #[(findM ms i).enc, .int .i64 (findN ms i : Int), .bool (hasB ms i)]) ∧ Below w.heap.size w w' := by
  obtain ⟨w1, hw1⟩ : ∃ w1, w1 = ((w.alloc (.cells (cfgV ep A ms.length c) 24)).alloc (.cells #[.int .i64 i] 3)).alloc (.cells zmemV 66) := ⟨_, rfl⟩
  have HB : Hid (Box w1 w.heap.size 24 (cfgV ep A ms.length c)) := by
    rw [hw1]
    exact ((Box.made w _ _).alloc _).alloc _
  have HI : Hid (Box w1 (w.heap.size + 1) 3 #[.int .i64 i]) := by
    rw [hw1]
    exact (Box.made_at (by simp) _ _).alloc _
  have HM : Hid (Box w1 (w.heap.size + 1 + 1) 66 zmemV) := by
    rw [hw1]
    exact Box.made_at (by simp) _ _
  have HF : Hid (Below w.heap.size w w1) := by
    rw [hw1]
    exact (((Below.refl _ _).alloc (Nat.le_refl _) _).alloc (by simp) _).alloc (by simp; omega) _
  have HS := Lib.hid (hS.far HF.out)
  have HX := Lib.hid (index_id ms A c hn i (w.heap.size + 1) w1 HS.out (HI.out.cell 0))
  have c1 : w1.cell? ⟨w.heap.size, 1, none⟩ = some (.slice A ms.length c) := HB.out.cell 1
  have HN : Hid (ms.length ≤ 9223372036854775807) := Lib.hid (Nat.le_trans hn (by simp [maxLen]))
  clear hS hn
  go_enter Tryz.func121, Tryz.ntmps121
  go_upto_region 1 with fail
  change Code.wp _ _ _ _ (((w.alloc (.cells (cfgV ep A ms.length c) 24)).alloc (.cells #[.int .i64 i] 3)).alloc (.cells zmemV 66))
  rw [← hw1]
  clear hw1
  go_upto_region 2 with (go_at_call 138; (with_reducible refine (HX.out).mono ?_); rintro e w2 ⟨rfl, hb2⟩; have HB2 := Lib.hid hb2; clear hb2)
  clear HX c1
  have HM2 := Lib.hid (HM.out.below HB2.out HM.out.lt)
  by_cases h : posN ms i < ms.length
  · have e1 : posI ms i = (posN ms i : Int) := by unfold posI; rw [if_pos h]
    have HE : Hid (findM ms i = ms[posN ms i]'h ∧ findN ms i = posN ms i ∧ hasB ms i = true) := Lib.hid (by
      unfold findM findN hasB
      rw [if_pos h, if_pos h, decide_eq_true h, List.getD_eq_getElem?_getD, List.getElem?_eq_getElem h]
      exact ⟨rfl, rfl, rfl⟩)
    have e3 : w2.cell? ⟨w.heap.size, 1, none⟩ = some (.slice A ms.length c) := (HB.out.below HB2.out HB.out.lt).cell 1
    rw [e1]
    obtain ⟨g, oo, rfl, _, hr⟩ := (HS.out.far HB2.out).range h
    have lk := range_mem (hr (posN ms i) h)
    obtain ⟨w3, hst, hb3, hg3⟩ := HM2.out.st_mem zmem_size (ms[posN ms i]'h)
    generalize ms[posN ms i]'h = x at *
    generalize posN ms i = k at *
    have i1 : (k : Int) < (ms.length : Int) := by omega
    have i2 : ¬ (k : Int) < 0 := by omega
    have i0 : (0 : Int) ≤ (k : Int) := by omega
    have HB3 := Lib.hid hb3
    have HG3 := Lib.hid hg3
    clear e1 hr hb3 hg3 h
    go_wp2
    refine ret_mem3 rfl rfl rfl rfl rfl HB3.out ⟨?_, (HF.out.trans (HB2.out.mono HF.out.size)).trans (below_only HG3.out (by omega) (HF.out.trans (HB2.out.mono HF.out.size)).size)⟩
    obtain ⟨h1, h2, h3⟩ := HE.out
    rw [h1, h2, h3]
    rfl
  · have e1 : posI ms i = -1 := by unfold posI; rw [if_neg h]
    have HE : Hid (findM ms i = zmem ∧ findN ms i = 0 ∧ hasB ms i = false) := Lib.hid (by
      unfold findM findN hasB
      rw [if_neg h, if_neg h, decide_eq_false h]
      exact ⟨rfl, rfl, rfl⟩)
    rw [e1]
    obtain ⟨w3, hst, hb3, hg3⟩ := HM2.out.st_mem zmem_size zmem
    have hbd := bd_none w2
    have HB3 := Lib.hid hb3
    have HG3 := Lib.hid hg3
    clear e1 hb3 hg3 h
    go_wp2
    refine ret_mem3 rfl rfl rfl rfl rfl HB3.out ⟨?_, (HF.out.trans (HB2.out.mono HF.out.size)).trans (below_only HG3.out (by omega) (HF.out.trans (HB2.out.mono HF.out.size)).size)⟩
    obtain ⟨h1, h2, h3⟩ := HE.out
    rw [h1, h2, h3]
    rfl

end Go.Proofs.YtbclepdcngaonaaGreatDoor

namespace Go.Proofs.YtbclepdcngaonaaGreatDoor
open Go.RowKit Go.Sort

def riseB : Int → List MemX → Bool
  | _, [] => true
  | a, m :: r => decide (a < m.id) && (fitsB m.id m.high && riseB m.id r)
def goodB (ep : Int) (ms : List MemX) : Bool := (inB ep 0 1073741824 && inB (ms.length : Int) 1 10) && riseB 0 ms
set_option maxRecDepth 100000 in
theorem rise_step {ms : List MemX} {k : Nat} (h : k < ms.length) (a : Int) : riseB a (ms.drop k) = (decide (a < (ms[k]'h).id) && (fitsB (ms[k]'h).id (ms[k]'h).high && riseB (ms[k]'h).id (ms.drop (k + 1)))) := by
  rw [List.drop_eq_getElem_cons h]
  rfl

attribute [local go_sem ↓] ldMem_def stMem_def eqMem_def bdMem_def

set_option maxRecDepth 100000 in
set_option maxHeartbeats 2000000 in
theorem good_any8 (ms : List MemX) (ep : Int) (A : Option Addr) (c : Nat) (hn : ms.length ≤ maxLen) (w : World) (hS : Mems w w.heap.size A ms) :
    Calls Tryz.prog 24 #[.agg (cfgV ep A ms.length c)] w fun e w' => e = .returned (.bool (goodB ep ms)) ∧ Below w.heap.size w w' := by
  have HB : Hid (Box (w.alloc (.cells (cfgV ep A ms.length c) 24)) w.heap.size 24 (cfgV ep A ms.length c)) := Box.made _ _ _
  have HF0 : Hid (Below w.heap.size w (w.alloc (.cells (cfgV ep A ms.length c) 24))) := Lib.hid ((Below.refl _ _).alloc (Nat.le_refl _) _)
  have c0 : (w.alloc (.cells (cfgV ep A ms.length c) 24)).cell? ⟨w.heap.size, 0, none⟩ = some (.int .i64 ep) := HB.out.cell 0
  have c1 : (w.alloc (.cells (cfgV ep A ms.length c) 24)).cell? ⟨w.heap.size, 1, none⟩ = some (.slice A ms.length c) := HB.out.cell 1
  have HS := Lib.hid hS
  have HN : Hid (ms.length ≤ 9223372036854775807) := Lib.hid (Nat.le_trans hn (by simp [maxLen]))
  have HW := Lib.hid (cwithin_any ep 0 1073741824)
  have HV := Lib.hid (cwithin_any (ms.length : Int) 1 10)
  have HG : Hid (goodB ep ms = ((inB ep 0 1073741824 && inB (ms.length : Int) 1 10) && riseB 0 ms)) := rfl
  clear hS hn HB
  generalize inB ep 0 1073741824 = p at *
  generalize inB (ms.length : Int) 1 10 = q at *
  generalize goodB ep ms = res at *
  cases p
  · have HR : Hid (res = false) := Lib.hid (by rw [HG.out]; rfl)
    go_enter Tryz.func24, Tryz.ntmps24
    go_wp2_with (go_at_call 45; (with_reducible refine (HW.out _).mono ?_); rintro e w' ⟨rfl, rfl⟩)
    go_ret
    exact ⟨by rw [HR.out]; rfl, HF0.out⟩
  cases q
  · have HR : Hid (res = false) := Lib.hid (by rw [HG.out]; rfl)
    go_enter Tryz.func24, Tryz.ntmps24
    go_wp2_with (first
      | (go_at_call 45; (with_reducible refine (HW.out _).mono ?_); rintro e w' ⟨rfl, rfl⟩)
      | (go_at_call 45; (with_reducible refine (HV.out _).mono ?_); rintro e w' ⟨rfl, rfl⟩))
    go_ret
    exact ⟨by rw [HR.out]; rfl, HF0.out⟩
  have HR : Hid (res = riseB 0 ms) := Lib.hid (by rw [HG.out]; rfl)
  clear HG
  go_enter Tryz.func24, Tryz.ntmps24
  go_wp2_with (first
    | (go_at_call 45; (with_reducible refine (HW.out _).mono ?_); rintro e w' ⟨rfl, rfl⟩)
    | (go_at_call 45; (with_reducible refine (HV.out _).mono ?_); rintro e w' ⟨rfl, rfl⟩))
  clear HW HV c0 c1
  go_loopw [3, 20] (fun ah n wr => ∃ (k : Nat) (a : Int), k ≤ ms.length ∧ n = .int .i64 (k : Int) ∧ ah = .int .i64 a ∧ Hid (Below w.heap.size w wr) ∧ Hid (riseB 0 ms = riseB a (ms.drop k))) (fun _ n _ => ms.length - (intOf n).toNat)
  case atStart => exact ⟨0, 0, Nat.zero_le _, rfl, rfl, HF0, Lib.hid rfl⟩
  case round =>
    obtain ⟨k, a, hk, rfl, rfl, HF, HI⟩ := hrel
    by_cases hlt : k < ms.length
    · obtain ⟨g, oo, rfl, _, hr⟩ := (HS.out.far HF.out).range hlt
      have lk := range_mem (hr k hlt)
      obtain ⟨w3, hst0, hb3, hg3⟩ := laid_mem wr (ms[k]'hlt)
      have HF3 : Hid (Below w.heap.size w w3) := Lib.hid (HF.out.trans (hg3.mono HF.out.size))
      have c0 : w3.cell? ⟨wr.heap.size, 0, none⟩ = some (.int .i64 (ms[k]'hlt).id) := hb3.cell 0
      have hst := hst0
      unfold zmemV at hst
      have l3 := hb3.ld_mem
      have HX := Lib.hid (fits_any (ms[k]'hlt) w3)
      have HLE := Lib.hid hlt
      have wk : IntKind.i64.wrap ((k : Int) + 1) = ((k + 1 : Nat) : Int) := by
        rw [IntKind.wrap_i64]
        have := HN.out
        omega
      have i1 : (k : Int) < (ms.length : Int) := by omega
      have HQ := Lib.hid (HI.out.trans (rise_step hlt a))
      generalize ms[k]'hlt = x at *
      have HGM : Hid (wr.heap.size < w3.heap.size) := Lib.hid hb3.lt
      clear hr hst0 hb3 hg3 HI
      by_cases h1 : a < x.id
      · have h2 : ¬ x.id ≤ a := by omega
        rw [decide_eq_true h1, Bool.true_and] at HQ
        generalize fitsB x.id x.high = f at *
        cases f
        · have HRR : Hid (res = false) := Lib.hid (by rw [HR.out, HQ.out]; rfl)
          clear HQ
          go_wp2_with (go_at_call 46; (with_reducible refine (HX.out).mono ?_); rintro e w4 ⟨rfl, hb4⟩; have HB4 := Lib.hid hb4; clear hb4)
          go_ret
          exact ⟨by rw [HRR.out]; rfl, HF3.out.trans (HB4.out.mono HF3.out.size)⟩
        · have HQ2 : Hid (riseB 0 ms = riseB x.id (ms.drop (k + 1))) := Lib.hid (by rw [HQ.out]; rfl)
          clear HQ
          generalize hxi : x.id = xi at *
          have HXI := Lib.hid hxi
          clear hxi
          go_upto_region 9 with (go_at_call 46; (with_reducible refine (HX.out).mono ?_); rintro e w4 ⟨rfl, hb4⟩; have HB4 := Lib.hid hb4; clear hb4)
          have c4 : w4.cell? ⟨wr.heap.size, 0, none⟩ = some (.int .i64 xi) := (HB4.out.cell (p := ⟨wr.heap.size, 0, none⟩) HGM.out).trans c0
          go_wp2
          go_roundw
          case rel => exact ⟨k + 1, xi, HLE.out, by go_num, rfl, Lib.hid (HF3.out.trans (HB4.out.mono HF3.out.size)), HQ2⟩
          case measure => have := HLE.out; simp [intOf]; omega
      · have h2 : x.id ≤ a := by omega
        have HRR : Hid (res = false) := Lib.hid (by rw [HR.out, HQ.out, decide_eq_false h1]; rfl)
        clear HQ
        go_wp2
        go_ret
        exact ⟨by rw [HRR.out]; rfl, HF3.out⟩
    · have HRR : Hid (res = true) := Lib.hid (by rw [HR.out, HI.out, List.drop_eq_nil_of_le (by omega)]; rfl)
      have i1 : ¬ (k : Int) < (ms.length : Int) := by omega
      go_wp2
      go_ret
      exact ⟨by rw [HRR.out]; rfl, HF.out⟩

end Go.Proofs.YtbclepdcngaonaaGreatDoor

namespace Go.Proofs.YtbclepdcngaonaaGreatDoor
open Go.RowKit Go.Sort

def sameB (ep : Int) (ms : List MemX) (ep' : Int) (ns : List MemX) : Bool := decide (ep = ep') && decide (ms = ns)
set_option maxRecDepth 100000 in
theorem take_same {ms ns : List MemX} {k : Nat} (h : ms.take k = ns.take k) (h1 : k < ms.length) (h2 : k < ns.length) (e : ms[k]'h1 = ns[k]'h2) : ms.take (k + 1) = ns.take (k + 1) := by
  rw [List.take_succ_eq_append_getElem h1, List.take_succ_eq_append_getElem h2, h, e]

attribute [local go_sem ↓] ldMem_def stMem_def eqMem_def bdMem_def

set_option maxRecDepth 100000 in
set_option maxHeartbeats 2000000 in
theorem same_any8 (ep : Int) (ms : List MemX) (A : Option Addr) (c : Nat) (ep' : Int) (ns : List MemX) (A' : Option Addr) (c' : Nat) (hm : ms.length ≤ maxLen) (hn : ns.length ≤ maxLen) (w : World) (hS : Mems w w.heap.size A ms) (hT : Mems w w.heap.size A' ns) :
    Calls Tryz.prog 11 #[.agg (cfgV ep A ms.length c), .agg (cfgV ep' A' ns.length c')] w fun e w' => e = .returned (.bool (sameB ep ms ep' ns)) ∧ Below w.heap.size w w' := by
  obtain ⟨w1, hw1⟩ : ∃ w1, w1 = (w.alloc (.cells (cfgV ep A ms.length c) 24)).alloc (.cells (cfgV ep' A' ns.length c') 24) := ⟨_, rfl⟩
  have HX : Hid (Box w1 w.heap.size 24 (cfgV ep A ms.length c)) := by
    rw [hw1]
    exact (Box.made w _ _).alloc _
  have HY : Hid (Box w1 (w.heap.size + 1) 24 (cfgV ep' A' ns.length c')) := by
    rw [hw1]
    exact Box.made_at (by simp) _ _
  have HF1 : Hid (Below w.heap.size w w1) := by
    rw [hw1]
    exact ((Below.refl _ _).alloc (Nat.le_refl _) _).alloc (by simp) _
  have c0 : w1.cell? ⟨w.heap.size, 0, none⟩ = some (.int .i64 ep) := HX.out.cell 0
  have c1 : w1.cell? ⟨w.heap.size, 1, none⟩ = some (.slice A ms.length c) := HX.out.cell 1
  have d0 : w1.cell? ⟨w.heap.size + 1, 0, none⟩ = some (.int .i64 ep') := HY.out.cell 0
  have d1 : w1.cell? ⟨w.heap.size + 1, 1, none⟩ = some (.slice A' ns.length c') := HY.out.cell 1
  have HS := Lib.hid (hS.far HF1.out)
  have HT := Lib.hid (hT.far HF1.out)
  have HM : Hid (ms.length ≤ 9223372036854775807) := Lib.hid (Nat.le_trans hm (by simp [maxLen]))
  have HN : Hid (ns.length ≤ 9223372036854775807) := Lib.hid (Nat.le_trans hn (by simp [maxLen]))
  have HG : Hid (sameB ep ms ep' ns = (decide (ep = ep') && decide (ms = ns))) := rfl
  clear hS hT hm hn
  generalize sameB ep ms ep' ns = res at *
  go_enter Tryz.func11, Tryz.ntmps11
  go_upto_region 1 with fail
  change Code.wp _ _ _ _ ((w.alloc (.cells (cfgV ep A ms.length c) 24)).alloc (.cells (cfgV ep' A' ns.length c') 24))
  rw [← hw1]
  clear hw1
  by_cases g1 : ep = ep'
  case neg =>
    have HR : Hid (res = false) := Lib.hid (by rw [HG.out, decide_eq_false g1]; rfl)
    have e1 : (ep != ep') = true := by simpa using g1
    clear g1 HG
    go_wp2
    go_ret
    exact ⟨by rw [HR.out]; rfl, HF1.out⟩
  have e1 : (ep != ep') = false := by simpa using g1
  by_cases g2 : ms.length = ns.length
  case neg =>
    have HR : Hid (res = false) := Lib.hid (by
      rw [HG.out, decide_eq_false (fun e : ms = ns => g2 (by rw [e]))]
      simp)
    have e2 : ((ms.length : Int) != (ns.length : Int)) = true := by rw [bne_iff_ne]; omega
    clear g1 g2 HG
    go_wp2
    go_ret
    exact ⟨by rw [HR.out]; rfl, HF1.out⟩
  have e2 : ((ms.length : Int) != (ns.length : Int)) = false := by rw [bne_eq_false_iff_eq]; omega
  have HR : Hid (res = decide (ms = ns)) := Lib.hid (by rw [HG.out, decide_eq_true g1]; rfl)
  have HL := Lib.hid g2
  clear g1 g2 HG
  go_wp2
  have HC1 := Lib.hid c1
  have HD1 := Lib.hid d1
  clear c0 c1 d0 d1 e1 e2
  go_loopw [23] (fun n wr => ∃ k : Nat, k ≤ ms.length ∧ n = .int .i64 (k : Int) ∧ Hid (Below w1.heap.size w1 wr) ∧ Hid (ms.take k = ns.take k)) (fun n _ => ms.length - (intOf n).toNat)
  case atStart => exact ⟨0, Nat.zero_le _, rfl, Lib.hid (Below.refl _ _), Lib.hid (by simp)⟩
  case round =>
    obtain ⟨k, hk, rfl, HF, HI⟩ := hrel
    by_cases hlt : k < ms.length
    · have hlt2 : k < ns.length := by rw [← HL.out]; exact hlt
      obtain ⟨g, oo, rfl, _, hr⟩ := (HS.out.far HF.out).range hlt
      obtain ⟨g', oo', rfl, _, hr'⟩ := (HT.out.far HF.out).range hlt2
      have lk := fun n => range_mem (w := wr.drewN n) (hr k hlt)
      have lk' := fun n => range_mem (w := wr.drewN n) (hr' k hlt2)
      have lz := range_mem (w := wr) (hr k hlt)
      have lz' := range_mem (w := wr) (hr' k hlt2)
      have he := eq_mem (ms[k]'hlt) (ns[k]'hlt2)
      have HTK := Lib.hid (take_same HI.out hlt hlt2)
      have HNE : Hid (ms[k]'hlt ≠ ns[k]'hlt2 → ms ≠ ns) := Lib.hid (fun h e => h (by subst e; rfl))
      have HLE := Lib.hid hlt
      have wk : IntKind.i64.wrap ((k : Int) + 1) = ((k + 1 : Nat) : Int) := by
        rw [IntKind.wrap_i64]
        have := HM.out
        omega
      have i1 : (k : Int) < (ms.length : Int) := by omega
      have i2 : (k : Int) < (ns.length : Int) := by omega
      have i0 : (0 : Int) ≤ (k : Int) := by omega
      have HBL : Hid (w.heap.size < w1.heap.size ∧ w.heap.size + 1 < w1.heap.size) := Lib.hid ⟨HX.out.lt, HY.out.lt⟩
      have c1 := (HF.out.cell (p := ⟨w.heap.size, 1, none⟩) HBL.out.1).trans HC1.out
      have d1 := (HF.out.cell (p := ⟨w.heap.size + 1, 1, none⟩) HBL.out.2).trans HD1.out
      generalize ms[k]'hlt = x at *
      generalize ns[k]'hlt2 = y at *
      unfold MemX.enc at lk lk' lz lz' he
      clear hr hr' hlt2
      by_cases hxy : x = y
      · have HXY := Lib.hid hxy
        rw [decide_eq_true hxy] at he
        clear hxy
        go_upto_region 6 with fail
        go_quiet (fail)
        all_goals
          clear lk lk' lz lz' he c1 d1
          go_wp2
          go_roundw
          case rel => exact ⟨k + 1, HLE.out, by go_num, Lib.hid (below_drewN HF.out _), Lib.hid (HTK.out HXY.out)⟩
          case measure => have := HLE.out; simp [intOf]; omega
      · have HRR : Hid (res = false) := Lib.hid (by rw [HR.out]; exact decide_eq_false (HNE.out hxy))
        rw [decide_eq_false hxy] at he
        clear hxy
        go_upto_region 6 with fail
        go_quiet (fail)
        all_goals
          clear lk lk' lz lz' he c1 d1
          go_wp2
          go_ret
          exact ⟨by rw [HRR.out]; rfl, below_drewN (HF1.out.trans (HF.out.mono HF1.out.size)) _⟩
    · have HRR : Hid (res = true) := Lib.hid (by
        rw [HR.out]
        have h := HI.out
        have hl := HL.out
        rw [List.take_of_length_le (by omega), List.take_of_length_le (by omega)] at h
        exact decide_eq_true h)
      have i1 : ¬ (k : Int) < (ms.length : Int) := by omega
      go_wp2
      go_ret
      exact ⟨by rw [HRR.out]; rfl, HF1.out.trans (HF.out.mono HF1.out.size)⟩
end Go.Proofs.YtbclepdcngaonaaGreatDoor
