/-
  Members in memory: their cells, what is loaded, stored, compared and built; slices that read as members.
  The calls of package config that make no loop, and the document's own counts.
  A member is looked for: slices.IndexFunc by its two closures, config.Find, config.has, the document's Place.
  Whether a configuration can be: config.Good, and the document's own.
  Two configurations compared: the document's Same.
-/
import Derived.Test.YtapdnoellleimaaDoorKA
import Derived.Lib.Hide
import Derived.Deep.RegionHeld3
import Derived.Test.YtapdnoellleimaaDoorChecked
import Derived.WalkKit
import Derived.Deep.QuietTactic
import Derived.BigQuiet
import Derived.Lib.QuietBelow
import Derived.KernelRfl
import Derived.LoopTactic
import Derived.LoopN
namespace Go.Proofs.YtapdnoellleimaaDoor
open Go.RowKit

/-- A member. -/
structure MemX where
  id : Int
  root : List UInt8
  high : Int
  len : root.length = 32
set_option maxRecDepth 100000 in
theorem MemX.same {x y : MemX} (h1 : x.id = y.id) (h2 : x.root = y.root) (h3 : x.high = y.high) : x = y := by
  obtain ⟨a, b, c, d⟩ := x
  obtain ⟨a', b', c', d'⟩ := y
  simp only at h1 h2 h3
  subst h1
  subst h2
  subst h3
  rfl
instance : DecidableEq MemX := fun x y => decidable_of_iff (x.id = y.id ∧ x.root = y.root ∧ x.high = y.high) ⟨fun h => MemX.same h.1 h.2.1 h.2.2, fun h => by rw [h]; exact ⟨rfl, rfl, rfl⟩⟩
def memL (i : Int) (r : List UInt8) (h : Int) : List Value := .int .i64 i :: keyL r h
def MemX.cells (x : MemX) : List Value := memL x.id x.root x.high
def MemX.enc (x : MemX) : Value := .agg x.cells.toArray
set_option maxRecDepth 100000 in
theorem MemX.cells_len (x : MemX) : x.cells.length = 34 := by
  unfold MemX.cells memL
  rw [List.length_cons, keyL_len x.len]
set_option maxRecDepth 100000 in
theorem MemX.cells_one (x : MemX) : ∀ v ∈ x.cells, v.oneCell' = true := by
  intro v hv
  rcases List.mem_cons.1 hv with rfl | hv
  · rfl
  · exact keyL_one _ _ v hv
def z32 : List UInt8 := List.replicate 32 0
set_option maxRecDepth 100000 in
theorem z32_len : z32.length = 32 := rfl
def zmem : MemX := ⟨0, z32, 0, rfl⟩
instance : Inhabited MemX := ⟨zmem⟩
def zmemV : Array Value := #[.int .i64 0, .int .u8 0, .int .u8 0, .int .u8 0, .int .u8 0, .int .u8 0, .int .u8 0, .int .u8 0, .int .u8 0, .int .u8 0, .int .u8 0, .int .u8 0, .int .u8 0, .int .u8 0, .int .u8 0, .int .u8 0, .int .u8 0, .int .u8 0, .int .u8 0, .int .u8 0, .int .u8 0, .int .u8 0, .int .u8 0, .int .u8 0, .int .u8 0, .int .u8 0, .int .u8 0, .int .u8 0, .int .u8 0, .int .u8 0, .int .u8 0, .int .u8 0, .int .u8 0, .int .i64 0]
set_option maxRecDepth 100000 in
theorem zmem_cells : zmem.cells.toArray = zmemV := rfl
set_option maxRecDepth 100000 in
theorem zmem_size : zmemV.size = 34 := rfl
set_option maxRecDepth 100000 in
theorem MemX.cell0 (x : MemX) : x.cells[0]? = some (.int .i64 x.id) := rfl
set_option maxRecDepth 100000 in
theorem MemX.cell33 (x : MemX) : x.cells[33]? = some (.int .i64 x.high) := by
  show (keyL x.root x.high)[32]? = _
  unfold keyL
  rw [List.getElem?_append_right (by simp [x.len])]
  simp [x.len]

/-! ### Loads, stores, comparisons, literals, kept whole while a walk goes on -/
/-! ### Slices of members -/
set_option maxRecDepth 100000 in
theorem cf_get {α : Type} (f : α → List Value) (k : Nat) (hf : ∀ x, (f x).length = k) : ∀ (xs : List α) (j : Nat), j < xs.length * k → ∃ x, xs[j / k]? = some x ∧ (xs.flatMap f)[j]? = (f x)[j % k]?
  | [], j, hj => by simp at hj
  | x :: r, j, hj => by
    have hk : 0 < k := by
      rcases Nat.eq_zero_or_pos k with rfl | h
      · simp at hj
      · exact h
    rw [List.flatMap_cons]
    rcases Nat.lt_or_ge j k with hlt | hge
    · refine ⟨x, by rw [Nat.div_eq_of_lt hlt]; rfl, ?_⟩
      rw [List.getElem?_append_left (by rw [hf]; exact hlt), Nat.mod_eq_of_lt hlt]
    · obtain ⟨y, h1, h2⟩ := cf_get f k hf r (j - k) (by
        rw [List.length_cons, Nat.add_mul, Nat.one_mul] at hj
        omega)
      refine ⟨y, ?_, ?_⟩
      · have e : j / k = (j - k) / k + 1 := by
          rw [Nat.div_eq_sub_div hk hge]
        rw [e]
        simpa using h1
      · rw [List.getElem?_append_right (by rw [hf]; exact hge), hf, h2]
        have e : j % k = (j - k) % k := Nat.mod_eq_sub_mod hge
        rw [e]
set_option maxRecDepth 100000 in
theorem cf_len {α : Type} (f : α → List Value) (k : Nat) (hf : ∀ x, (f x).length = k) : ∀ xs : List α, (xs.flatMap f).length = xs.length * k
  | [] => by simp
  | x :: r => by
    rw [List.flatMap_cons, List.length_append, hf, cf_len f k hf r, List.length_cons, Nat.add_mul, Nat.one_mul, Nat.add_comm]
set_option maxRecDepth 100000 in
theorem cf_at {α : Type} (f : α → List Value) (k : Nat) (hf : ∀ x, (f x).length = k) : ∀ (xs : List α) (i : Nat) (hi : i < xs.length), ((xs.flatMap f).drop (i * k)).take k = f (xs[i]'hi)
  | x :: r, 0, _ => by
    rw [List.flatMap_cons, Nat.zero_mul, List.drop_zero, List.take_append_of_le_length (by rw [hf]; exact Nat.le_refl _), List.take_of_length_le (by rw [hf]; exact Nat.le_refl _)]
    rfl
  | x :: r, i + 1, hi => by
    rw [List.flatMap_cons, List.drop_append, List.drop_of_length_le (by rw [hf, Nat.add_mul]; omega), List.nil_append, hf, show (i + 1) * k - k = i * k by rw [Nat.add_mul]; omega]
    exact cf_at f k hf r i (by simpa using hi)
set_option maxRecDepth 100000 in
theorem cf_range {w : World} {g o : Nat} {cs : List Value} (h : w.rangeAt g o cs) (k n : Nat) : w.rangeAt g (o + k) ((cs.drop k).take n) := by
  intro j v hv
  rw [List.getElem?_take] at hv
  split at hv
  · rw [List.getElem?_drop] at hv
    rw [Nat.add_assoc]
    exact h (k + j) v hv
  · cases hv

abbrev flatM (ms : List MemX) : List Value := ms.flatMap MemX.cells
set_option maxRecDepth 100000 in
theorem flatM_len (ms : List MemX) : (flatM ms).length = ms.length * 34 := cf_len MemX.cells 34 MemX.cells_len ms
set_option maxRecDepth 100000 in
theorem flatM_one (ms : List MemX) : ∀ v ∈ flatM ms, v.oneCell' = true := by
  intro v hv
  obtain ⟨x, _, hx⟩ := List.mem_flatMap.1 hv
  exact x.cells_one v hx
/-- A slice whose address is A reads as these members, below block B. -/
abbrev Mems (w : World) (B : Nat) (A : Option Addr) (ms : List MemX) : Prop := Sees w B A (flatM ms)
set_option maxRecDepth 100000 in
theorem Mems.range {w : World} {B : Nat} {A : Option Addr} {ms : List MemX} (h : Mems w B A ms) {i : Nat} (hi : i < ms.length) : ∃ g o, A = some ⟨g, o, none⟩ ∧ g < B ∧ ∀ j (hj : j < ms.length), w.rangeAt g (o + j * 34) (ms[j]'hj).cells := by
  rcases h with hn | ⟨g, o, rfl, hg, hc⟩
  · have hl := flatM_len ms
    rw [hn, List.length_nil] at hl
    omega
  · refine ⟨g, o, rfl, hg, fun j hj => ?_⟩
    rw [← cf_at MemX.cells 34 MemX.cells_len ms j hj]
    exact cf_range hc _ _
set_option maxRecDepth 100000 in
theorem Mems.far {w w' : World} {A : Option Addr} {ms : List MemX} (h : Mems w w.heap.size A ms) (hb : Below w.heap.size w w') : Mems w' w'.heap.size A ms := (Sees.below h hb).more hb.size

set_option maxRecDepth 100000 in
theorem take_at8 {P : Program} {md : Region.Mode} {ops : Array Oper} {Q : Exit → Act → World → Prop} {S : World → Prop} {i : Nat} {oi : Oper} {v : Value} {d : Tmp} {fuel : Nat} {listed : Array Bool} {ts : Array Value} {w : World} (hi : ops[i]? = some oi)
    (hs : Region.noSelect ops = true) (hf : Region.free md ops listed i = true) (hr : (Region.ready md ops listed).contains i = true)
    (hQ : ∀ c a w, Q (.panic c) (a.put oi.dst v) w → Q (.panic c) a w) (hd : oi.dst = some d) (hy : YieldsIf P ops S oi v { tmps := ts, defers := [] }) (hS : S w)
    (h : wpAnyH P md ops Q S fuel (listed.setIfInBounds i true) { tmps := ts.setIfInBounds d v, defers := [] } w) : wpAnyH P md ops Q S (fuel + 1) listed { tmps := ts, defers := [] } w :=
  wpAnyH_take hi hs hf hr hQ hy hS (by rw [hd]; exact h)

/-- A configuration by value. -/
abbrev cfgV (ep : Int) (A : Option Addr) (n c : Nat) : Array Value := #[.int .i64 ep, .slice A n c]
end Go.Proofs.YtapdnoellleimaaDoor

namespace Go.Proofs.YtapdnoellleimaaDoor
open Go.RowKit Go.Sort

def faultsN (n : Nat) : Nat := (n - 1) / 3
def quorumN (n : Nat) : Nat := (n + faultsN n) / 2 + 1
def inB (n lo hi : Int) : Bool := decide (lo ≤ n) && decide (n ≤ hi)
def fitsB (i h : Int) : Bool := inB i 1 63 && inB h 0 6

end Go.Proofs.YtapdnoellleimaaDoor

namespace Go.Proofs.YtapdnoellleimaaDoor
open Go.RowKit Go.Sort

/-- The first member of a number; as many as there are: none. -/
def posN (ms : List MemX) (i : Int) : Nat := ms.findIdx (fun m => m.id == i)
def posI (ms : List MemX) (i : Int) : Int := if posN ms i < ms.length then (posN ms i : Int) else -1
def hasB (ms : List MemX) (i : Int) : Bool := decide (posN ms i < ms.length)
def findM (ms : List MemX) (i : Int) : MemX := if posN ms i < ms.length then ms.getD (posN ms i) zmem else zmem
def findN (ms : List MemX) (i : Int) : Nat := if posN ms i < ms.length then posN ms i else 0
set_option maxRecDepth 100000 in
theorem posN_le (ms : List MemX) (i : Int) : posN ms i ≤ ms.length := List.findIdx_le_length
set_option maxRecDepth 100000 in
theorem posN_ne {ms : List MemX} {i : Int} {j : Nat} (h : j < posN ms i) (hj : j < ms.length) : (ms[j]'hj).id ≠ i := by
  have := List.not_of_lt_findIdx h
  simpa using this
set_option maxRecDepth 100000 in
theorem posN_eq {ms : List MemX} {i : Int} (h : posN ms i < ms.length) : (ms[posN ms i]'h).id = i := by
  have := List.findIdx_getElem (p := fun m : MemX => m.id == i) (w := h)
  exact eq_of_beq this

end Go.Proofs.YtapdnoellleimaaDoor

namespace Go.Proofs.YtapdnoellleimaaDoor
open Go.RowKit Go.Sort

def riseB : Int → List MemX → Bool
  | _, [] => true
  | a, m :: r => decide (a < m.id) && (fitsB m.id m.high && riseB m.id r)
def goodB (ep : Int) (ms : List MemX) : Bool := (inB ep 0 1073741824 && inB (ms.length : Int) 1 10) && riseB 0 ms
set_option maxRecDepth 100000 in
theorem rise_step {ms : List MemX} {k : Nat} (h : k < ms.length) (a : Int) : riseB a (ms.drop k) = (decide (a < (ms[k]'h).id) && (fitsB (ms[k]'h).id (ms[k]'h).high && riseB (ms[k]'h).id (ms.drop (k + 1)))) := by
  rw [List.drop_eq_getElem_cons h]
  rfl

end Go.Proofs.YtapdnoellleimaaDoor

namespace Go.Proofs.YtapdnoellleimaaDoor
open Go.RowKit Go.Sort

def sameB (ep : Int) (ms : List MemX) (ep' : Int) (ns : List MemX) : Bool := decide (ep = ep') && decide (ms = ns)
set_option maxRecDepth 100000 in
theorem take_same {ms ns : List MemX} {k : Nat} (h : ms.take k = ns.take k) (h1 : k < ms.length) (h2 : k < ns.length) (e : ms[k]'h1 = ns[k]'h2) : ms.take (k + 1) = ns.take (k + 1) := by
  rw [List.take_succ_eq_append_getElem h1, List.take_succ_eq_append_getElem h2, h, e]

end Go.Proofs.YtapdnoellleimaaDoor
