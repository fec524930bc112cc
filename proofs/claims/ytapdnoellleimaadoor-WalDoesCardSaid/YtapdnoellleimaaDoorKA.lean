/-
  Key trees on plain lists: the leaves of a seed and a height, the key, a signature, when one is right; each signature of a tree is right under its key.
  Keys, trees and signatures as values: how they are built, keys compared.
  Changes in memory: their cells, what is loaded.
  A tree of keys is made: keys.New.
-/
import Derived.Test.YtapdnoellleimaaDoorTV
import Derived.Test.YtapdnoellleimaaDoorOB
import Derived.Test.YtapdnoellleimaaDoorTG
import Derived.Great.BuildSlice
import Derived.Lib.Hide
import Derived.Test.YtapdnoellleimaaDoorTU
import Derived.Test.YtapdnoellleimaaDoorOD
namespace Go.Proofs.YtapdnoellleimaaDoor
open Go.RowKit

/-- The leaf of a public half. -/
def leafT (p : List UInt8) : List UInt8 := shaOf (0 :: p)
def leavesT (seed : List UInt8) (h : Nat) : List (List UInt8) := (List.range (2 ^ h)).map fun (i : Nat) => leafT (pubT seed (i : Int))
theorem leaves_len (seed : List UInt8) (h : Nat) : (leavesT seed h).length = 2 ^ h := by simp [leavesT]
theorem leaves_all (seed : List UInt8) (h : Nat) : AllD (leavesT seed h) := by
  intro x hx
  obtain ⟨i, _, rfl⟩ := List.mem_map.1 hx
  rfl
theorem leaves_at (seed : List UInt8) (h : Nat) {n : Nat} (hn : n < 2 ^ h) : (leavesT seed h).getD n [] = leafT (pubT seed (n : Int)) := by
  unfold leavesT
  rw [List.getD_eq_getElem?_getD, List.getElem?_map, List.getElem?_range hn]
  rfl
def keyT (seed : List UInt8) (h : Nat) : List UInt8 := rootT (leavesT seed h)
/-- Is a signature right: root, digest, its lists, the leaf's number, how many leaves, the path. -/
def rightT (root d : List UInt8) (op sh : List (List UInt8)) (n count : Nat) (path : List (List UInt8)) : Bool := checkT root (leafT (ofT d op sh)) n count path
theorem right_own (seed d : List UInt8) (h : Nat) {n : Nat} (hn : n < 2 ^ h) : rightT (keyT seed h) d (openT seed (n : Int) d) (shutT seed (n : Int) d) n (2 ^ h) (pathT (leavesT seed h) n) = true := by
  have hl : n < (leavesT seed h).length := by rw [leaves_len]; exact hn
  unfold rightT keyT
  rw [of_sign, ← leaves_at seed h hn]
  have hc := check_own (leavesT seed h) n hl
  rw [leaves_len] at hc
  exact hc
end Go.Proofs.YtapdnoellleimaaDoor

namespace Go.Proofs.YtapdnoellleimaaDoor
open Go.RowKit

/-! ### Values built of parts -/
theorem fill_step {place : Nat → Option (Nat × Nat)} {pre mid post : List Value} {i : Nat} {v : Value} {vs : List Value} {rest : List (Nat × Value)} {off size : Nat} (hp : place i = some (off, size)) (ho : pre.length = off) (hs : mid.length = size) (hv : v.cells = vs.toArray) (hl : vs.length = size) :
    Instr.fill place (pre ++ (mid ++ post)).toArray ((i, v) :: rest) = Instr.fill place (pre ++ (vs ++ post)).toArray rest := by
  conv => lhs; unfold Instr.fill
  rw [hp]
  have hsz : v.cells.size = size := by rw [hv, List.size_toArray, hl]
  have hf : v.cells.zipIdx.foldl (fun (cs : Array Value) (x : Value × Nat) => cs.setIfInBounds (off + x.2) x.1) (pre ++ (mid ++ post)).toArray = (pre ++ (vs ++ post)).toArray := by
    rw [hv, ← Array.foldl_toList, Array.toList_zipIdx, List.toList_toArray, fold_mid vs 0 off pre mid post (by rw [ho, Nat.add_zero]) (by rw [hl, hs])]
  simp only [hsz]
  rw [if_neg (by simp [ho, hs])]
  exact congrArg (fun c => Instr.fill place c rest) hf

/-- A key's cells: the root, and how high. -/
def keyL (r : List UInt8) (h : Int) : List Value := r.map bv ++ [.int .i64 h]
def keyV (r : List UInt8) (h : Int) : Array Value := (keyL r h).toArray
theorem keyL_len {r : List UInt8} (hr : r.length = 32) (h : Int) : (keyL r h).length = 33 := by unfold keyL; simp [hr]
theorem keyL_one (r : List UInt8) (h : Int) : ∀ v ∈ keyL r h, v.oneCell' = true := by
  intro v hv
  rcases List.mem_append.1 hv with hv | hv
  · exact bv_one r v hv
  · obtain rfl := List.mem_singleton.1 hv
    rfl
/-- A tree's cells: the seed, the key, the leaves' slice. -/
def treeL (seed r : List UInt8) (h : Int) (v : Value) : List Value := seed.map bv ++ (keyL r h ++ [v])
def treeV (seed r : List UInt8) (h : Int) (v : Value) : Array Value := (treeL seed r h v).toArray
theorem treeL_len {seed r : List UInt8} (hs : seed.length = 32) (hr : r.length = 32) (h : Int) (v : Value) : (treeL seed r h v).length = 66 := by unfold treeL; simp [hs, keyL_len hr]
/-- A signature's cells. -/
abbrev sigV (n : Int) (A : Option Addr) (x a : Nat) (B : Option Addr) (y b : Nat) (C : Option Addr) (z c : Nat) : Array Value := #[.int .i64 n, .slice A x a, .slice B y b, .slice C z c]
theorem sig_one (n : Int) (A : Option Addr) (x a : Nat) (B : Option Addr) (y b : Nat) (C : Option Addr) (z c : Nat) : ∀ v ∈ (sigV n A x a B y b C z c).toList, v.oneCell' = true := by
  intro v hv
  simp at hv
  rcases hv with rfl | rfl | rfl | rfl <;> rfl

/-- A struct built of parts, for the walk. -/
theorem wpList_build_list {P : Program} {ops : Array Oper} {rest : List Oper} {o : Oper} {a : Act} {w : World} {Q : Exit → Act → World → Prop} (hg : o.guard = none) (t : TypeId) (parts : List (Nat × Operand)) (ho : o.op = .build t parts.toArray)
    (vals : List (Nat × Value)) (hv : parts.map (fun x => (x.1, a.eval x.2)) = vals) (cells : Array Value) (hf : P.built t vals = some cells)
    (h : wpList P ops Q rest (a.put o.dst (.agg cells)) w) : wpList P ops Q (o :: rest) a w := by
  subst hv
  exact wpList_buildTo hg t parts.toArray ho o.dst rfl cells (by rw [← hf]; congr 1; simp) h

/-! ### Built in a region that draws -/
/-! ### Keys compared -/
theorem eqItems_bytes_at (d : Nat) (w : World) (xs ys : List UInt8) : ∀ is : List Nat, (∀ i ∈ is, i < xs.length ∧ i < ys.length) →
    (Op.eqItems (d + 1) 5 1 (xs.map bv).toArray (ys.map bv).toArray is).run Tryd.prog w = .ok (is.all fun i => xs[i]? == ys[i]?) w
  | [], _ => by simp [Op.eqItems]
  | i :: is, h => by
    obtain ⟨h1, h2⟩ := h i (List.mem_cons_self ..)
    have hp : Tryd.prog.plainKey 5 = true := by kernel_rfl
    have p1 := run_part_plain (P := Tryd.prog) w hp (off := i * 1) (by rw [Nat.mul_one]; exact bv_get h1)
    have p2 := run_part_plain (P := Tryd.prog) w hp (off := i * 1) (by rw [Nat.mul_one]; exact bv_get h2)
    have p3 : (Op.equalIn (d + 1) 5 (bv xs[i]) (bv ys[i])).run Tryd.prog w = .ok (((xs[i].toNat : Int)) == ((ys[i].toNat : Int))) w := run_equalIn_int w d 5 .u8 .u8 _ _ Tryd.underlying5
    have ih := eqItems_bytes_at d w xs ys is (fun j hj => h j (List.mem_cons_of_mem _ hj))
    rw [bv_beq] at p3
    simp only [Op.eqItems, Sem.run_bind, p1, p2, p3, Result.andThen_ok, List.all_cons, List.getElem?_eq_getElem h1, List.getElem?_eq_getElem h2]
    by_cases he : xs[i] = ys[i]
    · rw [he]
      simp only [beq_self_eq_true, Bool.not_true, Bool.false_eq_true, if_false, Bool.true_and]
      exact ih
    · have e1 : (xs[i] == ys[i]) = false := by simpa using he
      have e2 : (some xs[i] == some ys[i]) = false := by simpa using he
      rw [e1, e2]
      simp
theorem dig_eq_at (d : Nat) (xs ys : List UInt8) (h1 : xs.length = 32) (h2 : ys.length = 32) (w : World) :
    (Op.equalIn (d + 2) 89 (.agg (xs.map bv).toArray) (.agg (ys.map bv).toArray)).run Tryd.prog w = .ok (decide (xs = ys)) w := by
  obtain ⟨i, hi⟩ := dig_info
  have hc : Tryd.prog.cellsOf 5 = 1 := Tryd.cells_byte
  have h := run_equalIn_array (P := Tryd.prog) w (d + 1) (xs.map bv).toArray (ys.map bv).toArray Tryd.underlying89 hi
  rw [hc, eqItems_bytes_at d w xs ys _ (fun j hj => by rw [List.mem_range] at hj; omega)] at h
  have e : ((List.range 32).all fun i => xs[i]? == ys[i]?) = decide (xs = ys) := by
    rw [Bool.eq_iff_iff, List.all_eq_true, decide_eq_true_iff]
    constructor
    · intro h
      apply List.ext_getElem?
      intro j
      rcases Nat.lt_or_ge j 32 with hj | hj
      · simpa using h j (List.mem_range.2 hj)
      · rw [List.getElem?_eq_none (by omega), List.getElem?_eq_none (by omega)]
    · rintro rfl j _
      simp
  rw [e] at h
  exact h
end Go.Proofs.YtapdnoellleimaaDoor

namespace Go.Proofs.YtapdnoellleimaaDoor
open Go.RowKit

/-- A change's cells. -/
def chgL (k i n : Int) (r : List UInt8) (h : Int) : List Value := .int .i64 k :: .int .i64 i :: .int .i64 n :: keyL r h
abbrev chgV (k i n : Int) (r : List UInt8) (h : Int) : Value := .agg (chgL k i n r h).toArray
set_option maxRecDepth 100000 in
theorem chg_len {r : List UInt8} (hr : r.length = 32) (k i n h : Int) : (chgL k i n r h).length = 36 := by
  unfold chgL
  simp [keyL_len hr]
set_option maxRecDepth 100000 in
theorem chg_key {w : World} {g : Nat} {t : TypeId} {k i n h : Int} {r : List UInt8} (hb : Box w g t (chgL k i n r h).toArray) : w.rangeAt g 3 (keyL r h) := by
  intro j v hj
  have := hb.range (j + 3) v (by unfold chgL; simpa using hj)
  rw [Nat.zero_add, Nat.add_comm j 3] at this
  exact this

end Go.Proofs.YtapdnoellleimaaDoor

namespace Go.Proofs.YtapdnoellleimaaDoor
open Go.RowKit

attribute [local go_sem ↓] ldDigest_def stDigest_def

abbrev zkey : Array Value := (List.replicate 32 (Value.int .u8 0) ++ [Value.int .i64 0]).toArray
theorem keyT_len (seed : List UInt8) (h : Nat) : (keyT seed h).length = 32 := (leaves_all seed h).root

/-- What the walk of New carries of memory. -/
structure NwW (w1 : World) (g : Nat) (X : List (List UInt8)) (k : Nat) (w : World) : Prop where
  fill : Box w g 89 (fillD X k)
  far : Below w1.heap.size w1 w
  hg : w1.heap.size ≤ g
theorem NwW.call {w1 w w' : World} {g k : Nat} {X : List (List UInt8)} (s : NwW w1 g X k w) (hb : Below w.heap.size w w') : NwW w1 g X k w' := ⟨s.fill.below hb s.fill.lt, s.far.trans (hb.mono s.far.size), s.hg⟩
theorem NwW.put {w1 w : World} {g k : Nat} {X : List (List UInt8)} (s : NwW w1 g X k w) (hX : AllD X) (hk : k < X.length) : NwW w1 g X (k + 1) (w.setCells g (k * 32) ((X.getD k []).map bv)) := ⟨s.fill.fill_put hX hk, below_cells s.far s.hg s.far.size _ _, s.hg⟩

end Go.Proofs.YtapdnoellleimaaDoor
