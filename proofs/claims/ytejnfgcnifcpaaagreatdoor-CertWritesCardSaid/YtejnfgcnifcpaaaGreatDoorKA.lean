/-
  Key trees on plain lists: the leaves of a seed and a height, the key, a signature, when one is right; each signature of a tree is right under its key.
  Package keys: grows, count, leaf.
  Keys, trees and signatures as values: how they are built, keys compared.
  Changes in memory: their cells, what is loaded.
  A tree of keys is made: keys.New.
-/
import Derived.Test.YtejnfgcnifcpaaaGreatDoorTV
import Derived.Test.YtejnfgcnifcpaaaGreatDoorOB
import Derived.Test.YtejnfgcnifcpaaaGreatDoorTU
import Derived.Test.YtejnfgcnifcpaaaGreatDoorTG
import Derived.Great.BuildSlice
import Derived.Lib.Hide
import Derived.Test.YtejnfgcnifcpaaaGreatDoorOD
namespace Go.Proofs.YtejnfgcnifcpaaaGreatDoor
open Go.RowKit

/-- The leaf of a public half. -/
def leafT (p : List UInt8) : List UInt8 := shaOf (0 :: p)
def leavesT (seed : List UInt8) (h : Nat) : List (List UInt8) := (List.range (2 ^ h)).map fun (i : Nat) => leafT (pubT seed (i : Int))
theorem leaves_len (seed : List UInt8) (h : Nat) : (leavesT seed h).length = 2 ^ h := by simp [leavesT]
theorem leaves_all (seed : List UInt8) (h : Nat) : AllD (leavesT seed h) := by
  intro x hx
  obtain ⟨i, _, rfl⟩ := List.mem_map.1 hx
  rfl
theorem leaves_at (seed : List UInt8) (h : Nat) {n : Nat} (hn : n < 2 ^ h) : (leavesT seed h).getD n [] = leafT (pubT seed (n : Int)) := by
  unfold leavesT
  rw [List.getD_eq_getElem?_getD, List.getElem?_map, List.getElem?_range hn]
  rfl
def keyT (seed : List UInt8) (h : Nat) : List UInt8 := rootT (leavesT seed h)
/-- Is a signature right: root, digest, its lists, the leaf's number, how many leaves, the path. -/
def rightT (root d : List UInt8) (op sh : List (List UInt8)) (n count : Nat) (path : List (List UInt8)) : Bool := checkT root (leafT (ofT d op sh)) n count path
theorem right_own (seed d : List UInt8) (h : Nat) {n : Nat} (hn : n < 2 ^ h) : rightT (keyT seed h) d (openT seed (n : Int) d) (shutT seed (n : Int) d) n (2 ^ h) (pathT (leavesT seed h) n) = true := by
  have hl : n < (leavesT seed h).length := by rw [leaves_len]; exact hn
  unfold rightT keyT
  rw [of_sign, ← leaves_at seed h hn]
  have hc := check_own (leavesT seed h) n hl
  rw [leaves_len] at hc
  exact hc
end Go.Proofs.YtejnfgcnifcpaaaGreatDoor

namespace Go.Proofs.YtejnfgcnifcpaaaGreatDoor
open Go.RowKit

set_option maxRecDepth 100000 in
theorem grows_any (h : Int) (w : World) : Calls Tryz.prog 49 #[.int .i64 h] w fun e w' => e = .returned (.bool (decide (0 ≤ h) && decide (h ≤ 6))) ∧ w' = w := by
  by_cases h0 : 0 ≤ h
  · have h' : decide (0 ≤ h) = true := by simpa using h0
    go_enter Tryz.func49, Tryz.ntmps49
    go_wp2
    go_ret
    exact ⟨by simp [h0], rfl⟩
  · have h' : decide (0 ≤ h) = false := by simpa using h0
    go_enter Tryz.func49, Tryz.ntmps49
    go_wp2
    go_ret
    exact ⟨by simp, rfl⟩

set_option maxRecDepth 100000 in
theorem count_any (h : Nat) (hh : h ≤ 6) (w : World) : Calls Tryz.prog 50 #[.int .i64 (h : Int)] w fun e w' => e = .returned (.int .i64 ((2 ^ h : Nat) : Int)) ∧ w' = w := by
  have h7 : h = 0 ∨ h = 1 ∨ h = 2 ∨ h = 3 ∨ h = 4 ∨ h = 5 ∨ h = 6 := by omega
  rcases h7 with rfl | rfl | rfl | rfl | rfl | rfl | rfl <;>
    (go_enter Tryz.func50, Tryz.ntmps50
     go_wp2
     go_ret
     exact ⟨rfl, rfl⟩)

set_option maxRecDepth 100000 in
set_option maxHeartbeats 1000000 in
theorem kleaf_any (s : List UInt8) (hs : s.length = 32) (w : World) (hR : Roots w) :
    Calls Tryz.prog 51 #[.agg (s.map bv).toArray] w fun e w' => e = .returned (.agg ((leafT s).map bv).toArray) ∧ Below w.heap.size w w' := by
  have hS : Box ((w.alloc (.cells (s.map bv).toArray 26)).alloc (.cells zs32 26)) w.heap.size 26 (s.map bv).toArray := (Box.made w _ _).alloc _
  have HO : Hid (Box ((w.alloc (.cells (s.map bv).toArray 26)).alloc (.cells zs32 26)) (w.heap.size + 1) 26 zs32) := Box.made_at (by simp) _ _
  have HF : Hid (Below w.heap.size w ((w.alloc (.cells (s.map bv).toArray 26)).alloc (.cells zs32 26))) := ((Below.refl _ _).alloc (Nat.le_refl _) _).alloc (by simp) _
  go_enter Tryz.func51, Tryz.ntmps51
  go_upto_region 1 with fail
  change Code.wp _ _ _ _ ((w.alloc (.cells (s.map bv).toArray 26)).alloc (.cells zs32 26))
  generalize (w.alloc (.cells (s.map bv).toArray 26)).alloc (.cells zs32 26) = w1 at *
  have HOF := Lib.hid (leaf_any s (some ⟨w.heap.size, 0, none⟩) 32 w1 (Sees.of_box hS hS.lt) (by omega) (by simp [maxLen]) (by omega) (hR.of_below HF.out))
  rw [hs] at HOF
  change Hid (Calls _ _ _ _ fun e w' => e = .returned (.agg ((leafT s).map bv).toArray) ∧ _) at HOF
  have HDL : Hid ((leafT s).length = 32) := Lib.hid rfl
  generalize hd : leafT s = d at *
  have HD := Lib.hid hd
  clear hd
  have HSM := Lib.hid (dig_same d HDL.out)
  have HSZ := Lib.hid (dig_size d HDL.out)
  clear hS
  go_wp2_with (first
    | (go_at_call 92; refine (HOF.out).mono ?_; rintro e w6 ⟨rfl, hB6⟩; have HB6 := Lib.hid hB6; clear hB6)
    | (((with_reducible show wpList _ _ _ ((⟨none, Op.store _ (.tmp 2) (.tmp 4), _, _, _, _⟩ : Oper) :: _) _ _)); refine wpList_store_box rfl 26 (.tmp 2) (.tmp 4) rfl (w.heap.size + 1) (d.map bv).toArray rfl rfl 26 zs32 (HO.out.below HB6.out HO.out.lt) HSM.out HSZ.out (bv_one _) ?_; intro w7 hb7 hg7))
  exact ret_dig rfl rfl rfl hb7 HDL.out ⟨by rw [HD.out], (HF.out.trans (HB6.out.mono HF.out.size)).trans (below_only hg7 (by omega) (HF.out.trans (HB6.out.mono HF.out.size)).size)⟩
end Go.Proofs.YtejnfgcnifcpaaaGreatDoor

namespace Go.Proofs.YtejnfgcnifcpaaaGreatDoor
open Go.RowKit

/-! ### Values built of parts -/
theorem fill_step {place : Nat → Option (Nat × Nat)} {pre mid post : List Value} {i : Nat} {v : Value} {vs : List Value} {rest : List (Nat × Value)} {off size : Nat} (hp : place i = some (off, size)) (ho : pre.length = off) (hs : mid.length = size) (hv : v.cells = vs.toArray) (hl : vs.length = size) :
    Instr.fill place (pre ++ (mid ++ post)).toArray ((i, v) :: rest) = Instr.fill place (pre ++ (vs ++ post)).toArray rest := by
  conv => lhs; unfold Instr.fill
  rw [hp]
  have hsz : v.cells.size = size := by rw [hv, List.size_toArray, hl]
  have hf : v.cells.zipIdx.foldl (fun (cs : Array Value) (x : Value × Nat) => cs.setIfInBounds (off + x.2) x.1) (pre ++ (mid ++ post)).toArray = (pre ++ (vs ++ post)).toArray := by
    rw [hv, ← Array.foldl_toList, Array.toList_zipIdx, List.toList_toArray, fold_mid vs 0 off pre mid post (by rw [ho, Nat.add_zero]) (by rw [hl, hs])]
  simp only [hsz]
  rw [if_neg (by simp [ho, hs])]
  exact congrArg (fun c => Instr.fill place c rest) hf

/-- A key's cells: the root, and how high. -/
def keyL (r : List UInt8) (h : Int) : List Value := r.map bv ++ [.int .i64 h]
def keyV (r : List UInt8) (h : Int) : Array Value := (keyL r h).toArray
theorem keyL_len {r : List UInt8} (hr : r.length = 32) (h : Int) : (keyL r h).length = 33 := by unfold keyL; simp [hr]
theorem keyL_one (r : List UInt8) (h : Int) : ∀ v ∈ keyL r h, v.oneCell' = true := by
  intro v hv
  rcases List.mem_append.1 hv with hv | hv
  · exact bv_one r v hv
  · obtain rfl := List.mem_singleton.1 hv
    rfl
theorem built_key {r : List UInt8} (hr : r.length = 32) (h : Int) : Tryz.prog.built 58 [(0, .agg (r.map bv).toArray), (1, .int .i64 h)] = some (keyV r h) := by
  have e : Tryz.prog.built 58 [(0, .agg (r.map bv).toArray), (1, .int .i64 h)] = Instr.fill (#[(0, 32), (32, 1)][·]?) ([] ++ (List.replicate 32 (Value.int .u8 0) ++ [Value.int .i64 0])).toArray [(0, .agg (r.map bv).toArray), (1, .int .i64 h)] := by kernel_rfl
  rw [e, fill_step (off := 0) (size := 32) (vs := r.map bv) rfl rfl (by simp) rfl (by simp [hr])]
  have e2 : ([] ++ (r.map bv ++ [Value.int .i64 0]) : List Value) = r.map bv ++ ([.int .i64 0] ++ []) := by simp
  rw [e2, fill_step (off := 32) (size := 1) (vs := [.int .i64 h]) rfl (by simp [hr]) rfl rfl rfl]
  unfold keyV keyL Instr.fill
  simp
theorem key_size {r : List UInt8} (hr : r.length = 32) (h : Int) : (Tryz.prog.info? 58).map (·.size) = some (keyV r h).size := by
  unfold keyV
  rw [List.size_toArray, keyL_len hr]
  kernel_rfl
theorem key_list {r : List UInt8} (hr : r.length = 32) (h : Int) : (Tryz.prog.info? 58).map (·.size) = some (keyL r h).length := by
  rw [keyL_len hr]
  kernel_rfl

/-- A tree's cells: the seed, the key, the leaves' slice. -/
def treeL (seed r : List UInt8) (h : Int) (v : Value) : List Value := seed.map bv ++ (keyL r h ++ [v])
def treeV (seed r : List UInt8) (h : Int) (v : Value) : Array Value := (treeL seed r h v).toArray
theorem treeL_len {seed r : List UInt8} (hs : seed.length = 32) (hr : r.length = 32) (h : Int) (v : Value) : (treeL seed r h v).length = 66 := by unfold treeL; simp [hs, keyL_len hr]
theorem built_tree {seed r : List UInt8} (hs : seed.length = 32) (hr : r.length = 32) (h : Int) (A : Option Addr) (n c : Nat) :
    Tryz.prog.built 100 [(0, .agg (seed.map bv).toArray), (1, .agg (keyV r h)), (2, .slice A n c)] = some (treeV seed r h (.slice A n c)) := by
  have e : Tryz.prog.built 100 [(0, .agg (seed.map bv).toArray), (1, .agg (keyV r h)), (2, .slice A n c)] = Instr.fill (#[(0, 32), (32, 33), (65, 1)][·]?) ([] ++ (List.replicate 32 (Value.int .u8 0) ++ ((List.replicate 32 (Value.int .u8 0) ++ [Value.int .i64 0]) ++ [Value.slice none 0 0]))).toArray [(0, .agg (seed.map bv).toArray), (1, .agg (keyV r h)), (2, .slice A n c)] := by kernel_rfl
  rw [e, fill_step (off := 0) (size := 32) (vs := seed.map bv) rfl rfl (by simp) rfl (by simp [hs])]
  rw [List.nil_append, fill_step (off := 32) (size := 33) (vs := keyL r h) rfl (by simp [hs]) (by simp) rfl (keyL_len hr h)]
  have e2 : (seed.map bv ++ (keyL r h ++ [Value.slice none 0 0]) : List Value) = (seed.map bv ++ keyL r h) ++ ([.slice none 0 0] ++ []) := by simp
  rw [e2, fill_step (off := 65) (size := 1) (vs := [.slice A n c]) rfl (by simp [hs, keyL_len hr]) rfl rfl rfl]
  unfold treeV treeL Instr.fill
  simp

/-- A signature's cells. -/
abbrev sigV (n : Int) (A : Option Addr) (x a : Nat) (B : Option Addr) (y b : Nat) (C : Option Addr) (z c : Nat) : Array Value := #[.int .i64 n, .slice A x a, .slice B y b, .slice C z c]
theorem built_sig (n : Int) (A : Option Addr) (x a : Nat) (B : Option Addr) (y b : Nat) (C : Option Addr) (z c : Nat) : Tryz.prog.built 67 [(0, .int .i64 n), (1, .agg #[.slice A x a, .slice B y b]), (2, .slice C z c)] = some (sigV n A x a B y b C z c) := by kernel_rfl
theorem sig_size (n : Int) (A : Option Addr) (x a : Nat) (B : Option Addr) (y b : Nat) (C : Option Addr) (z c : Nat) : (Tryz.prog.info? 67).map (·.size) = some (sigV n A x a B y b C z c).size := by
  show _ = some 4
  kernel_rfl
theorem sig_list (n : Int) (A : Option Addr) (x a : Nat) (B : Option Addr) (y b : Nat) (C : Option Addr) (z c : Nat) : (Tryz.prog.info? 67).map (·.size) = some (sigV n A x a B y b C z c).toList.length := by
  show _ = some 4
  kernel_rfl
theorem sig_one (n : Int) (A : Option Addr) (x a : Nat) (B : Option Addr) (y b : Nat) (C : Option Addr) (z c : Nat) : ∀ v ∈ (sigV n A x a B y b C z c).toList, v.oneCell' = true := by
  intro v hv
  simp at hv
  rcases hv with rfl | rfl | rfl | rfl <;> rfl

/-- A struct built of parts, for the walk. -/
theorem wpList_build_list {P : Program} {ops : Array Oper} {rest : List Oper} {o : Oper} {a : Act} {w : World} {Q : Exit → Act → World → Prop} (hg : o.guard = none) (t : TypeId) (parts : List (Nat × Operand)) (ho : o.op = .build t parts.toArray)
    (vals : List (Nat × Value)) (hv : parts.map (fun x => (x.1, a.eval x.2)) = vals) (cells : Array Value) (hf : P.built t vals = some cells)
    (h : wpList P ops Q rest (a.put o.dst (.agg cells)) w) : wpList P ops Q (o :: rest) a w := by
  subst hv
  exact wpList_buildTo hg t parts.toArray ho o.dst rfl cells (by rw [← hf]; congr 1; simp) h

/-! ### Built in a region that draws -/
noncomputable def bdSig (parts : Array (Nat × Value)) : Sem Value := Instr.build 67 parts
theorem bdSig_def (parts : Array (Nat × Value)) : Instr.build 67 parts = bdSig parts := rfl
theorem bdSig_run (n : Int) (A : Option Addr) (x a : Nat) (B : Option Addr) (y b : Nat) (C : Option Addr) (z c : Nat) (w : World) : (bdSig #[(0, .int .i64 n), (1, .agg #[.slice A x a, .slice B y b]), (2, .slice C z c)]).run Tryz.prog w = .ok (.agg (sigV n A x a B y b C z c)) w :=
  run_build w _ _ _ (built_sig n A x a B y b C z c)

/-! ### Keys compared -/
theorem eqItems_bytes_at (d : Nat) (w : World) (xs ys : List UInt8) : ∀ is : List Nat, (∀ i ∈ is, i < xs.length ∧ i < ys.length) →
    (Op.eqItems (d + 1) 5 1 (xs.map bv).toArray (ys.map bv).toArray is).run Tryz.prog w = .ok (is.all fun i => xs[i]? == ys[i]?) w
  | [], _ => by simp [Op.eqItems]
  | i :: is, h => by
    obtain ⟨h1, h2⟩ := h i (List.mem_cons_self ..)
    have hp : Tryz.prog.plainKey 5 = true := by kernel_rfl
    have p1 := run_part_plain (P := Tryz.prog) w hp (off := i * 1) (by rw [Nat.mul_one]; exact bv_get h1)
    have p2 := run_part_plain (P := Tryz.prog) w hp (off := i * 1) (by rw [Nat.mul_one]; exact bv_get h2)
    have p3 : (Op.equalIn (d + 1) 5 (bv xs[i]) (bv ys[i])).run Tryz.prog w = .ok (((xs[i].toNat : Int)) == ((ys[i].toNat : Int))) w := run_equalIn_int w d 5 .u8 .u8 _ _ Tryz.underlying5
    have ih := eqItems_bytes_at d w xs ys is (fun j hj => h j (List.mem_cons_of_mem _ hj))
    rw [bv_beq] at p3
    simp only [Op.eqItems, Sem.run_bind, p1, p2, p3, Result.andThen_ok, List.all_cons, List.getElem?_eq_getElem h1, List.getElem?_eq_getElem h2]
    by_cases he : xs[i] = ys[i]
    · rw [he]
      simp only [beq_self_eq_true, Bool.not_true, Bool.false_eq_true, if_false, Bool.true_and]
      exact ih
    · have e1 : (xs[i] == ys[i]) = false := by simpa using he
      have e2 : (some xs[i] == some ys[i]) = false := by simpa using he
      rw [e1, e2]
      simp
theorem dig_eq_at (d : Nat) (xs ys : List UInt8) (h1 : xs.length = 32) (h2 : ys.length = 32) (w : World) :
    (Op.equalIn (d + 2) 26 (.agg (xs.map bv).toArray) (.agg (ys.map bv).toArray)).run Tryz.prog w = .ok (decide (xs = ys)) w := by
  obtain ⟨i, hi⟩ := dig_info
  have hc : Tryz.prog.cellsOf 5 = 1 := Tryz.cells_byte
  have h := run_equalIn_array (P := Tryz.prog) w (d + 1) (xs.map bv).toArray (ys.map bv).toArray Tryz.underlying26 hi
  rw [hc, eqItems_bytes_at d w xs ys _ (fun j hj => by rw [List.mem_range] at hj; omega)] at h
  have e : ((List.range 32).all fun i => xs[i]? == ys[i]?) = decide (xs = ys) := by
    rw [Bool.eq_iff_iff, List.all_eq_true, decide_eq_true_iff]
    constructor
    · intro h
      apply List.ext_getElem?
      intro j
      rcases Nat.lt_or_ge j 32 with hj | hj
      · simpa using h j (List.mem_range.2 hj)
      · rw [List.getElem?_eq_none (by omega), List.getElem?_eq_none (by omega)]
    · rintro rfl j _
      simp
  rw [e] at h
  exact h
/-- Keys compared, kept whole while a region is walked. -/
noncomputable def eqKey (a b : Value) : Sem Bool := Op.equalIn 10000 58 a b
theorem eqKey_def (a b : Value) : Op.equalIn 10000 58 a b = eqKey a b := rfl
theorem eq_key_at (d : Nat) (r s : List UInt8) (h k : Int) (hr : r.length = 32) (hs : s.length = 32) (w : World) : (Op.equalIn (d + 3) 58 (.agg (keyV r h)) (.agg (keyV s k))).run Tryz.prog w = .ok (decide (r = s) && decide (h = k)) w := by
  have hu : Tryz.prog.underlying 58 = some (.struct (Tryz.prog.fieldsOf 58)) := by kernel_rfl
  have hst : Tryz.prog.stoodInHeld 58 = false := by kernel_rfl
  have hfs : (Tryz.prog.fieldsOf 58).toList.map (fun f => (decide (f.name ≠ "_"), f.type, f.offset)) = [(true, 26, 0), (true, 3, 32)] := by kernel_rfl
  rw [run_equalIn_struct w (d + 2) 58 _ _ hu hst]
  generalize (Tryz.prog.fieldsOf 58).toList = fs at hfs
  obtain ⟨f0, fs, rfl⟩ : ∃ f0 r, fs = f0 :: r := by cases fs <;> simp at hfs ⊢
  obtain ⟨f1, fs, rfl⟩ : ∃ f1 r, fs = f1 :: r := by cases fs <;> simp at hfs ⊢
  obtain rfl : fs = [] := by cases fs <;> simp at hfs ⊢
  simp only [List.map_cons, List.map_nil, List.cons.injEq, Prod.mk.injEq, and_true] at hfs
  obtain ⟨⟨n0, t0, o0⟩, n1, t1, o1⟩ := hfs
  have x0 : ∀ (s : List UInt8) (k : Int), s.length = 32 → (part 26 (keyV s k) 0).run Tryz.prog w = .ok (.agg (s.map bv).toArray) w := fun s k hs => by
    have hsz : (sizeOf 26).run Tryz.prog w = .ok 32 w := by kernel_rfl
    have e : (keyV s k).extract 0 (0 + 32) = (s.map bv).toArray := by
      unfold keyV keyL
      apply Array.ext'
      rw [List.extract_toArray, List.extract_eq_take_drop]
      simp [hs]
    unfold part isAgg
    simp [run_underlying Tryz.underlying26, e]
    
  have x1 : ∀ (s : List UInt8) (k : Int), s.length = 32 → (part 3 (keyV s k) 32).run Tryz.prog w = .ok (.int .i64 k) w := fun s k hs => by
    have e : (keyV s k)[32]? = some (.int .i64 k) := by
      unfold keyV keyL
      rw [List.getElem?_toArray, List.getElem?_append_right (by simp [hs])]
      simp [hs]
    exact run_part_plain (P := Tryz.prog) w (by kernel_rfl) e
  have p2 : (Op.equalIn (d + 2) 3 (.int .i64 h) (.int .i64 k)).run Tryz.prog w = .ok (h == k) w := run_equalIn_int w (d + 1) 3 .i64 .i64 _ _ Tryz.underlying3
  have p1 := dig_eq_at d r s hr hs w
  have y1 := x1 r h hr
  have y2 := x1 s k hs
  have z1 := x0 r h hr
  have z2 := x0 s k hs
  clear x0 x1 hu hst
  unfold Op.eqFields
  rw [if_pos (of_decide_eq_true n0), t0, o0, Sem.run_bind, z1, Result.andThen_ok, Sem.run_bind, z2, Result.andThen_ok, Sem.run_bind, p1, Result.andThen_ok]
  by_cases e1 : r = s
  · rw [decide_eq_true e1, if_neg (by simp), Bool.true_and]
    unfold Op.eqFields
    rw [if_pos (of_decide_eq_true n1), t1, o1, Sem.run_bind, y1, Result.andThen_ok, Sem.run_bind, y2, Result.andThen_ok, Sem.run_bind, p2, Result.andThen_ok]
    by_cases e2 : h = k
    · rw [decide_eq_true e2, if_neg (by simpa using e2)]
      rfl
    · rw [decide_eq_false e2, if_pos (by simpa using e2)]
      rfl
  · rw [decide_eq_false e1, if_pos (by simp), Bool.false_and]
    rfl
theorem eq_key (r s : List UInt8) (h k : Int) (hr : r.length = 32) (hs : s.length = 32) (w : World) : (eqKey (.agg (keyV r h)) (.agg (keyV s k))).run Tryz.prog w = .ok (decide (r = s) && decide (h = k)) w := eq_key_at 9997 r s h k hr hs w
end Go.Proofs.YtejnfgcnifcpaaaGreatDoor

namespace Go.Proofs.YtejnfgcnifcpaaaGreatDoor
open Go.RowKit

/-- A change's cells. -/
def chgL (k i n : Int) (r : List UInt8) (h : Int) : List Value := .int .i64 k :: .int .i64 i :: .int .i64 n :: keyL r h
abbrev chgV (k i n : Int) (r : List UInt8) (h : Int) : Value := .agg (chgL k i n r h).toArray
set_option maxRecDepth 100000 in
theorem chg_len {r : List UInt8} (hr : r.length = 32) (k i n h : Int) : (chgL k i n r h).length = 36 := by
  unfold chgL
  simp [keyL_len hr]
set_option maxRecDepth 100000 in
theorem chg_list {r : List UInt8} (hr : r.length = 32) (k i n h : Int) : (Tryz.prog.info? 109).map (·.size) = some (chgL k i n r h).length := by
  rw [chg_len hr]
  kernel_rfl
noncomputable def ldChg (v : Value) : Sem Value := Instr.loadAt 109 v
set_option maxRecDepth 100000 in
theorem ldChg_def (v : Value) : Instr.loadAt 109 v = ldChg v := rfl
noncomputable def ldKy (v : Value) : Sem Value := Instr.loadAt 58 v
set_option maxRecDepth 100000 in
theorem ldKy_def (v : Value) : Instr.loadAt 58 v = ldKy v := rfl
set_option maxRecDepth 100000 in
theorem ld_chg {w : World} {g : Nat} {t : TypeId} {k i n h : Int} {r : List UInt8} (hr : r.length = 32) (hb : Box w g t (chgL k i n r h).toArray) : (ldChg (.pointer (some ⟨g, 0, none⟩))).run Tryz.prog w = .ok (chgV k i n r h) w :=
  run_loadAt_mid (P := Tryz.prog) w g 0 109 (chgL k i n r h) _ hb.range Tryz.underlying109 rfl (chg_list hr k i n h)
set_option maxRecDepth 100000 in
theorem ld_ky {w : World} {g o : Nat} {r : List UInt8} {h : Int} (hr : r.length = 32) (hb : w.rangeAt g o (keyL r h)) : (ldKy (.pointer (some ⟨g, o, none⟩))).run Tryz.prog w = .ok (.agg (keyV r h)) w :=
  run_loadAt_mid (P := Tryz.prog) w g o 58 (keyL r h) _ hb Tryz.underlying58 rfl (key_list hr h)
set_option maxRecDepth 100000 in
theorem chg_key {w : World} {g : Nat} {t : TypeId} {k i n h : Int} {r : List UInt8} (hb : Box w g t (chgL k i n r h).toArray) : w.rangeAt g 3 (keyL r h) := by
  intro j v hj
  have := hb.range (j + 3) v (by unfold chgL; simpa using hj)
  rw [Nat.zero_add, Nat.add_comm j 3] at this
  exact this

end Go.Proofs.YtejnfgcnifcpaaaGreatDoor

namespace Go.Proofs.YtejnfgcnifcpaaaGreatDoor
open Go.RowKit

attribute [local go_sem ↓] ldDigest_def stDigest_def

abbrev zkey : Array Value := (List.replicate 32 (Value.int .u8 0) ++ [Value.int .i64 0]).toArray
theorem keyT_len (seed : List UInt8) (h : Nat) : (keyT seed h).length = 32 := (leaves_all seed h).root

/-- A tree in memory: the struct's block a, the leaves' block g. -/
structure TreeW (w : World) (a g : Nat) (seed : List UInt8) (h : Nat) : Prop where
  tree : Box w a 100 (treeV seed (keyT seed h) h (.slice (some ⟨g, 0, none⟩) (2 ^ h) (2 ^ h)))
  leaves : Box w g 26 ((leavesT seed h).flatten.map bv).toArray
theorem TreeW.below {w w' : World} {B a g : Nat} {seed : List UInt8} {h : Nat} (t : TreeW w a g seed h) (hb : Below B w w') (ha : a < B) (hg : g < B) : TreeW w' a g seed h := ⟨t.tree.below hb ha, t.leaves.below hb hg⟩
theorem TreeW.call {w w' : World} {a g : Nat} {seed : List UInt8} {h : Nat} (t : TreeW w a g seed h) (hb : Below w.heap.size w w') : TreeW w' a g seed h := t.below hb t.tree.lt t.leaves.lt

/-- What New answers. -/
def NewIs (w : World) (seed : List UInt8) (h : Nat) (e : Ending) (w' : World) : Prop :=
  ∃ a g, e = .returned (.tuple #[.pointer (some ⟨a, 0, none⟩), .int .i64 0]) ∧ TreeW w' a g seed h ∧ Below w.heap.size w w' ∧ w.heap.size ≤ a ∧ w.heap.size ≤ g

/-- What the walk of New carries of memory. -/
structure NwW (w1 : World) (g : Nat) (X : List (List UInt8)) (k : Nat) (w : World) : Prop where
  fill : Box w g 26 (fillD X k)
  far : Below w1.heap.size w1 w
  hg : w1.heap.size ≤ g
theorem NwW.call {w1 w w' : World} {g k : Nat} {X : List (List UInt8)} (s : NwW w1 g X k w) (hb : Below w.heap.size w w') : NwW w1 g X k w' := ⟨s.fill.below hb s.fill.lt, s.far.trans (hb.mono s.far.size), s.hg⟩
theorem NwW.put {w1 w : World} {g k : Nat} {X : List (List UInt8)} (s : NwW w1 g X k w) (hX : AllD X) (hk : k < X.length) : NwW w1 g X (k + 1) (w.setCells g (k * 32) ((X.getD k []).map bv)) := ⟨s.fill.fill_put hX hk, below_cells s.far s.hg s.far.size _ _, s.hg⟩

set_option maxRecDepth 100000 in
theorem new_not (seed : List UInt8) (h : Int) (hh : (decide (0 ≤ h) && decide (h ≤ 6)) = false) (w : World) :
    Calls Tryz.prog 20 #[.agg (seed.map bv).toArray, .int .i64 h] w fun e w' => e = .returned (.tuple #[.pointer none, .int .i64 1]) ∧ Below w.heap.size w w' := by
  have HF : Hid (Below w.heap.size w (w.alloc (.cells (seed.map bv).toArray 26))) := (Below.refl _ _).alloc (Nat.le_refl _) _
  go_enter Tryz.func20, Tryz.ntmps20
  go_upto_region 1 with fail
  change Code.wp _ _ _ _ (w.alloc (.cells (seed.map bv).toArray 26))
  generalize w.alloc (.cells (seed.map bv).toArray 26) = w1 at *
  have hg := grows_any h w1
  rw [hh] at hg
  have HG := Lib.hid hg
  clear hg hh
  go_wp2_with (go_at_call 49; (with_reducible refine (HG.out).mono ?_); rintro e w2 ⟨rfl, rfl⟩)
  go_ret2
  exact ⟨rfl, HF.out⟩

set_option maxRecDepth 100000 in
set_option maxHeartbeats 2000000 in
theorem new_any (seed : List UInt8) (hs : seed.length = 32) (h : Nat) (hh : h ≤ 6) (w : World) (hR : Roots w) :
    Calls Tryz.prog 20 #[.agg (seed.map bv).toArray, .int .i64 (h : Int)] w (NewIs w seed h) := by
  have HB : Hid (Box (w.alloc (.cells (seed.map bv).toArray 26)) w.heap.size 26 (seed.map bv).toArray) := Box.made _ _ _
  have HF : Hid (Below w.heap.size w (w.alloc (.cells (seed.map bv).toArray 26))) := (Below.refl _ _).alloc (Nat.le_refl _) _
  have HZ : Hid ((w.alloc (.cells (seed.map bv).toArray 26)).heap.size = w.heap.size + 1) := Lib.hid (by simp)
  have HR := Lib.hid (hR.of_below HF.out)
  have HXL : Hid ((leavesT seed h).length = 2 ^ h) := Lib.hid (leaves_len seed h)
  have HXA := Lib.hid (leaves_all seed h)
  have HXG : Hid (∀ k, k < 2 ^ h → (leavesT seed h).getD k [] = leafT (pubT seed (k : Int))) := Lib.hid (fun k hk => leaves_at seed h hk)
  have hpow : 2 ^ h ≤ 64 := Nat.le_trans (Nat.pow_le_pow_right (by decide) hh) (by decide)
  have HCT : Hid (∀ w, Calls Tryz.prog 50 #[.int .i64 (h : Int)] w fun e w' => e = .returned (.int .i64 (((leavesT seed h).length : Nat) : Int)) ∧ w' = w) := fun w => by rw [HXL.out]; exact count_any h hh w
  have HGR : Hid (∀ w, Calls Tryz.prog 49 #[.int .i64 (h : Int)] w fun e w' => e = .returned (.bool true) ∧ w' = w) := fun w => by
    have h1 := grows_any h w
    rw [show (decide (0 ≤ (h : Int)) && decide ((h : Int) ≤ 6)) = true by simp; omega] at h1
    exact h1
  have HK : Hid (keyT seed h = rootT (leavesT seed h)) := Lib.hid rfl
  have HKL := Lib.hid (keyT_len seed h)
  have HSL := Lib.hid hs
  rw [← HXL.out] at hpow
  have HT : Hid (∀ (w' : World) (a g : Nat), Box w' a 100 (treeV seed (keyT seed h) h (.slice (some ⟨g, 0, none⟩) (leavesT seed h).length (leavesT seed h).length)) → Box w' g 26 ((leavesT seed h).flatten.map bv).toArray → Below w.heap.size w w' → w.heap.size ≤ a → w.heap.size ≤ g → NewIs w seed h (.returned (.tuple #[.pointer (some ⟨a, 0, none⟩), .int .i64 0])) w') := fun w' a g b1 b2 b3 b4 b5 => by
    rw [HXL.out] at b1
    exact ⟨a, g, rfl, ⟨b1, b2⟩, b3, b4, b5⟩
  have HXP : Hid (∀ k, k < (leavesT seed h).length → (leavesT seed h).getD k [] = leafT (pubT seed (k : Int))) := Lib.hid (fun k hk => HXG.out k (by rw [← HXL.out]; exact hk))
  clear hs hR HXL HXG
  generalize leavesT seed h = X at *
  generalize keyT seed h = r at *
  have hmk := make_digs X.length (by omega)
  go_enter Tryz.func20, Tryz.ntmps20
  go_upto_region 1 with fail
  change Code.wp _ _ _ _ (w.alloc (.cells (seed.map bv).toArray 26))
  generalize w.alloc (.cells (seed.map bv).toArray 26) = w1 at *
  go_upto_region 5 with (first
    | (go_at_call 49; (with_reducible refine (HGR.out _).mono ?_); rintro e w2 ⟨rfl, rfl⟩)
    | (go_at_call 50; (with_reducible refine (HCT.out _).mono ?_); rintro e w3 ⟨rfl, rfl⟩))
  have HW0 : Hid (NwW w3 w3.heap.size X 0 (w3.alloc (.cells (zerosD (X.length * 32)).toArray 26))) := ⟨by rw [fillD_zero]; exact Box.made _ _ _, (Below.refl _ _).alloc (Nat.le_refl _) _, Nat.le_refl _⟩
  generalize w3.alloc (.cells (zerosD (X.length * 32)).toArray 26) = w4 at *
  clear hmk
  go_loopw [7, 17] (fun _ i wr => ∃ k : Nat, k ≤ X.length ∧ i = .int .i64 (k : Int) ∧ Hid (NwW w3 w3.heap.size X k wr)) (fun _ i _ => X.length - (intOf i).toNat)
  case atStart => exact ⟨0, Nat.zero_le _, rfl, HW0⟩
  case round =>
    clear HW0
    obtain ⟨k, hk, rfl, HW⟩ := hrel
    by_cases hlt : k < X.length
    · have HPB : Hid (∀ w', Below w3.heap.size w3 w' → Calls Tryz.prog 52 #[.agg (seed.map bv).toArray, .int .i64 (k : Int)] w' fun e w'' => e = .returned (.agg ((pubT seed (k : Int)).map bv).toArray) ∧ Below w'.heap.size w' w'') := fun w' hb => public_any seed HSL.out k w' (HR.out.of_below hb)
      have HLF : Hid (∀ w', Below w3.heap.size w3 w' → Calls Tryz.prog 51 #[.agg ((pubT seed (k : Int)).map bv).toArray] w' fun e w'' => e = .returned (.agg ((X.getD k []).map bv).toArray) ∧ Below w'.heap.size w' w'') := fun w' hb => by
        rw [HXP.out k hlt]
        exact kleaf_any _ rfl w' (HR.out.of_below hb)
      have HXD := Lib.hid (HXA.out.get hlt [])
      have lS := (HB.out.below HW.out.far HB.out.lt).load_digest HSL.out
      have HPUT : Hid (∀ w', NwW w3 w3.heap.size X k w' → NwW w3 w3.heap.size X (k + 1) (w'.setCells w3.heap.size (k * 32) ((X.getD k []).map bv))) := fun w' h => h.put HXA.out hlt
      have HFS := Lib.hid (fillD_size HXA.out hk)
      have i3 : (k : Int) < (X.length : Int) := by omega
      generalize X.getD k [] = d at *
      generalize pubT seed (k : Int) = p at *
      go_wp2_with (first
        | (go_at_call 52; (with_reducible refine (HPB.out _ HW.out.far).mono ?_); rintro e w5 ⟨rfl, hb⟩; have HW5 := Lib.hid (HW.out.call hb); clear hb)
        | (go_at_call 51; (with_reducible refine (HLF.out _ HW5.out.far).mono ?_); rintro e w6 ⟨rfl, hb⟩; have HW6 := Lib.hid (HW5.out.call hb); clear hb; have hst := HW6.out.fill.store_mid (o := k * 32) (by rw [HFS.out]; omega) d HXD.out))
      have HW7 := Lib.hid (HPUT.out _ HW6.out)
      clear hst lS
      generalize w6.setCells w3.heap.size (k * 32) (d.map bv) = w7 at *
      go_roundw
      case rel => exact ⟨k + 1, hlt, by go_num, HW7⟩
      case measure => simp [intOf]; omega
    · obtain rfl : k = X.length := by omega
      have hbx := HW.out.fill
      rw [fillD_all] at hbx
      have HQ : Hid (Digs wr wr.heap.size (some ⟨w3.heap.size, 0, none⟩) X) := ⟨HXA.out, Sees.of_box hbx hbx.lt⟩
      have HBX := Lib.hid hbx
      have HRT := Lib.hid (root_any X (some ⟨w3.heap.size, 0, none⟩) X.length wr HQ.out (by omega) (HR.out.of_below HW.out.far))
      rw [← HK.out] at HRT
      have HKB := Lib.hid (built_key HKL.out (h : Int))
      have HTB := Lib.hid (built_tree HSL.out HKL.out (h : Int) (some ⟨w3.heap.size, 0, none⟩) X.length X.length)
      have HKS := Lib.hid (key_size HKL.out (h : Int))
      have HKT := Lib.hid (key_list HKL.out (h : Int))
      have HZK : Hid ((keyV r (h : Int)).size = zkey.size) := by
        show _ = _
        unfold keyV
        rw [List.size_toArray, keyL_len HKL.out]
        rfl
      have HON := Lib.hid (keyL_one r (h : Int))
      have HLS := Lib.hid (dig_list seed HSL.out)
      have hfr : Hid (Below w3.heap.size w3 wr) := HW.out.far
      have hgw := HW.out.hg
      clear hbx HQ HW HCT HGR HXP hlt hk
      go_wp2_with (first
        | (go_at_call 53; (with_reducible refine (HRT.out).mono ?_); rintro e w5 ⟨rfl, hb⟩; have HB5 := Lib.hid hb; clear hb)
        | ((with_reducible show wpList _ _ _ ((⟨some 31, _, _, _, _, _⟩ : Oper) :: _) _ _); refine wpList_build_list rfl 58 [(0, .tmp 29), (1, .tmp 30)] rfl [(0, .agg (r.map bv).toArray), (1, .int .i64 (h : Int))] rfl (keyV r (h : Int)) HKB.out ?_)
        | (((with_reducible show wpList _ _ _ ((⟨none, Op.store _ (.tmp 8) (.tmp 31), _, _, _, _⟩ : Oper) :: _) _ _)); refine wpList_store_box rfl 58 (.tmp 8) (.tmp 31) rfl w5.heap.size (keyV r (h : Int)) rfl rfl 58 zkey (Box.made w5 _ _) HZK.out HKS.out HON.out ?_; intro w6 hb6 hg6; have HB6 := Lib.hid (HB5.out.trans (((Below.refl w5.heap.size w5).alloc (Nat.le_refl _) (.cells zkey 58)).trans (below_only hg6 (Nat.le_refl _) (by simp)) |>.mono HB5.out.size)); have HX6 := Lib.hid hb6; clear hb6 hg6)
        | ((with_reducible show wpList _ _ _ ((⟨some 32, _, _, _, _, _⟩ : Oper) :: _) _ _); refine wpList_load_mid rfl 26 (.tmp 2) rfl w.heap.size 0 rfl (seed.map bv) _ ((HB.out.below hfr.out HB.out.lt).below HB6.out (HB.out.below hfr.out HB.out.lt).lt).range Tryz.underlying26 rfl HLS.out ?_)
        | ((with_reducible show wpList _ _ _ ((⟨some 33, _, _, _, _, _⟩ : Oper) :: _) _ _); refine wpList_load_mid rfl 58 (.tmp 8) rfl w5.heap.size 0 rfl (keyL r (h : Int)) _ HX6.out.range Tryz.underlying58 rfl HKT.out ?_)
        | ((with_reducible show wpList _ _ _ ((⟨some 35, _, _, _, _, _⟩ : Oper) :: _) _ _); refine wpList_build_list rfl 100 [(0, .tmp 32), (1, .tmp 33), (2, .tmp 34)] rfl [(0, .agg (seed.map bv).toArray), (1, .agg (keyV r (h : Int))), (2, .slice (some ⟨w3.heap.size, 0, none⟩) X.length X.length)] rfl (treeV seed r (h : Int) (.slice (some ⟨w3.heap.size, 0, none⟩) X.length X.length)) HTB.out ?_))
      go_ret2
      have hz := HZ.out
      have hB6 := (HF.out.trans (hfr.out.mono HF.out.size)).trans (HB6.out.mono (HF.out.trans (hfr.out.mono HF.out.size)).size)
      have hb9 := ((HBX.out.below HB6.out HBX.out.lt).alloc (.cells (treeV seed r (h : Int) (.slice (some ⟨w3.heap.size, 0, none⟩) X.length X.length)) 100))
      exact HT.out _ _ _ (Box.made _ _ _) hb9 (hB6.alloc hB6.size _) hB6.size (by omega)
end Go.Proofs.YtejnfgcnifcpaaaGreatDoor
