/-
  Key trees on plain lists: the leaves of a seed and a height, the key, a signature, when one is right; each signature of a tree is right under its key.
  Package keys: grows, count, leaf.
  Keys, trees and signatures as values: how they are built, keys compared.
  Changes in memory: their cells, what is loaded.
  A tree of keys is made: keys.New.
-/
import Derived.Test.YtbclepdcngaonaaGreatDoorTV
import Derived.Test.YtbclepdcngaonaaGreatDoorOB
import Derived.Test.YtbclepdcngaonaaGreatDoorTU
import Derived.Test.YtbclepdcngaonaaGreatDoorTG
import Derived.Great.BuildSlice
import Derived.Lib.Hide
import Derived.Test.YtbclepdcngaonaaGreatDoorOD
namespace Go.Proofs.YtbclepdcngaonaaGreatDoor
open Go.RowKit

/-- The leaf of a public half. -/
def leafT (p : List UInt8) : List UInt8 := shaOf (0 :: p)
end Go.Proofs.YtbclepdcngaonaaGreatDoor

namespace Go.Proofs.YtbclepdcngaonaaGreatDoor
open Go.RowKit

set_option maxRecDepth 100000 in
theorem grows_any (h : Int) (w : World) : Calls Tryz.prog 140 #[.int .i64 h] w fun e w' => e = .returned (.bool (decide (0 ≤ h) && decide (h ≤ 6))) ∧ w' = w := by
  by_cases h0 : 0 ≤ h
  · have h' : decide (0 ≤ h) = true := by simpa using h0
    go_enter Tryz.func140, Tryz.ntmps140
    go_wp2
    go_ret
    exact ⟨by simp [h0], rfl⟩
  · have h' : decide (0 ≤ h) = false := by simpa using h0
    go_enter Tryz.func140, Tryz.ntmps140
    go_wp2
    go_ret
    exact ⟨by simp, rfl⟩

set_option maxRecDepth 100000 in
theorem count_any (h : Nat) (hh : h ≤ 6) (w : World) : Calls Tryz.prog 144 #[.int .i64 (h : Int)] w fun e w' => e = .returned (.int .i64 ((2 ^ h : Nat) : Int)) ∧ w' = w := by
  have h7 : h = 0 ∨ h = 1 ∨ h = 2 ∨ h = 3 ∨ h = 4 ∨ h = 5 ∨ h = 6 := by omega
  rcases h7 with rfl | rfl | rfl | rfl | rfl | rfl | rfl <;>
    (go_enter Tryz.func144, Tryz.ntmps144
     go_wp2
     go_ret
     exact ⟨rfl, rfl⟩)

set_option maxRecDepth 100000 in
set_option maxHeartbeats 1000000 in
theorem kleaf_any (s : List UInt8) (hs : s.length = 32) (w : World) (hR : Roots w) :
    Calls Tryz.prog 143 #[.agg (s.map bv).toArray] w fun e w' => e = .returned (.agg ((leafT s).map bv).toArray) ∧ Below w.heap.size w w' := by
  have hS : Box ((w.alloc (.cells (s.map bv).toArray 29)).alloc (.cells zs32 29)) w.heap.size 29 (s.map bv).toArray := (Box.made w _ _).alloc _
  have HO : Hid (Box ((w.alloc (.cells (s.map bv).toArray 29)).alloc (.cells zs32 29)) (w.heap.size + 1) 29 zs32) := Box.made_at (by simp) _ _
  have HF : Hid (Below w.heap.size w ((w.alloc (.cells (s.map bv).toArray 29)).alloc (.cells zs32 29))) := ((Below.refl _ _).alloc (Nat.le_refl _) _).alloc (by simp) _
  go_enter Tryz.func143, Tryz.ntmps143
  go_upto_region 1 with fail
  change Code.wp _ _ _ _ ((w.alloc (.cells (s.map bv).toArray 29)).alloc (.cells zs32 29))
  generalize (w.alloc (.cells (s.map bv).toArray 29)).alloc (.cells zs32 29) = w1 at *
  have HOF := Lib.hid (leaf_any s (some ⟨w.heap.size, 0, none⟩) 32 w1 (Sees.of_box hS hS.lt) (by omega) (by simp [maxLen]) (by omega) (hR.of_below HF.out))
  rw [hs] at HOF
  change Hid (Calls _ _ _ _ fun e w' => e = .returned (.agg ((leafT s).map bv).toArray) ∧ _) at HOF
  have HDL : Hid ((leafT s).length = 32) := Lib.hid rfl
  generalize hd : leafT s = d at *
  have HD := Lib.hid hd
  clear hd
  have HSM := Lib.hid (dig_same d HDL.out)
  have HSZ := Lib.hid (dig_size d HDL.out)
  clear hS
  go_wp2_with (first
    | (go_at_call 160; refine (HOF.out).mono ?_; rintro e w6 ⟨rfl, hB6⟩; have HB6 := Lib.hid hB6; clear hB6)
    | (((with_reducible show wpList _ _ _ ((⟨none, Op.store _ (.tmp 2) (.tmp 4), _, _, _, _⟩ : Oper) :: _) _ _)); refine wpList_store_box rfl 29 (.tmp 2) (.tmp 4) rfl (w.heap.size + 1) (d.map bv).toArray rfl rfl 29 zs32 (HO.out.below HB6.out HO.out.lt) HSM.out HSZ.out (bv_one _) ?_; intro w7 hb7 hg7))
  exact ret_dig rfl rfl rfl hb7 HDL.out ⟨by rw [HD.out], (HF.out.trans (HB6.out.mono HF.out.size)).trans (below_only hg7 (by omega) (HF.out.trans (HB6.out.mono HF.out.size)).size)⟩
end Go.Proofs.YtbclepdcngaonaaGreatDoor

namespace Go.Proofs.YtbclepdcngaonaaGreatDoor
open Go.RowKit

/-! ### Values built of parts -/
theorem fill_step {place : Nat → Option (Nat × Nat)} {pre mid post : List Value} {i : Nat} {v : Value} {vs : List Value} {rest : List (Nat × Value)} {off size : Nat} (hp : place i = some (off, size)) (ho : pre.length = off) (hs : mid.length = size) (hv : v.cells = vs.toArray) (hl : vs.length = size) :
    Instr.fill place (pre ++ (mid ++ post)).toArray ((i, v) :: rest) = Instr.fill place (pre ++ (vs ++ post)).toArray rest := by
  conv => lhs; unfold Instr.fill
  rw [hp]
  have hsz : v.cells.size = size := by rw [hv, List.size_toArray, hl]
  have hf : v.cells.zipIdx.foldl (fun (cs : Array Value) (x : Value × Nat) => cs.setIfInBounds (off + x.2) x.1) (pre ++ (mid ++ post)).toArray = (pre ++ (vs ++ post)).toArray := by
    rw [hv, ← Array.foldl_toList, Array.toList_zipIdx, List.toList_toArray, fold_mid vs 0 off pre mid post (by rw [ho, Nat.add_zero]) (by rw [hl, hs])]
  simp only [hsz]
  rw [if_neg (by simp [ho, hs])]
  exact congrArg (fun c => Instr.fill place c rest) hf

/-- A key's cells: the root, and how high. -/
def keyL (r : List UInt8) (h : Int) : List Value := r.map bv ++ [.int .i64 h]
def keyV (r : List UInt8) (h : Int) : Array Value := (keyL r h).toArray
theorem keyL_len {r : List UInt8} (hr : r.length = 32) (h : Int) : (keyL r h).length = 33 := by unfold keyL; simp [hr]
theorem keyL_one (r : List UInt8) (h : Int) : ∀ v ∈ keyL r h, v.oneCell' = true := by
  intro v hv
  rcases List.mem_append.1 hv with hv | hv
  · exact bv_one r v hv
  · obtain rfl := List.mem_singleton.1 hv
    rfl
theorem key_list {r : List UInt8} (hr : r.length = 32) (h : Int) : (Tryz.prog.info? 64).map (·.size) = some (keyL r h).length := by
  rw [keyL_len hr]
  kernel_rfl

/-- A signature's cells. -/
abbrev sigV (n : Int) (A : Option Addr) (x a : Nat) (B : Option Addr) (y b : Nat) (C : Option Addr) (z c : Nat) : Array Value := #[.int .i64 n, .slice A x a, .slice B y b, .slice C z c]
theorem sig_size (n : Int) (A : Option Addr) (x a : Nat) (B : Option Addr) (y b : Nat) (C : Option Addr) (z c : Nat) : (Tryz.prog.info? 72).map (·.size) = some (sigV n A x a B y b C z c).size := by
  show _ = some 4
  kernel_rfl
theorem sig_list (n : Int) (A : Option Addr) (x a : Nat) (B : Option Addr) (y b : Nat) (C : Option Addr) (z c : Nat) : (Tryz.prog.info? 72).map (·.size) = some (sigV n A x a B y b C z c).toList.length := by
  show _ = some 4
  kernel_rfl
theorem sig_one (n : Int) (A : Option Addr) (x a : Nat) (B : Option Addr) (y b : Nat) (C : Option Addr) (z c : Nat) : ∀ v ∈ (sigV n A x a B y b C z c).toList, v.oneCell' = true := by
  intro v hv
  simp at hv
  rcases hv with rfl | rfl | rfl | rfl <;> rfl

/-! ### Built in a region that draws -/
noncomputable def bdSig (parts : Array (Nat × Value)) : Sem Value := Instr.build 72 parts
theorem bdSig_def (parts : Array (Nat × Value)) : Instr.build 72 parts = bdSig parts := rfl
/-! ### Keys compared -/
theorem eqItems_bytes_at (d : Nat) (w : World) (xs ys : List UInt8) : ∀ is : List Nat, (∀ i ∈ is, i < xs.length ∧ i < ys.length) →
    (Op.eqItems (d + 1) 5 1 (xs.map bv).toArray (ys.map bv).toArray is).run Tryz.prog w = .ok (is.all fun i => xs[i]? == ys[i]?) w
  | [], _ => by simp [Op.eqItems]
  | i :: is, h => by
    obtain ⟨h1, h2⟩ := h i (List.mem_cons_self ..)
    have hp : Tryz.prog.plainKey 5 = true := by kernel_rfl
    have p1 := run_part_plain (P := Tryz.prog) w hp (off := i * 1) (by rw [Nat.mul_one]; exact bv_get h1)
    have p2 := run_part_plain (P := Tryz.prog) w hp (off := i * 1) (by rw [Nat.mul_one]; exact bv_get h2)
    have p3 : (Op.equalIn (d + 1) 5 (bv xs[i]) (bv ys[i])).run Tryz.prog w = .ok (((xs[i].toNat : Int)) == ((ys[i].toNat : Int))) w := run_equalIn_int w d 5 .u8 .u8 _ _ Tryz.underlying5
    have ih := eqItems_bytes_at d w xs ys is (fun j hj => h j (List.mem_cons_of_mem _ hj))
    rw [bv_beq] at p3
    simp only [Op.eqItems, Sem.run_bind, p1, p2, p3, Result.andThen_ok, List.all_cons, List.getElem?_eq_getElem h1, List.getElem?_eq_getElem h2]
    by_cases he : xs[i] = ys[i]
    · rw [he]
      simp only [beq_self_eq_true, Bool.not_true, Bool.false_eq_true, if_false, Bool.true_and]
      exact ih
    · have e1 : (xs[i] == ys[i]) = false := by simpa using he
      have e2 : (some xs[i] == some ys[i]) = false := by simpa using he
      rw [e1, e2]
      simp
theorem dig_eq_at (d : Nat) (xs ys : List UInt8) (h1 : xs.length = 32) (h2 : ys.length = 32) (w : World) :
    (Op.equalIn (d + 2) 29 (.agg (xs.map bv).toArray) (.agg (ys.map bv).toArray)).run Tryz.prog w = .ok (decide (xs = ys)) w := by
  obtain ⟨i, hi⟩ := dig_info
  have hc : Tryz.prog.cellsOf 5 = 1 := Tryz.cells_byte
  have h := run_equalIn_array (P := Tryz.prog) w (d + 1) (xs.map bv).toArray (ys.map bv).toArray Tryz.underlying29 hi
  rw [hc, eqItems_bytes_at d w xs ys _ (fun j hj => by rw [List.mem_range] at hj; omega)] at h
  have e : ((List.range 32).all fun i => xs[i]? == ys[i]?) = decide (xs = ys) := by
    rw [Bool.eq_iff_iff, List.all_eq_true, decide_eq_true_iff]
    constructor
    · intro h
      apply List.ext_getElem?
      intro j
      rcases Nat.lt_or_ge j 32 with hj | hj
      · simpa using h j (List.mem_range.2 hj)
      · rw [List.getElem?_eq_none (by omega), List.getElem?_eq_none (by omega)]
    · rintro rfl j _
      simp
  rw [e] at h
  exact h
theorem eq_key_at (d : Nat) (r s : List UInt8) (h k : Int) (hr : r.length = 32) (hs : s.length = 32) (w : World) : (Op.equalIn (d + 3) 64 (.agg (keyV r h)) (.agg (keyV s k))).run Tryz.prog w = .ok (decide (r = s) && decide (h = k)) w := by
  have hu : Tryz.prog.underlying 64 = some (.struct (Tryz.prog.fieldsOf 64)) := by kernel_rfl
  have hst : Tryz.prog.stoodInHeld 64 = false := by kernel_rfl
  have hfs : (Tryz.prog.fieldsOf 64).toList.map (fun f => (decide (f.name ≠ "_"), f.type, f.offset)) = [(true, 29, 0), (true, 3, 32)] := by kernel_rfl
  rw [run_equalIn_struct w (d + 2) 64 _ _ hu hst]
  generalize (Tryz.prog.fieldsOf 64).toList = fs at hfs
  obtain ⟨f0, fs, rfl⟩ : ∃ f0 r, fs = f0 :: r := by cases fs <;> simp at hfs ⊢
  obtain ⟨f1, fs, rfl⟩ : ∃ f1 r, fs = f1 :: r := by cases fs <;> simp at hfs ⊢
  obtain rfl : fs = [] := by cases fs <;> simp at hfs ⊢
  simp only [List.map_cons, List.map_nil, List.cons.injEq, Prod.mk.injEq, and_true] at hfs
  obtain ⟨⟨n0, t0, o0⟩, n1, t1, o1⟩ := hfs
  have x0 : ∀ (s : List UInt8) (k : Int), s.length = 32 → (part 29 (keyV s k) 0).run Tryz.prog w = .ok (.agg (s.map bv).toArray) w := fun s k hs => by
    have hsz : (sizeOf 29).run Tryz.prog w = .ok 32 w := by kernel_rfl
    have e : (keyV s k).extract 0 (0 + 32) = (s.map bv).toArray := by
      unfold keyV keyL
      apply Array.ext'
      rw [List.extract_toArray, List.extract_eq_take_drop]
      simp [hs]
    unfold part isAgg
    simp [run_underlying Tryz.underlying29, e]
    
  have x1 : ∀ (s : List UInt8) (k : Int), s.length = 32 → (part 3 (keyV s k) 32).run Tryz.prog w = .ok (.int .i64 k) w := fun s k hs => by
    have e : (keyV s k)[32]? = some (.int .i64 k) := by
      unfold keyV keyL
      rw [List.getElem?_toArray, List.getElem?_append_right (by simp [hs])]
      simp [hs]
    exact run_part_plain (P := Tryz.prog) w (by kernel_rfl) e
  have p2 : (Op.equalIn (d + 2) 3 (.int .i64 h) (.int .i64 k)).run Tryz.prog w = .ok (h == k) w := run_equalIn_int w (d + 1) 3 .i64 .i64 _ _ Tryz.underlying3
  have p1 := dig_eq_at d r s hr hs w
  have y1 := x1 r h hr
  have y2 := x1 s k hs
  have z1 := x0 r h hr
  have z2 := x0 s k hs
  clear x0 x1 hu hst
  unfold Op.eqFields
  rw [if_pos (of_decide_eq_true n0), t0, o0, Sem.run_bind, z1, Result.andThen_ok, Sem.run_bind, z2, Result.andThen_ok, Sem.run_bind, p1, Result.andThen_ok]
  by_cases e1 : r = s
  · rw [decide_eq_true e1, if_neg (by simp), Bool.true_and]
    unfold Op.eqFields
    rw [if_pos (of_decide_eq_true n1), t1, o1, Sem.run_bind, y1, Result.andThen_ok, Sem.run_bind, y2, Result.andThen_ok, Sem.run_bind, p2, Result.andThen_ok]
    by_cases e2 : h = k
    · rw [decide_eq_true e2, if_neg (by simpa using e2)]
      rfl
    · rw [decide_eq_false e2, if_pos (by simpa using e2)]
      rfl
  · rw [decide_eq_false e1, if_pos (by simp), Bool.false_and]
    rfl
end Go.Proofs.YtbclepdcngaonaaGreatDoor

namespace Go.Proofs.YtbclepdcngaonaaGreatDoor
open Go.RowKit

/-- A change's cells. -/
def chgL (k i n : Int) (r : List UInt8) (h : Int) : List Value := .int .i64 k :: .int .i64 i :: .int .i64 n :: keyL r h
abbrev chgV (k i n : Int) (r : List UInt8) (h : Int) : Value := .agg (chgL k i n r h).toArray
set_option maxRecDepth 100000 in
theorem chg_len {r : List UInt8} (hr : r.length = 32) (k i n h : Int) : (chgL k i n r h).length = 36 := by
  unfold chgL
  simp [keyL_len hr]
set_option maxRecDepth 100000 in
theorem chg_list {r : List UInt8} (hr : r.length = 32) (k i n h : Int) : (Tryz.prog.info? 96).map (·.size) = some (chgL k i n r h).length := by
  rw [chg_len hr]
  kernel_rfl
noncomputable def ldChg (v : Value) : Sem Value := Instr.loadAt 96 v
set_option maxRecDepth 100000 in
theorem ldChg_def (v : Value) : Instr.loadAt 96 v = ldChg v := rfl
set_option maxRecDepth 100000 in
theorem ld_chg {w : World} {g : Nat} {t : TypeId} {k i n h : Int} {r : List UInt8} (hr : r.length = 32) (hb : Box w g t (chgL k i n r h).toArray) : (ldChg (.pointer (some ⟨g, 0, none⟩))).run Tryz.prog w = .ok (chgV k i n r h) w :=
  run_loadAt_mid (P := Tryz.prog) w g 0 96 (chgL k i n r h) _ hb.range Tryz.underlying96 rfl (chg_list hr k i n h)
end Go.Proofs.YtbclepdcngaonaaGreatDoor

namespace Go.Proofs.YtbclepdcngaonaaGreatDoor
open Go.RowKit

attribute [local go_sem ↓] ldDigest_def stDigest_def

/-- What the walk of New carries of memory. -/
structure NwW (w1 : World) (g : Nat) (X : List (List UInt8)) (k : Nat) (w : World) : Prop where
  fill : Box w g 29 (fillD X k)
  far : Below w1.heap.size w1 w
  hg : w1.heap.size ≤ g
theorem NwW.call {w1 w w' : World} {g k : Nat} {X : List (List UInt8)} (s : NwW w1 g X k w) (hb : Below w.heap.size w w') : NwW w1 g X k w' := ⟨s.fill.below hb s.fill.lt, s.far.trans (hb.mono s.far.size), s.hg⟩
theorem NwW.put {w1 w : World} {g k : Nat} {X : List (List UInt8)} (s : NwW w1 g X k w) (hX : AllD X) (hk : k < X.length) : NwW w1 g X (k + 1) (w.setCells g (k * 32) ((X.getD k []).map bv)) := ⟨s.fill.fill_put hX hk, below_cells s.far s.hg s.far.size _ _, s.hg⟩

end Go.Proofs.YtbclepdcngaonaaGreatDoor
