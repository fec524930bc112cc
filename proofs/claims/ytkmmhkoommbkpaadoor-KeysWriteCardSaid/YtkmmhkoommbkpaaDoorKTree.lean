/-
  A tree's key and its signatures: (*keys.Tree).Key, (*keys.Tree).Sign.
-/
import Derived.Test.YtkmmhkoommbkpaaDoorKNew
import Derived.Test.YtkmmhkoommbkpaaDoorOSign
import Derived.Test.YtkmmhkoommbkpaaDoorTV
import Derived.Deep.RegionHeld3
import Derived.Deep.Onto
namespace Go.Proofs.YtkmmhkoommbkpaaDoor
open Go.RowKit

attribute [local go_sem ↓] ldDigest_def stDigest_def

def noneD : List UInt8 := List.replicate 32 0
theorem key_none : keyV noneD 0 = zkey := rfl
theorem Box.range_mid {w : World} {g o : Nat} {t : TypeId} {pre mid post : List Value} (h : Box w g t (pre ++ (mid ++ post)).toArray) (ho : pre.length = o) : w.rangeAt g o mid := by
  intro j v hv
  have hj := (List.getElem?_eq_some_iff.1 hv).1
  rw [h.cell, List.getElem?_toArray, List.getElem?_append_right (by omega), List.getElem?_append_left (by omega), ← ho, Nat.add_sub_cancel_left]
  exact hv

theorem tkey_nil (w : World) : Calls Tryd.prog 9 #[.pointer none] w fun e w' => e = .returned (.agg (keyV noneD 0)) ∧ Below w.heap.size w w' := by
  rw [key_none]
  have HO : Hid (Box (w.alloc (.cells zkey 35)) w.heap.size 35 zkey) := Box.made _ _ _
  have HF : Hid (Below w.heap.size w (w.alloc (.cells zkey 35))) := (Below.refl _ _).alloc (Nat.le_refl _) _
  have HSZ := Lib.hid (key_size (r := noneD) rfl 0)
  have HON := Lib.hid (keyL_one noneD 0)
  go_enter Tryd.func9, Tryd.ntmps9
  go_upto_region 1 with fail
  change Code.wp _ _ _ _ (w.alloc (.cells zkey 35))
  generalize w.alloc (.cells zkey 35) = w1 at *
  go_wp2_with (((with_reducible show wpList _ _ _ ((⟨none, Op.store _ (.tmp 2) (.tmp 5), _, _, _, _⟩ : Oper) :: _) _ _)); refine wpList_store_box rfl 35 (.tmp 2) (.tmp 5) rfl w.heap.size zkey rfl rfl 35 zkey HO.out rfl HSZ.out HON.out ?_; intro w7 hb7 hg7)
  exact bodyPost_ret (v := .agg zkey) (results_cell_row rfl _ w7 w.heap.size 35 zkey (0, 0) _ rfl hb7 Tryd.underlying35 rfl HSZ.out) rfl ⟨rfl, HF.out.trans (below_only hg7 (Nat.le_refl _) HF.out.size)⟩

theorem tkey_any (a : Nat) (seed r : List UInt8) (hs : seed.length = 32) (hr : r.length = 32) (h : Int) (v : Value) (w : World) (hb : Box w a 66 (treeV seed r h v)) :
    Calls Tryd.prog 9 #[.pointer (some ⟨a, 0, none⟩)] w fun e w' => e = .returned (.agg (keyV r h)) ∧ Below w.heap.size w w' := by
  have HO : Hid (Box (w.alloc (.cells zkey 35)) w.heap.size 35 zkey) := Box.made _ _ _
  have HF : Hid (Below w.heap.size w (w.alloc (.cells zkey 35))) := (Below.refl _ _).alloc (Nat.le_refl _) _
  have HRA : Hid ((w.alloc (.cells zkey 35)).rangeAt a 32 (keyL r h)) := Box.range_mid (hb.alloc _) (by simp [hs])
  have HSZ := Lib.hid (key_size hr h)
  have HSL := Lib.hid (key_list hr h)
  have HON := Lib.hid (keyL_one r h)
  have HZK : Hid ((keyV r h).size = zkey.size) := by
    show _ = _
    unfold keyV
    rw [List.size_toArray, keyL_len hr]
    rfl
  clear hb
  go_enter Tryd.func9, Tryd.ntmps9
  go_upto_region 1 with fail
  change Code.wp _ _ _ _ (w.alloc (.cells zkey 35))
  generalize w.alloc (.cells zkey 35) = w1 at *
  go_wp2_with (first
    | ((with_reducible show wpList _ _ _ ((⟨some 9, _, _, _, _, _⟩ : Oper) :: _) _ _); refine wpList_load_mid rfl 35 (.tmp 8) rfl a 32 rfl (keyL r h) _ HRA.out Tryd.underlying35 rfl HSL.out ?_)
    | (((with_reducible show wpList _ _ _ ((⟨none, Op.store _ (.tmp 2) (.tmp 9), _, _, _, _⟩ : Oper) :: _) _ _)); refine wpList_store_box rfl 35 (.tmp 2) (.tmp 9) rfl w.heap.size (keyV r h) rfl rfl 35 zkey HO.out HZK.out HSZ.out HON.out ?_; intro w7 hb7 hg7))
  exact bodyPost_ret (v := .agg (keyV r h)) (results_cell_row rfl _ w7 w.heap.size 35 (keyV r h) (0, 0) _ rfl hb7 Tryd.underlying35 rfl HSZ.out) rfl ⟨rfl, HF.out.trans (below_only hg7 (Nat.le_refl _) HF.out.size)⟩

abbrev zsig : Array Value := #[.int .i64 0, .slice none 0 0, .slice none 0 0, .slice none 0 0]
/-- A signature and an error are answered. -/
theorem ret_sig_tmp {fn : Func} {p q : Tmp} (hf : fn.results = #[.cell p 30, .tmp q]) {a : Act} {w : World} {g : Nat} (hp : a.tmps.getD p undef = .pointer (some ⟨g, 0, none⟩)) {b : Value} (hq : a.tmps.getD q undef = b) (hdf : a.defers = []) {t : TypeId} {cs : Array Value} (hb : Box w g t cs) (hd : (Tryd.prog.info? 30).map (·.size) = some cs.size)
    {R : Ending → World → Prop} (hR : R (.returned (.tuple #[.agg cs, b])) w) : bodyPost Tryd.prog fn R .ret a w := by
  have hp' : a.tmps[p]?.getD undef = .pointer (some ⟨g, 0, none⟩) := by simpa using hp
  have hq' : a.tmps[q]?.getD undef = b := by simpa using hq
  refine bodyPost_ret (v := .tuple #[.agg cs, b]) ?_ hdf hR
  simp [results, hf, hp', hq', asAddr, run_loadVar_row w g t 30 cs (0, 0) _ hb Tryd.underlying30 rfl hd]

set_option maxRecDepth 100000 in
set_option maxHeartbeats 1000000 in
theorem tsign_nil (n : Int) (d : List UInt8) (w : World) : Calls Tryd.prog 8 #[.pointer none, .int .i64 n, .agg (d.map bv).toArray] w fun e w' => e = .returned (.tuple #[.agg zsig, .int .i64 2]) ∧ Below w.heap.size w w' := by
  have HO : Hid (Box ((w.alloc (.cells (d.map bv).toArray 23)).alloc (.cells zsig 30)) (w.heap.size + 1) 30 zsig) := Box.made_at (by simp) _ _
  have HF : Hid (Below w.heap.size w ((w.alloc (.cells (d.map bv).toArray 23)).alloc (.cells zsig 30))) := ((Below.refl _ _).alloc (Nat.le_refl _) _).alloc (by simp) _
  have HSZ := Lib.hid (sig_size 0 none 0 0 none 0 0 none 0 0)
  have HON := Lib.hid (sig_one 0 none 0 0 none 0 0 none 0 0)
  go_enter Tryd.func8, Tryd.ntmps8
  go_upto_region 1 with fail
  change Code.wp _ _ _ _ ((w.alloc (.cells (d.map bv).toArray 23)).alloc (.cells zsig 30))
  generalize (w.alloc (.cells (d.map bv).toArray 23)).alloc (.cells zsig 30) = w1 at *
  go_wp2_with (((with_reducible show wpList _ _ _ ((⟨none, Op.store _ (.tmp 6) (.tmp 12), _, _, _, _⟩ : Oper) :: _) _ _)); refine wpList_store_box rfl 30 (.tmp 6) (.tmp 12) rfl (w.heap.size + 1) zsig rfl rfl 30 zsig HO.out rfl HSZ.out HON.out ?_; intro w7 hb7 hg7)
  exact ret_sig_tmp rfl rfl rfl rfl hb7 HSZ.out ⟨rfl, HF.out.trans (below_only hg7 (by omega) HF.out.size)⟩

set_option maxRecDepth 100000 in
set_option maxHeartbeats 1000000 in
theorem tsign_not (a : Nat) (seed r : List UInt8) (hs : seed.length = 32) (hr : r.length = 32) (h : Int) (A : Option Addr) (m c : Nat) (n : Int) (hn : (decide (0 ≤ n) && decide (n < (m : Int))) = false) (d : List UInt8) (w : World) (hb : Box w a 66 (treeV seed r h (.slice A m c))) :
    Calls Tryd.prog 8 #[.pointer (some ⟨a, 0, none⟩), .int .i64 n, .agg (d.map bv).toArray] w fun e w' => e = .returned (.tuple #[.agg zsig, .int .i64 1]) ∧ Below w.heap.size w w' := by
  have HO : Hid (Box ((w.alloc (.cells (d.map bv).toArray 23)).alloc (.cells zsig 30)) (w.heap.size + 1) 30 zsig) := Box.made_at (by simp) _ _
  have HF : Hid (Below w.heap.size w ((w.alloc (.cells (d.map bv).toArray 23)).alloc (.cells zsig 30))) := ((Below.refl _ _).alloc (Nat.le_refl _) _).alloc (by simp) _
  have HSZ := Lib.hid (sig_size 0 none 0 0 none 0 0 none 0 0)
  have HON := Lib.hid (sig_one 0 none 0 0 none 0 0 none 0 0)
  have c65 : ((w.alloc (.cells (d.map bv).toArray 23)).alloc (.cells zsig 30)).cell? ⟨a, 65, none⟩ = some (.slice A m c) := by
    rw [((hb.alloc _).alloc _).cell]
    unfold treeV treeL
    rw [List.getElem?_toArray, List.getElem?_append_right (by simp [hs]), List.getElem?_append_right (by simp [hs, keyL_len hr])]
    simp [hs, keyL_len hr]
  go_enter Tryd.func8, Tryd.ntmps8
  go_upto_region 1 with fail
  change Code.wp _ _ _ _ ((w.alloc (.cells (d.map bv).toArray 23)).alloc (.cells zsig 30))
  generalize (w.alloc (.cells (d.map bv).toArray 23)).alloc (.cells zsig 30) = w1 at *
  have HPN := Lib.hid (path_not n m c A hn w1)
  go_wp2_with (first
    | (go_at_call 28; (with_reducible refine (HPN.out).mono ?_); rintro e w3 ⟨rfl, rfl⟩)
    | (((with_reducible show wpList _ _ _ ((⟨none, Op.store _ (.tmp 6) (.tmp 24), _, _, _, _⟩ : Oper) :: _) _ _)); refine wpList_store_box rfl 30 (.tmp 6) (.tmp 24) rfl (w.heap.size + 1) zsig rfl rfl 30 zsig HO.out rfl HSZ.out HON.out ?_; intro w7 hb7 hg7))
  exact ret_sig_tmp rfl rfl rfl rfl hb7 HSZ.out ⟨rfl, HF.out.trans (below_only hg7 (by omega) HF.out.size)⟩

/-- What Sign answers where there is an n-th key. -/
def TSignIs (w : World) (n : Int) (X Y P : List (List UInt8)) (e : Ending) (w' : World) : Prop :=
  ∃ g1 g2 A c, e = .returned (.tuple #[.agg (sigV n (some ⟨g1, 0, none⟩) 32 32 (some ⟨g2, 0, none⟩) 32 32 A P.length c), .int .i64 0]) ∧ Box w' g1 23 (X.flatten.map bv).toArray ∧ Box w' g2 23 (Y.flatten.map bv).toArray ∧ PaW w (.slice A P.length c) P w' ∧ w.heap.size ≤ g1 ∧ w.heap.size ≤ g2

noncomputable def stSig (p v : Value) : Sem Unit := Instr.storeAt 30 p v
theorem stSig_def (p v : Value) : Instr.storeAt 30 p v = stSig p v := rfl
theorem Box.store_sig {w : World} {g : Nat} {t : TypeId} {cs : Array Value} (h : Box w g t cs) (hs : cs.size = 4) (vs : Array Value) (hv : vs.size = 4) (h1 : ∀ v ∈ vs.toList, v.oneCell' = true) :
    (stSig (.pointer (some ⟨g, 0, none⟩)) (.agg vs)).run Tryd.prog w = .ok () (w.setCells g 0 vs.toList) :=
  run_storeAt_mid (P := Tryd.prog) w g 0 30 vs (fun j hj => by rw [h.cell, h.free, Array.getElem?_eq_getElem (by omega)]; exact ⟨rfl, rfl⟩) (by rw [hv]; kernel_rfl) (by have := all_oneCell_toArray h1; simpa using this)

section
attribute [local go_sem ↓] bdSig_def stSig_def
set_option maxRecDepth 100000 in
set_option maxHeartbeats 2000000 in
theorem tsign_any (a g : Nat) (seed : List UInt8) (hs : seed.length = 32) (h n : Nat) (hh : h ≤ 6) (hn : n < 2 ^ h) (d : List UInt8) (hd : d.length = 32) (w : World) (ht : TreeW w a g seed h) (hR : Roots w) :
    Calls Tryd.prog 8 #[.pointer (some ⟨a, 0, none⟩), .int .i64 (n : Int), .agg (d.map bv).toArray] w (TSignIs w n (openT seed n d) (shutT seed n d) (pathT (leavesT seed h) n)) := by
  obtain ⟨w1, hw1⟩ : ∃ w1, w1 = (w.alloc (.cells (d.map bv).toArray 23)).alloc (.cells zsig 30) := ⟨_, rfl⟩
  have HD : Hid (Box w1 w.heap.size 23 (d.map bv).toArray) := by
    rw [hw1]
    exact (Box.made w _ _).alloc _
  have HO : Hid (Box w1 (w.heap.size + 1) 30 zsig) := by
    rw [hw1]
    exact Box.made_at (by simp) _ _
  have HF : Hid (Below w.heap.size w w1) := by
    rw [hw1]
    exact ((Below.refl _ _).alloc (Nat.le_refl _) _).alloc (by simp) _
  have HZ : Hid (w1.heap.size = w.heap.size + 1 + 1) := by
    rw [hw1]
    exact Lib.hid (by simp)
  have HR := Lib.hid (hR.of_below HF.out)
  have hpow : 2 ^ h ≤ 64 := Nat.le_trans (Nat.pow_le_pow_right (by decide) hh) (by decide)
  have HTA : Hid (a < w.heap.size) := ht.tree.lt
  have ht1 := ht.call HF.out
  have HTR := Lib.hid ht1.tree
  have c65 : w1.cell? ⟨a, 65, none⟩ = some (.slice (some ⟨g, 0, none⟩) (2 ^ h) (2 ^ h)) := by
    rw [HTR.out.cell]
    unfold treeV treeL
    rw [List.getElem?_toArray, List.getElem?_append_right (by simp [hs]), List.getElem?_append_right (by simp [hs, keyL_len (keyT_len seed h)])]
    simp [hs, keyL_len (keyT_len seed h)]
  have hdg : Digs w1 w1.heap.size (some ⟨g, 0, none⟩) (leavesT seed h) := ⟨leaves_all seed h, Sees.of_box ht1.leaves ht1.leaves.lt⟩
  have hpt := path_any (leavesT seed h) (some ⟨g, 0, none⟩) (2 ^ h) n (by rw [leaves_len]; exact hn) w1 hdg (by rw [leaves_len]; omega) HR.out
  rw [leaves_len] at hpt
  have HPT := Lib.hid hpt
  have HSG : Hid (∀ w', Below w1.heap.size w1 w' → Calls Tryd.prog 29 #[.agg (seed.map bv).toArray, .int .i64 (n : Int), .agg (d.map bv).toArray] w' (SignIs w' (openT seed n d) (shutT seed n d))) := fun w' hb => sign_any seed hs n d hd w' (HR.out.of_below hb)
  have HSL := Lib.hid hs
  have hn1 := dig_list seed hs
  have hn2 := dig_list d hd
  have hund := Tryd.underlying23
  have HR1 : Hid (∀ w', Box w' a 66 (treeV seed (keyT seed h) h (.slice (some ⟨g, 0, none⟩) (2 ^ h) (2 ^ h))) → w'.rangeAt a 0 (seed.map bv)) := fun w' hb => Box.range_mid (pre := []) hb rfl
  clear hdg hpt ht1 hR ht hs hd hpow hh hn
  generalize pathT (leavesT seed h) n = P at *
  generalize openT seed (n : Int) d = X at *
  generalize shutT seed (n : Int) d = Y at *
  generalize keyT seed h = r at *
  generalize 2 ^ h = N at *
  go_enter Tryd.func8, Tryd.ntmps8
  go_upto_region 1 with fail
  change Code.wp _ _ _ _ ((w.alloc (.cells (d.map bv).toArray 23)).alloc (.cells zsig 30))
  rw [← hw1]
  clear hw1
  go_upto_region 6 with (go_at_call 28; (with_reducible refine (HPT.out).mono ?_); rintro e w3 ⟨A, c, rfl, hP⟩; have HP3 := Lib.hid hP; clear hP)
  have HB3 := Lib.hid HP3.out.far.drew
  have HP4 := Lib.hid HP3.out.drew
  have HS0 : Hid (Box w3.drew a 66 (treeV seed r h (.slice (some ⟨g, 0, none⟩) N N)) ∧ Box w3.drew w.heap.size 23 (d.map bv).toArray) := ⟨HTR.out.below HB3.out HTR.out.lt, HD.out.below HB3.out HD.out.lt⟩
  have HO3 := Lib.hid (HO.out.below HB3.out HO.out.lt)
  refine wp_region_held_drew (S := fun w' => Box w' a 66 (treeV seed r h (.slice (some ⟨g, 0, none⟩) N N)) ∧ Box w' w.heap.size 23 (d.map bv).toArray) (by kernel_rfl) HS0.out (fun hS => ?_)
  clear HS0 c65 HPT HP3
  generalize w3.drew = w4 at *
  (refine wpAnyH_take (i := 0) (v := .int .i64 (n : Int)) rfl (by kernel_rfl) (by kernel_rfl) (by kernel_rfl) (fun _ _ _ h => h) (Or.inl ⟨by kernel_rfl, fun w hSw => by go_simp⟩) hS ?_)
  (try simp only [Act.put])
  (refine wpAnyH_take (i := 1) (v := .pointer (some ⟨a, 0, none⟩)) rfl (by kernel_rfl) (by kernel_rfl) (by kernel_rfl) (fun _ _ _ h => h) (Or.inl ⟨by kernel_rfl, fun w hSw => by go_simp⟩) hS ?_)
  (try simp only [Act.put])
  (refine wpAnyH_take (i := 2) (v := .pointer (some ⟨a, 0, none⟩)) rfl (by kernel_rfl) (by kernel_rfl) (by kernel_rfl) (fun _ _ _ h => h) (Or.inl ⟨by kernel_rfl, fun w hSw => by go_simp⟩) hS ?_)
  (try simp only [Act.put])
  (refine wpAnyH_take (i := 3) (v := .pointer (some ⟨a, 0, none⟩)) rfl (by kernel_rfl) (by kernel_rfl) (by kernel_rfl) (fun _ _ _ h => h) (Or.inl ⟨by kernel_rfl, fun w hSw => by go_simp⟩) hS ?_)
  (try simp only [Act.put])
  (refine wpAnyH_take (i := 4) (v := .agg (seed.map bv).toArray) rfl (by kernel_rfl) (by kernel_rfl) (by kernel_rfl) (fun _ _ _ h => h) (yieldsIf_load_mid (by kernel_rfl) 23 (.tmp 28) rfl a (0) (by kernel_rfl) (seed.map bv) _ (fun w h => HR1.out w h.1) hund rfl hn1) hS ?_)
  (try simp only [Act.put])
  (refine wpAnyH_take (i := 5) (v := .int .i64 (n : Int)) rfl (by kernel_rfl) (by kernel_rfl) (by kernel_rfl) (fun _ _ _ h => h) (Or.inl ⟨by kernel_rfl, fun w hSw => by go_simp⟩) hS ?_)
  (try simp only [Act.put])
  (refine wpAnyH_take (i := 6) (v := .agg (d.map bv).toArray) rfl (by kernel_rfl) (by kernel_rfl) (by kernel_rfl) (fun _ _ _ h => h) (yieldsIf_load_mid (by kernel_rfl) 23 (.tmp 5) rfl w.heap.size (0) (by kernel_rfl) (d.map bv) _ (fun w h => h.2.range) hund rfl hn2) hS ?_)
  (try simp only [Act.put])
  (refine wpAnyH_take (i := 8) (v := .slice A P.length c) rfl (by kernel_rfl) (by kernel_rfl) (by kernel_rfl) (fun _ _ _ h => h) (Or.inl ⟨by kernel_rfl, fun w hSw => by go_simp⟩) hS ?_)
  (try simp only [Act.put])
  refine wpAnyH_ready (rs := [7]) (by decide +kernel) (by simp) (AllReadyH.cons rfl (fun K hK => ?_) AllReadyH.nil)
  go_simp
  (go_at_call 29; (with_reducible refine (HSG.out _ HB3.out).mono ?_); rintro e w5 ⟨g1, g2, rfl, b1, b2, h1, h2, _, hb⟩)
  have HB5 := Lib.hid hb
  have HX5 := Lib.hid (And.intro b1 b2)
  have HH5 : Hid (w4.heap.size ≤ g1 ∧ w4.heap.size ≤ g2) := ⟨h1, h2⟩
  clear hb b1 b2 h1 h2
  refine hK.out _ _ (⟨hS.1.below HB5.out hS.1.lt, hS.2.below HB5.out hS.2.lt⟩) (fun hS => ?_)
  clear hK K
  (try simp only [Act.put])
  have hbd := bdSig_run (n : Int) (some ⟨g1, 0, none⟩) 32 32 (some ⟨g2, 0, none⟩) 32 32 A P.length c
  (refine wpAnyH_take (i := 9) (v := .agg (sigV (n : Int) (some ⟨g1, 0, none⟩) 32 32 (some ⟨g2, 0, none⟩) 32 32 A P.length c)) rfl (by kernel_rfl) (by kernel_rfl) (by kernel_rfl) (fun _ _ _ h => h) (Or.inl ⟨by kernel_rfl, fun w hSw => by go_simp⟩) hS ?_)
  (try simp only [Act.put])
  have HO5 := Lib.hid (HO3.out.below HB5.out HO3.out.lt)
  have hst := HO5.out.store_sig rfl (sigV (n : Int) (some ⟨g1, 0, none⟩) 32 32 (some ⟨g2, 0, none⟩) 32 32 A P.length c) rfl (sig_one _ _ _ _ _ _ _ _ _ _)
  refine wpAnyH_ready (rs := [10]) (by decide +kernel) (by simp) (AllReadyH.cons rfl (fun K hK => ?_) AllReadyH.nil)
  go_simp
  have HB7 := Lib.hid (HO5.out.cells_all (sigV (n : Int) (some ⟨g1, 0, none⟩) 32 32 (some ⟨g2, 0, none⟩) 32 32 A P.length c) rfl)
  have HG7 := Lib.hid (only_cells (g := w.heap.size + 1) (sigV (n : Int) (some ⟨g1, 0, none⟩) 32 32 (some ⟨g2, 0, none⟩) 32 32 A P.length c).toList 0 w5)
  refine hK.out _ _ (⟨hS.1.grown HG7.out (fun e => by injection e with e; have := HTA.out; omega), hS.2.grown HG7.out (fun e => by injection e with e; omega)⟩) (fun hS => ?_)
  clear hK K
  (try simp only [Act.put])
  clear hst hbd
  generalize w5.setCells (w.heap.size + 1) 0 (sigV (n : Int) (some ⟨g1, 0, none⟩) 32 32 (some ⟨g2, 0, none⟩) 32 32 A P.length c).toList = w7 at *
  refine wpAnyH_ready (rs := [11]) (by decide +kernel) (by simp) (AllReadyH.cons rfl (fun K hK => ?_) AllReadyH.nil)
  go_simp
  refine hK.out _ _ (hS) (fun hS => ?_)
  clear hK K
  (try simp only [Act.put])
  refine wpAnyH_done (by kernel_rfl) ?_ _
  clear hS
  go_wp2
  have hz := HZ.out
  have h3 := HB3.out.size
  have HSZ := sig_size (n : Int) (some ⟨g1, 0, none⟩) 32 32 (some ⟨g2, 0, none⟩) 32 32 A P.length c
  have hP5 := HP4.out.call HB5.out
  have hb7 : Below w.heap.size w w7 := (HF.out.trans (hP5.far.mono HF.out.size)).trans (below_only HG7.out (by omega) (HF.out.trans (hP5.far.mono HF.out.size)).size)
  have hh := HH5.out
  refine ret_sig_tmp rfl rfl rfl rfl HB7.out HSZ ⟨g1, g2, A, c, rfl, HX5.out.1.grown HG7.out (fun e => by injection e with e; omega), HX5.out.2.grown HG7.out (fun e => by injection e with e; omega), ⟨(World.ownsRow.kept hP5.own HG7.out ?_).mono HF.out.size, hP5.all, hb7⟩, by omega, by omega⟩
  refine .inr (fun e => ?_)
  have := hP5.own.lt _ e
  omega
end
end Go.Proofs.YtkmmhkoommbkpaaDoor
