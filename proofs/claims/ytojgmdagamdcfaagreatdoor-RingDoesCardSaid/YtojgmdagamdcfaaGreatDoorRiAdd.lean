/-
  A tree is added: (*ring.Ring).Add.
-/
import Derived.Test.YtojgmdagamdcfaaGreatDoorRiPut
import Derived.Deep.RegionHeld3
namespace Go.Proofs.YtojgmdagamdcfaaGreatDoor
open Go.RowKit Go.Maps

noncomputable def upStock (m k v : Value) : Sem Unit := Instr.mapUpdate 57 m k v
set_option maxRecDepth 100000 in
theorem upStock_def (m k v : Value) : Instr.mapUpdate 57 m k v = upStock m k v := rfl
noncomputable def bdStock (parts : Array (Nat × Value)) : Sem Value := Instr.build 68 parts
set_option maxRecDepth 100000 in
theorem bdStock_def (parts : Array (Nat × Value)) : Instr.build 68 parts = bdStock parts := rfl
set_option maxRecDepth 100000 in
theorem bool_info3 : (Tryz.prog.info? 4).map (fun i => (i.zero, i.size, i.bytes)) = some (some (.bool false), 1, 1) := by kernel_rfl
set_option maxRecDepth 100000 in
theorem make_bools (n : Nat) (hn : n ≤ 1099511627776) (w : World) :
    (Instr.makeSlice 66 (.int .i64 (n : Int)) (.int .i64 (n : Int))).run Tryz.prog w = .ok (.slice (some ⟨w.heap.size, 0, none⟩) n n) (w.alloc (.cells (boolsV (List.replicate n false)) 4)) := by
  obtain ⟨i0, hi0, hz0, hz1, hz2⟩ := info_parts bool_info3
  have hr := run_make (P := Tryz.prog) w 66 4 i0 _ Tryz.underlying66 hi0 hz0 .i64 .i64 n n (by omega) (Int.le_refl _) (by rw [hz2]; omega) (by omega)
  rw [hr, Int.toNat_natCast, hz1]
  have e : madeCells (Value.bool false).cells (n * 1) = boolsV (List.replicate n false) := by
    have h := made_same 0 (n * 1) (.bool false)
    unfold boolsV
    rw [List.map_replicate]
    rw [Nat.mul_one] at h ⊢
    rw [← h]
    rfl
  rw [e]
set_option maxRecDepth 100000 in
/-- A key and an error are answered. -/
theorem ret_key_tmp {fn : Func} {p q : Tmp} (hf : fn.results = #[.cell p 37, .tmp q]) {a : Act} {w : World} {g : Nat} (hp : a.tmps.getD p undef = .pointer (some ⟨g, 0, none⟩)) {b : Value} (hq : a.tmps.getD q undef = b) (hdf : a.defers = []) {t : TypeId} {cs : Array Value} (hb : Box w g t cs) (hd : (Tryz.prog.info? 37).map (·.size) = some cs.size)
    {R : Ending → World → Prop} (hR : R (.returned (.tuple #[.agg cs, b])) w) : bodyPost Tryz.prog fn R .ret a w := by
  have hp' : a.tmps[p]?.getD undef = .pointer (some ⟨g, 0, none⟩) := by simpa using hp
  have hq' : a.tmps[q]?.getD undef = b := by simpa using hq
  refine bodyPost_ret (v := .tuple #[.agg cs, b]) ?_ hdf hR
  simp [results, hf, hp', hq', asAddr, run_loadVar_row w g t 37 cs (0, 0) _ hb Tryz.underlying37 rfl hd]
set_option maxRecDepth 100000 in
theorem key_same {r s : List UInt8} (hr : r.length = 32) (hs : s.length = 32) (h k : Int) : (keyV r h).size = (keyV s k).size := by
  unfold keyV
  rw [List.size_toArray, List.size_toArray, keyL_len hr, keyL_len hs]

/-- The entry of a tree that was added. -/
def Ent.fresh (seed : List UInt8) (h sb ob tb gb : Nat) : Ent := ⟨seed, h, 0, List.replicate (2 ^ h) false, sb, ob, tb, gb⟩
set_option maxRecDepth 100000 in
/-- A tree comes in. -/
theorem RingW.add {w w' : World} {B rb mb n : Nat} {es : List Ent} (h : RingW w B rb mb n es) (D : DataW Value) (hD : Maps.IsMap D) (hr : Reads D es) {e : Ent} (he : EntW w e) (hf : ∀ x ∈ es, x.is e.root (e.h : Int) = false) (hs : ∀ x ∈ es, x.sb ≠ e.sb ∧ x.ob ≠ e.ob) (hB : B ≤ e.sb ∧ B ≤ e.ob)
    (ho : w'.ownsMap Tryz.prog 37 anyElem mb (n + 1) (D.put e.lit (.held (.pointer (some ⟨e.sb, 0, none⟩))))) (hg : w.grownBy w' (some mb)) : RingW w' B rb mb (n + 1) (es ++ [e]) := by
  obtain ⟨_, ⟨es', clock, hh, _⟩, _⟩ := h.map
  have hne : ∀ {g t cs}, Box w g t cs → some g ≠ some mb := fun hb e => by
    injection e with e
    subst e
    unfold Box at hb
    rw [hb] at hh
    cases hh
  have hkey : WideAt.IsKeyLit e.lit := klit_key e.root_len he.wf
  have hlit : ∀ x ∈ es, x.lit ≠ e.lit := fun x hx hl => by
    have h1 := Ent.is_iff.2 (klit_inj x.root_len e.root_len (h.ents x hx).wf he.wf hl)
    rw [hf x hx] at h1
    cases h1
  have hent : ∀ x, EntW w x → EntW w' x := fun x k => k.kept (hg.block _ k.stock.lt (hne k.stock)) (hg.block _ k.opens.lt (hne k.opens)) ⟨k.tree.tree.grown hg (hne k.tree.tree), k.tree.leaves.grown hg (hne k.tree.leaves)⟩
  have hmem : ∀ x, x ∈ es ++ [e] → x ∈ es ∨ x = e := fun x hx => by simpa using hx
  refine ⟨h.ring.grown hg (hne h.ring), ⟨_, ho, fun x hx z => ?_, fun kl hk => ?_⟩, fun x hx => ?_, ?_, ?_, h.low.1, fun x hx => ?_⟩
  · rcases hmem x hx with hx | rfl
    · rw [atKey_put_other (hlit x hx)]
      exact hr.at_ x hx z
    · rw [atKey_put_same hD hkey]
  · by_cases hk' : kl = e.lit
    · exact ⟨e, by simp, hk'.symm⟩
    · rw [has_put_other hk'] at hk
      obtain ⟨x, hx, hl⟩ := hr.has kl hk
      exact ⟨x, by simp [hx], hl⟩
  · rcases hmem x hx with hx | rfl
    · exact hent x (h.ents x hx)
    · exact hent x he
  · rw [List.pairwise_append]
    refine ⟨h.apart, List.pairwise_singleton _ _, fun a ha b hb => ?_⟩
    obtain rfl := List.mem_singleton.1 hb
    exact hs a ha
  · rw [List.pairwise_append]
    refine ⟨h.keys, List.pairwise_singleton _ _, fun a ha b hb => ?_⟩
    obtain rfl := List.mem_singleton.1 hb
    exact hlit a ha
  · rcases hmem x hx with hx | rfl
    · exact h.low.2 x hx
    · exact hB
set_option maxRecDepth 100000 in
/-- .. by a store into the map. -/
theorem RingW.add_run {w : World} {B rb mb n : Nat} {es : List Ent} (h : RingW w B rb mb n es) {e : Ent} (he : EntW w e) (hf : ∀ x ∈ es, x.is e.root (e.h : Int) = false) (hs : ∀ x ∈ es, x.sb ≠ e.sb ∧ x.ob ≠ e.ob) (hB : B ≤ e.sb ∧ B ≤ e.ob) (hn : n < maxLen) :
    ∃ w', (upStock (.map (some mb)) (.agg (keyV e.root (e.h : Int))) (.pointer (some ⟨e.sb, 0, none⟩))).run Tryz.prog w = .ok () w' ∧ RingW w' B rb mb (n + 1) (es ++ [e]) ∧ w.grownBy w' (some mb) ∧ RFrame B w w' := by
  obtain ⟨D, hD, hr⟩ := h.map
  obtain ⟨es', clock, hh, _⟩ := id hD
  obtain ⟨w', h1, h2, h3⟩ := hD.store keyed Tryz.underlying57 hn he.lit (val := .pointer (some ⟨e.sb, 0, none⟩)) (d := .held (.pointer (some ⟨e.sb, 0, none⟩))) (ps := []) rfl
  exact ⟨w', h1, h.add D hD.isMap hr he hf hs hB h2 h3.grown, h3.grown, RFrame.of_grown h3.grown h.low.1 (map_obj hh)⟩

attribute [local go_sem ↓] ldKey_def lkStock_def ldDigest_def upStock_def bdStock_def

set_option maxRecDepth 100000 in
theorem radd_nil (seed : List UInt8) (hs : seed.length = 32) (h : Int) (w : World) : Calls Tryz.prog 8 #[.pointer none, .agg (seed.map bv).toArray, .int .i64 h] w fun e w' => e = .returned (.tuple #[.agg zkey, .int .i64 2]) ∧ Below w.heap.size w w' := by
  obtain ⟨w1, hw1⟩ : ∃ w1, w1 = (w.alloc (.cells (seed.map bv).toArray 33)).alloc (.cells zkey 37) := ⟨_, rfl⟩
  have HS : Hid (Box w1 w.heap.size 33 (seed.map bv).toArray) := by
    rw [hw1]
    exact (Box.made w _ _).alloc _
  have HO : Hid (Box w1 (w.heap.size + 1) 37 zkey) := by
    rw [hw1]
    exact Box.made_at (by simp) _ _
  have HF : Hid (Below w.heap.size w w1) := by
    rw [hw1]
    exact ((Below.refl _ _).alloc (Nat.le_refl _) _).alloc (by simp) _
  have HZ : Hid (w1.heap.size = w.heap.size + 1 + 1) := by
    rw [hw1]
    exact Lib.hid (by simp)
  have ls := HS.out.load_digest hs
  go_enter Tryz.func8, Tryz.ntmps8
  go_upto_region 1 with fail
  change Code.wp _ _ _ _ ((w.alloc (.cells (seed.map bv).toArray 33)).alloc (.cells zkey 37))
  rw [← hw1]
  clear hw1
  go_wp2_with ((((with_reducible show wpList _ _ _ ((⟨none, Op.store _ (.tmp 6) (.tmp 15), _, _, _, _⟩ : Oper) :: _) _ _)); refine wpList_store_box rfl 37 (.tmp 6) (.tmp 15) rfl (w.heap.size + 1) zkey rfl rfl 37 zkey (HO.out.below (Below.refl _ _) HO.out.lt) rfl (key_size (r := noneD) rfl 0) (keyL_one noneD 0) ?_; intro w7 hb7 hg7))
  exact ret_key_tmp rfl rfl rfl rfl hb7 (key_size (r := noneD) rfl 0) ⟨rfl, HF.out.trans (below_only hg7 (by omega) HF.out.size)⟩

set_option maxRecDepth 100000 in
theorem radd_arg (seed : List UInt8) (hs : seed.length = 32) (h : Int) (hh : (decide (0 ≤ h) && decide (h ≤ 6)) = false) (rb : Nat) (w : World) : Calls Tryz.prog 8 #[.pointer (some ⟨rb, 0, none⟩), .agg (seed.map bv).toArray, .int .i64 h] w fun e w' => e = .returned (.tuple #[.agg zkey, .int .i64 1]) ∧ Below w.heap.size w w' := by
  obtain ⟨w1, hw1⟩ : ∃ w1, w1 = (w.alloc (.cells (seed.map bv).toArray 33)).alloc (.cells zkey 37) := ⟨_, rfl⟩
  have HS : Hid (Box w1 w.heap.size 33 (seed.map bv).toArray) := by
    rw [hw1]
    exact (Box.made w _ _).alloc _
  have HO : Hid (Box w1 (w.heap.size + 1) 37 zkey) := by
    rw [hw1]
    exact Box.made_at (by simp) _ _
  have HF : Hid (Below w.heap.size w w1) := by
    rw [hw1]
    exact ((Below.refl _ _).alloc (Nat.le_refl _) _).alloc (by simp) _
  have HZ : Hid (w1.heap.size = w.heap.size + 1 + 1) := by
    rw [hw1]
    exact Lib.hid (by simp)
  have ls := HS.out.load_digest hs
  have HN := Lib.hid (new_not seed h hh w1)
  go_enter Tryz.func8, Tryz.ntmps8
  go_upto_region 1 with fail
  change Code.wp _ _ _ _ ((w.alloc (.cells (seed.map bv).toArray 33)).alloc (.cells zkey 37))
  rw [← hw1]
  clear hw1
  go_wp2_with (first
    | (go_at_call 24; (with_reducible refine (HN.out).mono ?_); rintro e w2 ⟨rfl, hb⟩; have H2 := Lib.hid hb; clear hb)
    | (((with_reducible show wpList _ _ _ ((⟨none, Op.store _ (.tmp 6) (.tmp 24), _, _, _, _⟩ : Oper) :: _) _ _)); refine wpList_store_box rfl 37 (.tmp 6) (.tmp 24) rfl (w.heap.size + 1) zkey rfl rfl 37 zkey (HO.out.below H2.out HO.out.lt) rfl (key_size (r := noneD) rfl 0) (keyL_one noneD 0) ?_; intro w7 hb7 hg7))
  exact ret_key_tmp rfl rfl rfl rfl hb7 (key_size (r := noneD) rfl 0) ⟨rfl, (HF.out.trans (H2.out.mono HF.out.size)).trans (below_only hg7 (by omega) (HF.out.trans (H2.out.mono HF.out.size)).size)⟩

set_option maxRecDepth 100000 in
set_option maxHeartbeats 1000000 in
theorem radd_other {w : World} {B rb mb n : Nat} {es : List Ent} (hring : RingW w B rb mb n es) (seed : List UInt8) (hs : seed.length = 32) (h : Nat) (hh : h ≤ 6) (hR : Roots w) {e : Ent} (he : e ∈ es) (hk : e.is (keyT seed h) (h : Int) = true) :
    Calls Tryz.prog 8 #[.pointer (some ⟨rb, 0, none⟩), .agg (seed.map bv).toArray, .int .i64 (h : Int)] w fun e w' => e = .returned (.tuple #[.agg zkey, .int .i64 9]) ∧ Below w.heap.size w w' := by
  have HSL := Lib.hid hs
  have HHH := Lib.hid hh
  have HRT := Lib.hid hR
  obtain ⟨w1, hw1⟩ : ∃ w1, w1 = (w.alloc (.cells (seed.map bv).toArray 33)).alloc (.cells zkey 37) := ⟨_, rfl⟩
  have HS : Hid (Box w1 w.heap.size 33 (seed.map bv).toArray) := by
    rw [hw1]
    exact (Box.made w _ _).alloc _
  have HO : Hid (Box w1 (w.heap.size + 1) 37 zkey) := by
    rw [hw1]
    exact Box.made_at (by simp) _ _
  have HF : Hid (Below w.heap.size w w1) := by
    rw [hw1]
    exact ((Below.refl _ _).alloc (Nat.le_refl _) _).alloc (by simp) _
  have HZ : Hid (w1.heap.size = w.heap.size + 1 + 1) := by
    rw [hw1]
    exact Lib.hid (by simp)
  have ls := HS.out.load_digest hs
  have HN := Lib.hid (new_any seed hs h hh w1 (hR.of_below HF.out))
  have HW := Lib.hid (hring.call HF.out)
  clear hring hR hs hh
  go_enter Tryz.func8, Tryz.ntmps8
  go_upto_region 1 with fail
  change Code.wp _ _ _ _ ((w.alloc (.cells (seed.map bv).toArray 33)).alloc (.cells zkey 37))
  rw [← hw1]
  clear hw1
  go_upto_region 6 with (go_at_call 24; (with_reducible refine (HN.out).mono ?_); rintro e1 w2 ⟨a, g, rfl, ht, hb, hag, hgg⟩; have H2 := Lib.hid hb; have HT2 := Lib.hid ht; clear hb ht hag hgg)
  have HK : Hid (Calls Tryz.prog 25 #[.pointer (some ⟨a, 0, none⟩)] w2 fun e w'' => e = .returned (.agg (keyV (keyT seed h) (h : Int))) ∧ Below w2.heap.size w2 w'') := tkey_any a seed (keyT seed h) HSL.out (keyT_len seed h) h _ w2 HT2.out.tree
  go_upto_region 7 with (first
    | (go_at_call 25; (with_reducible refine (HK.out).mono ?_); rintro e1 w3 ⟨rfl, hb⟩; have H3 := Lib.hid hb; clear hb)
    | (((with_reducible show wpList _ _ _ ((⟨none, Op.store _ (.tmp 10) (.tmp 27), _, _, _, _⟩ : Oper) :: _) _ _)); refine wpList_store_box rfl 37 (.tmp 10) (.tmp 27) rfl w3.heap.size (keyV (keyT seed h) (h : Int)) rfl rfl 37 zkey (Box.made w3 _ _) (key_same (keyT_len seed h) (s := noneD) rfl _ 0) (key_size (keyT_len seed h) _) (keyL_one _ _) ?_; intro w4 hb4 hg4; have H4 := Lib.hid (((Below.refl w3.heap.size w3).alloc (Nat.le_refl _) (.cells zkey 37)).trans (below_only hg4 (Nat.le_refl _) (by simp))); have HX4 := Lib.hid hb4; clear hb4 hg4))
  have H14 : Hid (Below w1.heap.size w1 w4) := Lib.hid ((H2.out.trans (H3.out.mono H2.out.size)).trans (H4.out.mono (H2.out.trans (H3.out.mono H2.out.size)).size))
  have HT4 := Lib.hid ((HT2.out.call H3.out).call H4.out)
  have HO4 := Lib.hid (HO.out.below H14.out HO.out.lt)
  have HR4 := Lib.hid (HW.out.call H14.out)
  have HF4 : Hid (Below w.heap.size w w4) := Lib.hid (HF.out.trans (H14.out.mono HF.out.size))
  have HZ4 : Hid (w1.heap.size ≤ w3.heap.size) := Lib.hid (H2.out.trans (H3.out.mono H2.out.size)).size
  have c0 : ∀ m, (w4.drewN m).cell? ⟨rb, 0, none⟩ = some (.map (some mb)) := fun m => HR4.out.ring.cell 0
  have lk : ∀ m, (ldKey (.pointer (some ⟨w3.heap.size, 0, none⟩))).run Tryz.prog (w4.drewN m) = .ok (.agg (keyV (keyT seed h) (h : Int))) (w4.drewN m) := fun m => Box.load_key (w := w4.drewN m) HX4.out (keyT_len seed h)
  have ll : ∀ m, (lkStock (.map (some mb)) (.agg (keyV (keyT seed h) (h : Int)))).run Tryz.prog (w4.drewN m) = .ok (.tuple #[.pointer (some ⟨e.sb, 0, none⟩), .bool true]) (w4.drewN m) := fun m => (HR4.out.drewN m).look he hk
  go_quiet (fail)
  go_wp2_with ((((with_reducible show wpList _ _ _ ((⟨none, Op.store _ (.tmp 6) (.tmp 38), _, _, _, _⟩ : Oper) :: _) _ _)); refine wpList_store_box rfl 37 (.tmp 6) (.tmp 38) rfl (w.heap.size + 1) zkey rfl rfl 37 zkey HO4.out rfl (key_size (r := noneD) rfl 0) (keyL_one noneD 0) ?_; intro w7 hb7 hg7))
  exact ret_key_tmp rfl rfl rfl rfl hb7 (key_size (r := noneD) rfl 0) ⟨rfl, (below_drewN HF4.out _).trans (below_only hg7 (by omega) (below_drewN HF4.out _).size)⟩

set_option maxRecDepth 100000 in
set_option maxHeartbeats 2000000 in
theorem radd_any {w : World} {B rb mb n : Nat} {es : List Ent} (hring : RingW w B rb mb n es) (seed : List UInt8) (hs : seed.length = 32) (h : Nat) (hh : h ≤ 6) (hR : Roots w) (hf : ∀ x ∈ es, x.is (keyT seed h) (h : Int) = false) (hn : n < maxLen) (hB : B ≤ w.heap.size) :
    Calls Tryz.prog 8 #[.pointer (some ⟨rb, 0, none⟩), .agg (seed.map bv).toArray, .int .i64 (h : Int)] w fun e w' => e = .returned (.tuple #[.agg (keyV (keyT seed h) (h : Int)), .int .i64 0]) ∧ (∃ sb ob tb gb, RingW w' B rb mb (n + 1) (es ++ [Ent.fresh seed h sb ob tb gb])) ∧ RFrame B w w' := by
  have HSL := Lib.hid hs
  have HHH := Lib.hid hh
  have HRT := Lib.hid hR
  obtain ⟨w1, hw1⟩ : ∃ w1, w1 = (w.alloc (.cells (seed.map bv).toArray 33)).alloc (.cells zkey 37) := ⟨_, rfl⟩
  have HS : Hid (Box w1 w.heap.size 33 (seed.map bv).toArray) := by
    rw [hw1]
    exact (Box.made w _ _).alloc _
  have HO : Hid (Box w1 (w.heap.size + 1) 37 zkey) := by
    rw [hw1]
    exact Box.made_at (by simp) _ _
  have HF : Hid (Below w.heap.size w w1) := by
    rw [hw1]
    exact ((Below.refl _ _).alloc (Nat.le_refl _) _).alloc (by simp) _
  have HZ : Hid (w1.heap.size = w.heap.size + 1 + 1) := by
    rw [hw1]
    exact Lib.hid (by simp)
  have ls := HS.out.load_digest hs
  have HN := Lib.hid (new_any seed hs h hh w1 (hR.of_below HF.out))
  have HW := Lib.hid (hring.call HF.out)
  clear hring hR hs hh
  have HNN := Lib.hid hn
  have HBB := Lib.hid hB
  have HFF := Lib.hid hf
  clear hn hB hf
  go_enter Tryz.func8, Tryz.ntmps8
  go_upto_region 1 with fail
  change Code.wp _ _ _ _ ((w.alloc (.cells (seed.map bv).toArray 33)).alloc (.cells zkey 37))
  rw [← hw1]
  clear hw1
  go_upto_region 6 with (go_at_call 24; (with_reducible refine (HN.out).mono ?_); rintro e1 w2 ⟨a, g, rfl, ht, hb, hag, hgg⟩; have H2 := Lib.hid hb; have HT2 := Lib.hid ht; clear hb ht hag hgg)
  have HK : Hid (Calls Tryz.prog 25 #[.pointer (some ⟨a, 0, none⟩)] w2 fun e w'' => e = .returned (.agg (keyV (keyT seed h) (h : Int))) ∧ Below w2.heap.size w2 w'') := tkey_any a seed (keyT seed h) HSL.out (keyT_len seed h) h _ w2 HT2.out.tree
  go_upto_region 7 with (first
    | (go_at_call 25; (with_reducible refine (HK.out).mono ?_); rintro e1 w3 ⟨rfl, hb⟩; have H3 := Lib.hid hb; clear hb)
    | (((with_reducible show wpList _ _ _ ((⟨none, Op.store _ (.tmp 10) (.tmp 27), _, _, _, _⟩ : Oper) :: _) _ _)); refine wpList_store_box rfl 37 (.tmp 10) (.tmp 27) rfl w3.heap.size (keyV (keyT seed h) (h : Int)) rfl rfl 37 zkey (Box.made w3 _ _) (key_same (keyT_len seed h) (s := noneD) rfl _ 0) (key_size (keyT_len seed h) _) (keyL_one _ _) ?_; intro w4 hb4 hg4; have H4 := Lib.hid (((Below.refl w3.heap.size w3).alloc (Nat.le_refl _) (.cells zkey 37)).trans (below_only hg4 (Nat.le_refl _) (by simp))); have HX4 := Lib.hid hb4; clear hb4 hg4))
  have H14 : Hid (Below w1.heap.size w1 w4) := Lib.hid ((H2.out.trans (H3.out.mono H2.out.size)).trans (H4.out.mono (H2.out.trans (H3.out.mono H2.out.size)).size))
  have HT4 := Lib.hid ((HT2.out.call H3.out).call H4.out)
  have HO4 := Lib.hid (HO.out.below H14.out HO.out.lt)
  have HR4 := Lib.hid (HW.out.call H14.out)
  have HF4 : Hid (Below w.heap.size w w4) := Lib.hid (HF.out.trans (H14.out.mono HF.out.size))
  have HZ4 : Hid (w1.heap.size ≤ w3.heap.size) := Lib.hid (H2.out.trans (H3.out.mono H2.out.size)).size
  have c0 : ∀ m, (w4.drewN m).cell? ⟨rb, 0, none⟩ = some (.map (some mb)) := fun m => HR4.out.ring.cell 0
  have lk : ∀ m, (ldKey (.pointer (some ⟨w3.heap.size, 0, none⟩))).run Tryz.prog (w4.drewN m) = .ok (.agg (keyV (keyT seed h) (h : Int))) (w4.drewN m) := fun m => Box.load_key (w := w4.drewN m) HX4.out (keyT_len seed h)
  have ll : ∀ m, (lkStock (.map (some mb)) (.agg (keyV (keyT seed h) (h : Int)))).run Tryz.prog (w4.drewN m) = .ok (.tuple #[.pointer none, .bool false]) (w4.drewN m) := fun m => (HR4.out.drewN m).look_not (keyT_len seed h) (small_wf h (by have := HHH.out; omega)) HFF.out
  go_quiet (fail)
  go_upto_region 10 with fail
  clear c0 lk ll
  have HRd := Lib.hid (HR4.out.drewN nq).drew
  have HTd : Hid (TreeW (w4.drewN nq).drew a g seed h) := Lib.hid ⟨HT4.out.tree, HT4.out.leaves⟩
  have HOd : Hid (Box (w4.drewN nq).drew (w.heap.size + 1) 37 zkey) := HO4
  have HXd : Hid (Box (w4.drewN nq).drew w3.heap.size 37 (keyV (keyT seed h) (h : Int))) := HX4
  have HFd : Hid (Below w.heap.size w (w4.drewN nq).drew) := Lib.hid (below_drewN HF4.out nq).drew
  clear HR4 HT4 HO4 HX4 HF4 H14
  have HCd : Hid ((w4.drewN nq).drew.cell? ⟨rb, 0, none⟩ = some (.map (some mb))) := Lib.hid (HRd.out.ring.cell 0)
  refine wp_region_held_drew (S := fun w' => w'.cell? ⟨rb, 0, none⟩ = some (.map (some mb)) ∧ Box w' w3.heap.size 37 (keyV (keyT seed h) (h : Int))) (by kernel_rfl) ⟨HCd.out, HXd.out⟩ (fun hS => ?_)
  generalize (w4.drewN nq).drew = w5 at *
  have hn1 := key_list (keyT_len seed h) (h : Int)
  have hund := key_struct
  have b0 : (0 : Int) ≤ (h : Int) := by omega
  have b1 : (h : Int) ≤ 64 := by have := HHH.out; omega
  have HP : Hid (2 ^ h ≤ 64) := Lib.hid (Nat.le_trans (Nat.pow_le_pow_right (by decide) HHH.out) (by decide))
  have hwr : IntKind.i64.wrap ((2 : Int) ^ h) = ((2 ^ h : Nat) : Int) := by
    have e1 : ((2 : Int) ^ h) = ((2 ^ h : Nat) : Int) := by simp
    rw [e1, IntKind.wrap_i64]
    have := HP.out
    generalize 2 ^ h = q at *
    omega
  (refine wpAnyH_take (i := 0) (v := .pointer (some ⟨rb, 0, none⟩)) rfl (by kernel_rfl) (by kernel_rfl) (by kernel_rfl) (fun _ _ _ h => h) (Or.inl ⟨by kernel_rfl, fun w hSw => by go_simp⟩) hS ?_)
  (try simp only [Act.put])
  (refine wpAnyH_take (i := 1) (v := .pointer (some ⟨rb, 0, none⟩)) rfl (by kernel_rfl) (by kernel_rfl) (by kernel_rfl) (fun _ _ _ h => h) (Or.inl ⟨by kernel_rfl, fun w hSw => by go_simp⟩) hS ?_)
  (try simp only [Act.put])
  (refine wpAnyH_take (i := 2) (v := .pointer (some ⟨rb, 0, none⟩)) rfl (by kernel_rfl) (by kernel_rfl) (by kernel_rfl) (fun _ _ _ h => h) (Or.inl ⟨by kernel_rfl, fun w hSw => by go_simp⟩) hS ?_)
  (try simp only [Act.put])
  (refine wpAnyH_take (i := 3) (v := .map (some mb)) rfl (by kernel_rfl) (by kernel_rfl) (by kernel_rfl) (fun _ _ _ h => h) (Or.inl ⟨by kernel_rfl, fun w hSw => by have hc := hSw.1; go_simp⟩) hS ?_)
  (try simp only [Act.put])
  (refine wpAnyH_take (i := 4) (v := .agg (keyV (keyT seed h) (h : Int))) rfl (by kernel_rfl) (by kernel_rfl) (by kernel_rfl) (fun _ _ _ h => h) (yieldsIf_load_mid (by kernel_rfl) 37 (.tmp 10) rfl w3.heap.size (0) (by kernel_rfl) (keyL (keyT seed h) (h : Int)) _ (fun w h => h.2.range) hund rfl hn1) hS ?_)
  (try simp only [Act.put])
  (refine wpAnyH_take (i := 5) (v := .pointer (some ⟨a, 0, none⟩)) rfl (by kernel_rfl) (by kernel_rfl) (by kernel_rfl) (fun _ _ _ h => h) (Or.inl ⟨by kernel_rfl, fun w hSw => by go_simp⟩) hS ?_)
  (try simp only [Act.put])
  (refine wpAnyH_take (i := 6) (v := .int .i64 (h : Int)) rfl (by kernel_rfl) (by kernel_rfl) (by kernel_rfl) (fun _ _ _ h => h) (Or.inl ⟨by kernel_rfl, fun w hSw => by go_simp⟩) hS ?_)
  (try simp only [Act.put])
  (refine wpAnyH_take (i := 7) (v := .int .i64 ((2 ^ h : Nat) : Int)) rfl (by kernel_rfl) (by kernel_rfl) (by kernel_rfl) (fun _ _ _ h => h) (Or.inl ⟨by kernel_rfl, fun w hSw => by go_simp⟩) hS ?_)
  (try simp only [Act.put])
  have hmk := make_bools (2 ^ h) (by have := HP.out; omega) w5
  rw [show ((2 ^ h : Nat) : Int) = (2 : Int) ^ h by simp] at hmk
  refine wpAnyH_ready (rs := [8]) (by decide +kernel) (by simp) (AllReadyH.cons rfl (fun K hK => ?_) AllReadyH.nil)
  go_simp
  clear hmk
  obtain ⟨w6, hw6⟩ : ∃ w6, w6 = w5.alloc (.cells (boolsV (List.replicate (2 ^ h) false)) 4) := ⟨_, rfl⟩
  have H6 : Hid (RingW w6 B rb mb n es) := by
    rw [hw6]
    exact HRd.out.call ((Below.refl _ _).alloc (Nat.le_refl _) _)
  have HX6 : Hid (Box w6 w3.heap.size 37 (keyV (keyT seed h) (h : Int))) := by
    rw [hw6]
    exact HXd.out.alloc _
  have HO6 : Hid (Box w6 (w.heap.size + 1) 37 zkey) := by
    rw [hw6]
    exact HOd.out.alloc _
  have HT6 : Hid (TreeW w6 a g seed h) := by
    rw [hw6]
    exact HTd.out.call ((Below.refl _ _).alloc (Nat.le_refl _) _)
  have HB6 : Hid (Box w6 w5.heap.size 4 (boolsV (List.replicate (2 ^ h) false))) := by
    rw [hw6]
    exact Box.made _ _ _
  have HF6 : Hid (Below w.heap.size w w6) := by
    rw [hw6]
    exact HFd.out.alloc HFd.out.size _
  have HN6 : Hid (w6.heap.size = w5.heap.size + 1) := by
    rw [hw6]
    exact Lib.hid (by simp)
  have HM6 : Hid (w.heap.size ≤ w5.heap.size ∧ B ≤ w5.heap.size) := Lib.hid (by have := HFd.out.size; have := HBB.out; omega)
  have HE5 : Hid (∀ x ∈ es, x.sb < w5.heap.size ∧ x.ob < w5.heap.size) := Lib.hid (fun x hx => ⟨(HRd.out.ents x hx).stock.lt, (HRd.out.ents x hx).opens.lt⟩)
  rw [← hw6]
  clear hw6 HRd HXd HOd HTd HFd HCd
  refine hK.out _ _ (⟨H6.out.ring.cell 0, HX6.out⟩) (fun hS => ?_)
  clear hK K
  (try simp only [Act.put])
  have hbt : Tryz.prog.built 68 [(0, .pointer (some ⟨a, 0, none⟩)), (2, .slice (some ⟨w5.heap.size, 0, none⟩) (2 ^ h) (2 ^ h))] = some (stockV a 0 w5.heap.size (2 ^ h)) := by kernel_rfl
  have hbr : ∀ w, (bdStock #[(0, .pointer (some ⟨a, 0, none⟩)), (2, .slice (some ⟨w5.heap.size, 0, none⟩) (2 ^ h) (2 ^ h))]).run Tryz.prog w = .ok (.agg (stockV a 0 w5.heap.size (2 ^ h))) w := fun w => run_build (P := Tryz.prog) w _ _ _ hbt
  clear hbt
  (refine wpAnyH_take (i := 9) (v := .agg (stockV a 0 w5.heap.size (2 ^ h))) rfl (by kernel_rfl) (by kernel_rfl) (by kernel_rfl) (fun _ _ _ h => h) (Or.inl ⟨by kernel_rfl, fun w hSw => by go_simp⟩) hS ?_)
  (try simp only [Act.put])
  have hsz : (Tryz.prog.info? 68).map (·.size) = some (stockV a 0 w5.heap.size (2 ^ h)).size := by
    show _ = some 3
    kernel_rfl
  refine wpAnyH_ready (rs := [10]) (by decide +kernel) (by simp) (AllReadyH.cons rfl (fun K hK => ?_) AllReadyH.nil)
  go_simp
  obtain ⟨w7, hw7⟩ : ∃ w7, w7 = w6.alloc (.cells (stockV a 0 w5.heap.size (2 ^ h)) 68) := ⟨_, rfl⟩
  have HB67 : Hid (Below w6.heap.size w6 w7) := by
    rw [hw7]
    exact (Below.refl _ _).alloc (Nat.le_refl _) _
  have HE7 : Hid (EntW w7 (Ent.fresh seed h w6.heap.size w5.heap.size a g)) := by
    rw [hw7]
    exact ⟨HSL.out, HHH.out, by simp [Ent.fresh], Nat.zero_le _, Box.made _ _ _, HB6.out.alloc _, HT6.out.call ((Below.refl _ _).alloc (Nat.le_refl _) _)⟩
  have H7 := Lib.hid (H6.out.call HB67.out)
  have HX7 := Lib.hid (HX6.out.below HB67.out HX6.out.lt)
  have HO7 := Lib.hid (HO6.out.below HB67.out HO6.out.lt)
  have HF7 : Hid (Below w.heap.size w w7) := Lib.hid (HF6.out.trans (HB67.out.mono HF6.out.size))
  rw [← hw7]
  clear hw7 hbr hsz
  refine hK.out _ _ (⟨H7.out.ring.cell 0, HX7.out⟩) (fun hS => ?_)
  clear hK K
  (try simp only [Act.put])
  obtain ⟨w8, hup, h81, h82, h83⟩ := H7.out.add_run HE7.out HFF.out (fun x hx => ⟨fun e1 => by have := (HE5.out x hx).1; have := HN6.out; simp only [Ent.fresh] at e1; omega, fun e1 => by have := (HE5.out x hx).2; simp only [Ent.fresh] at e1; omega⟩) (by have := HM6.out; have := HN6.out; simp only [Ent.fresh]; omega) HNN.out
  change (upStock (.map (some mb)) (.agg (keyV (keyT seed h) (h : Int))) (.pointer (some ⟨w6.heap.size, 0, none⟩))).run _ _ = _ at hup
  have H8 := Lib.hid h81
  have G8 := Lib.hid h82
  have F8 : Hid (RFrame B w w8) := Lib.hid ((RFrame.of_below HF7.out).trans h83)
  clear h81 h82 h83
  have hne : ∀ {g t cs}, Box w7 g t cs → some g ≠ some mb := fun hb e => by
    injection e with e
    obtain ⟨_, ⟨es', clock, hh, _⟩, _⟩ := H7.out.map
    subst e
    unfold Box at hb
    rw [hb] at hh
    cases hh
  have HX8 := Lib.hid (HX7.out.grown G8.out (hne HX7.out))
  have HO8 := Lib.hid (HO7.out.grown G8.out (hne HO7.out))
  clear hne
  refine wpAnyH_ready (rs := [11]) (by decide +kernel) (by simp) (AllReadyH.cons rfl (fun K hK => ?_) AllReadyH.nil)
  go_simp
  refine hK.out _ _ (⟨H8.out.ring.cell 0, HX8.out⟩) (fun hS => ?_)
  clear hK K
  (try simp only [Act.put])
  refine wpAnyH_done (by kernel_rfl) ?_ _
  clear hS hup hwr b0 b1 hund hn1
  have lk := Box.load_key HX8.out (keyT_len seed h)
  go_wp2_with (((with_reducible show wpList _ _ _ ((⟨none, Op.store _ (.tmp 6) (.tmp 50), _, _, _, _⟩ : Oper) :: _) _ _)); refine wpList_store_box rfl 37 (.tmp 6) (.tmp 50) rfl (w.heap.size + 1) (keyV (keyT seed h) (h : Int)) rfl rfl 37 zkey HO8.out (key_same (keyT_len seed h) (s := noneD) rfl _ 0) (key_size (keyT_len seed h) _) (keyL_one _ _) ?_; intro w9 hb9 hg9)
  exact ret_key_tmp rfl rfl rfl rfl hb9 (key_size (keyT_len seed h) _) ⟨rfl, ⟨_, _, _, _, H8.out.aside hg9 HO8.out (by decide) (by decide) (by decide) (by decide) (by decide)⟩, F8.out.new hg9 (by omega)⟩
end Go.Proofs.YtojgmdagamdcfaaGreatDoor
