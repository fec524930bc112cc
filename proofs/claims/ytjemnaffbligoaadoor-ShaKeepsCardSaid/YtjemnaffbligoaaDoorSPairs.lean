/-
  ShaPairs, the walk.
-/
import Derived.Test.YtjemnaffbligoaaDoorSPair
import Derived.Test.YtjemnaffbligoaaDoorSCuts
namespace Go.Proofs.YtjemnaffbligoaaDoor
open Go.RowKit

noncomputable def ldDigest (v : Value) : Sem Value := Instr.loadAt 26 v
theorem ldDigest_def (v : Value) : Instr.loadAt 26 v = ldDigest v := rfl
noncomputable def apAll (ts : Array TypeId) (ty : TypeId) (vs : Array Value) : Sem Value := Builtin.append_ ts ty vs
theorem apAll_def (ts : Array TypeId) (ty : TypeId) (vs : Array Value) : Builtin.append_ ts ty vs = apAll ts ty vs := rfl
attribute [local go_sem ↓] ldDigest_def apAll_def

theorem Box.load_digest {w : World} {g : Nat} {t : TypeId} {d : List UInt8} (h : Box w g t (d.map bv).toArray) (hd : d.length = 32) : (ldDigest (.pointer (some ⟨g, 0, none⟩))).run Tryd.prog w = .ok (.agg (d.map bv).toArray) w :=
  run_loadAt_mid (P := Tryd.prog) w g 0 26 (d.map bv) _ (fun j v hv => by rw [Nat.zero_add, h.cell, List.getElem?_toArray]; exact hv) Tryd.underlying26 rfl (by rw [List.length_map, hd]; kernel_rfl)

theorem append_fact {w : World} {base n g cap : Nat} {xs : List Value} (hown : w.ownsRow base 5 1 (.slice (some ⟨g, 0, none⟩) n cap) n xs)
    {g' m c k : Nat} {news : List Value} (hk : k = n + m) (hsee : ∀ j u, news[j]? = some u → w.cell? ⟨g', j, none⟩ = some u) (hl : news.length = m) (h1 : ∀ u ∈ news, u.oneCell' = true)
    (hb : n + m ≤ 70368744177664) (hbase : base ≤ w.heap.size) :
    ∃ g7 cap7 w7, (apAll #[24, 24] 24 #[.slice (some ⟨g, 0, none⟩) n cap, .slice (some ⟨g', 0, none⟩) m c]).run Tryd.prog w = .ok (.slice (some ⟨g7, 0, none⟩) k cap7) w7 ∧ w7.ownsRow base 5 1 (.slice (some ⟨g7, 0, none⟩) k cap7) k (xs ++ news) ∧ w.grownBy w7 (some g) := by
  obtain ⟨i0, hi0, hz0, hz1, hz2⟩ := info_parts w_byte_info
  obtain ⟨v', w', hr, ho, hg, hn⟩ := run_append_own w base 24 24 5 i0 _ 1 1 Tryd.underlying24 hi0 hz0 hz1 hz2 rfl (by omega) _ n xs hown ⟨g', 0, none⟩ m c news (by omega) (fun j u hu => by rw [plain_add, Nat.zero_add]; exact hsee j u hu) h1 (by unfold maxLen; omega) (by omega) hbase
  subst hk
  obtain ⟨g7, cap7, rfl, _⟩ := own_form ho (fun e => nn_some (hn.1 e).1)
  exact ⟨g7, cap7, w', hr, ho, hg⟩

set_option maxRecDepth 100000 in
set_option maxHeartbeats 1000000 in
theorem pairs_walk (m : UInt8) (a b : List UInt8) (ha : a.length = 32) (hb : b.length = 32) (w : World) (hR : Roots w) :
    Calls Tryd.prog 5 #[.int .u8 (m.toNat : Int), .agg (a.map bv).toArray, .agg (b.map bv).toArray] w fun e w' => e = .returned (.bool true) ∧ Below w.heap.size w w' := by
  have hF0 : Below w.heap.size w ((w.alloc (.cells (a.map bv).toArray 26)).alloc (.cells (b.map bv).toArray 26)) := ((Below.refl _ _).alloc (Nat.le_refl _) _).alloc (by simp) _
  have HAL := Lib.hid (alive_any _ (hR.of_below hF0))
  have HA : Hid (Box ((w.alloc (.cells (a.map bv).toArray 26)).alloc (.cells (b.map bv).toArray 26)) w.heap.size 26 (a.map bv).toArray) := (Box.made w _ _).alloc _
  have HB : Hid (Box ((w.alloc (.cells (a.map bv).toArray 26)).alloc (.cells (b.map bv).toArray 26)) (w.heap.size + 1) 26 (b.map bv).toArray) := Box.made_at (by simp) _ _
  have HF := Lib.hid hF0
  have HR := Lib.hid hR
  clear hF0 hR
  go_enter Tryd.func5, Tryd.ntmps5
  go_upto_region 3 with (go_at_call 8; refine (HAL.out).mono ?_; rintro e w1 ⟨rfl, hB1⟩; have HB1 := Lib.hid hB1; clear hB1)
  have hA1 := HA.out.below HB1.out HA.out.lt
  have hB1' := HB.out.below HB1.out HB.out.lt
  have HF1 := Lib.hid (HF.out.trans (HB1.out.mono HF.out.size))
  have hlt1 : w.heap.size + 1 < w1.heap.size := hB1'.lt
  have HA1 := Lib.hid hA1
  have HBB := Lib.hid hB1'
  clear hA1 hB1' HA HB HF HAL HB1
  have hal : Hid ((a.map bv).length = 32) := by show _ = _; rw [List.length_map, ha]
  have HOW : Hid ((w1.alloc (.cells #[bv m] 5)).ownsRow w1.heap.size 5 1 (.slice (some ⟨w1.heap.size, 0, none⟩) 1 1) 1 ([m].map bv)) := ⟨rfl, .inr ⟨w1.heap.size, 1, #[bv m], rfl, Nat.le_refl _, Box.made _ _ _, Nat.le_refl 1, by unfold maxLen; omega, rfl, rfl⟩⟩
  have HSE : Hid (Sees (w1.alloc (.cells #[bv m] 5)) w1.heap.size (some ⟨w.heap.size, 0, none⟩) (a.map bv)) := Sees.of_box (HA1.out.alloc _) (by omega)
  have HSZ : Hid (w1.heap.size ≤ (w1.alloc (.cells #[bv m] 5)).heap.size) := by show _ ≤ _; simp
  obtain ⟨i0, hi0, hz0, hz1, hz2⟩ := info_parts w_byte_info
  go_upto_region 4 with (((with_reducible show wpList _ _ _ ((⟨some 13, _, _, _, _, _⟩ : Oper) :: _) _ _)); refine wpList_append_seen rfl (.tmp 11) (.tmp 12) 24 rfl w1.heap.size 5 i0 _ Tryd.underlying24 hi0 hz0 hz1 hz2 rfl (.slice (some ⟨w1.heap.size, 0, none⟩) 1 1) 1 ([m].map bv) rfl HOW.out nn_some w1.heap.size (some ⟨w.heap.size, 0, none⟩) 32 32 (a.map bv) rfl HSE.out hal.out (bv_one _) (by omega) HSZ.out ?_; intro g cap w2 hown hgrow; have HO2 := Lib.hid hown; have HG2 := Lib.hid hgrow; clear hown hgrow)
  have hg1 := HO2.out.lt g rfl
  have hB2 : Below w1.heap.size w1 w2 := ((Below.refl _ _).alloc (Nat.le_refl _) _).trans (below_only HG2.out (Nat.le_refl _) HSZ.out)
  have hA2 := HA1.out.below hB2 HA1.out.lt
  have hBB2 := HBB.out.below hB2 HBB.out.lt
  have lA := hA2.drew.load_digest ha
  have lB := hBB2.drew.load_digest hb
  have HP := Lib.hid (pair_any m a b ha hb w2.drew (HR.out.of_below (HF1.out.trans ((hB2.drew).mono HF1.out.size))))
  have HB2 := Lib.hid hB2
  have HBB2 := Lib.hid hBB2.drew
  have HAP : Hid (∀ w6, Below w2.drew.heap.size w2.drew w6 → ∃ g7 cap7 w7, (apAll #[24, 24] 24 #[.slice (some ⟨g, 0, none⟩) 33 cap, .slice (some ⟨w.heap.size + 1, 0, none⟩) 32 32]).run Tryd.prog w6 = .ok (.slice (some ⟨g7, 0, none⟩) 65 cap7) w7 ∧ Below w1.heap.size w1 w7 ∧ Sees w7 w7.heap.size (some ⟨g7, 0, none⟩) ((m :: (a ++ b)).map bv)) := by
    intro w6 hb6
    have hown6 : w6.ownsRow w1.heap.size 5 1 (.slice (some ⟨g, 0, none⟩) 33 cap) 33 ([m].map bv ++ a.map bv) := World.ownsRow.kept (w := w2.drew) HO2.out (only_below hb6 none) (.inr (by simp [Value.ownBlock]))
    have hbl := HBB2.out.below hb6 HBB2.out.lt
    obtain ⟨g7, cap7, w7, hr, hown, hgrow⟩ := append_fact hown6 (g' := w.heap.size + 1) (m := 32) (c := 32) (news := b.map bv) (k := 65) rfl (fun j u hu => by rw [hbl.cell]; simpa using hu) (by rw [List.length_map, hb]) (bv_one _) (by omega) (Nat.le_trans HB2.out.size hb6.size)
    refine ⟨g7, cap7, w7, hr, ((HB2.out.drew).trans (hb6.mono HB2.out.size)).trans (below_only hgrow hg1.1 (Nat.le_trans HB2.out.size hb6.size)), ?_⟩
    have := Sees.of_own hown
    simpa using this
  generalize hd : shaOf (m :: (a ++ b)) = d at *
  have hdl : d.length = 32 := by rw [← hd]; rfl
  have hde : ∀ w, (Op.equalIn 10000 26 (.agg (d.map bv).toArray) (.agg (d.map bv).toArray)).run Tryd.prog w = .ok true w := fun w => by
    rw [dig_eq _ _ hdl hdl w]
    simp
  have HRF : Hid (∀ g7 cap7 w7, Sees w7 w7.heap.size (some ⟨g7, 0, none⟩) ((m :: (a ++ b)).map bv) → Calls Tryd.prog 10 #[.slice (some ⟨g7, 0, none⟩) 65 cap7] w7 fun e w' => e = .returned (.agg (d.map bv).toArray) ∧ Below w7.heap.size w7 w') := fun g7 cap7 w7 hs7 => by
    have h := ref_any (m :: (a ++ b)) (some ⟨g7, 0, none⟩) cap7 w7 hs7 (by rw [List.length_cons, List.length_append]; omega)
    rw [List.length_cons, List.length_append, ha, hb, hd] at h
    exact h
  have HHA := Lib.hid ha
  have HHB := Lib.hid hb
  clear hA2 hBB2 hB2 hdl hd HO2 HG2 HOW HSE HSZ hal hi0 hz0 hz1 hz2 ha hb hg1 hlt1 HA1 HBB HBB2
  go_region_with ((first
    | (go_at_call 11; refine (HP.out).mono ?_; rintro e w6 ⟨rfl, hb6⟩; obtain ⟨g7, cap7, w7, hap, hb7, hs7⟩ := HAP.out w6 hb6; have HB7 := Lib.hid hb7; have HR7 := Lib.hid (HRF.out g7 cap7 w7 hs7); clear hb6 hb7 hs7)
    | (go_at_call 10; refine (HR7.out).mono ?_; rintro e w8 ⟨rfl, hb8⟩; have HF8 := Lib.hid (HB7.out.trans (hb8.mono HB7.out.size)); clear hb8)))
  all_goals
    clear lA lB hde
    go_wp2
    go_ret
    exact ⟨rfl, HF1.out.trans (HF8.out.mono HF1.out.size)⟩
end Go.Proofs.YtjemnaffbligoaaDoor
