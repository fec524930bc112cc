/-
  TreeProves, the walk: for every input the law returns true, and nothing that was there is turned.
-/
import Derived.Test.YtkpekglpknbodaaDoorTKeeps
import Derived.Test.YtkpekglpknbodaaDoorTRCheck
namespace Go.Proofs.YtkpekglpknbodaaDoor
open Go.RowKit Go.Sort

attribute [local go_sem ↓] ldDigest_def stDigest_def bsAll_def apAll_def

theorem check_own (ds : List (List UInt8)) (n : Nat) (h : n < ds.length) : checkT (rootT ds) (ds.getD n []) n ds.length (pathT ds n) = true := by
  unfold checkT
  have e : ds.getD n [] = ds.getD n (shaOf []) := by
    rw [List.getD_eq_getElem?_getD, List.getD_eq_getElem?_getD, List.getElem?_eq_getElem h]
    rfl
  have hw : ends pT n ds.length (ds.getD n (shaOf [])) (pathT ds n) = some (rootT ds) := way_ends pT (shaOf []) ds.length ds n (Nat.le_refl _) h
  rw [e, hw]
  exact decide_eq_true rfl
theorem check_long (r lf : List UInt8) (ds : List (List UInt8)) (n : Nat) (h : n < ds.length) (qs : List (List UInt8)) (hl : qs.length ≠ (pathT ds n).length) : checkT r lf n ds.length qs = false := by
  unfold checkT
  rw [ends_not pT (by rw [← pathT_steps ds n h]; exact hl)]
  exact decide_eq_false (by simp)
theorem check_other (o : List UInt8) (ds : List (List UInt8)) (n : Nat) (h : n < ds.length) (ho : o ≠ rootT ds) : checkT o (ds.getD n []) n ds.length (pathT ds n) = false := by
  have h1 := check_own ds n h
  unfold checkT at h1 ⊢
  rw [of_decide_eq_true h1]
  exact decide_eq_false (fun e => ho (by injection e with e; exact e.symm))

/-- Two appends, one behind the other, onto a new row: a list that is seen, and one digest more. -/
theorem two_appends {w W : World} {g b : Nat} {ps : List (List UInt8)} {Ap : Option Addr} {cp : Nat} {o : List UInt8} (hW : Below w.heap.size w W) (hown : W.ownsRow w.heap.size 29 32 (.slice (some ⟨g, 0, none⟩) 0 0) 0 ([] : List Value)) (hb : Box W b 29 (o.map bv).toArray) (hne : b ≠ g) (hP : Digs w w.heap.size Ap ps) (ho : o.length = 32) (hle : ps.length + 1 ≤ 1099511627776) :
    ∃ A2 c2 w2 B2 e2 x2, (apAll #[23, 23] 23 #[.slice (some ⟨g, 0, none⟩) 0 0, .slice Ap ps.length cp]).run Tryd.prog W = .ok (.slice A2 ps.length c2) w2 ∧ Below w.heap.size w w2 ∧
      (apAll #[23, 23] 23 #[.slice A2 ps.length c2, .slice (some ⟨b, 0, none⟩) 1 1]).run Tryd.prog w2 = .ok (.slice B2 (ps.length + 1) e2) x2 ∧ Digs x2 x2.heap.size B2 (ps ++ [o]) ∧ Below w.heap.size w x2 ∧ ps.length + 1 ≤ e2 := by
  obtain ⟨v2, w2, hap, hown2, hg2⟩ := append_digs (n := 0) (ds := []) rfl hown (A := Ap) (m := ps.length) (c := cp) (es := ps) rfl (hP.far hW) (by omega) hW.size
  rw [Nat.zero_add, List.nil_append] at hown2
  obtain ⟨A2, c2, rfl⟩ := own_slice_s hown2
  have hW2 := hW.trans (below_own hown hg2 hW.size)
  have hb2 : Box w2 b 29 (o.map bv).toArray := hb.grown hg2 (fun e => hne (by simpa [Value.ownBlock] using e))
  have hd2 : Digs w2 w2.heap.size (some ⟨b, 0, none⟩) [o] := ⟨AllD.one ho, by simpa using Sees.of_box hb2 hb2.lt⟩
  obtain ⟨v3, x2, hap3, hown3, hg3⟩ := append_digs rfl hown2 (A := some ⟨b, 0, none⟩) (m := 1) (c := 1) (es := [o]) rfl hd2 hle hW2.size
  obtain ⟨B2, e2, rfl⟩ := own_slice_s hown3
  have hform := OwnD.form hown3
  exact ⟨A2, c2, w2, B2, e2, x2, hap, hW2, hap3, ⟨hP.all.append (AllD.one ho), sees_own hown3⟩, hW2.trans (below_own hown2 hg3 hW2.size), hform.1⟩
theorem own_none (w : World) {base : Nat} (hb : base ≤ w.heap.size) : (w.alloc (.cells #[] 29)).ownsRow base 29 32 (.slice (some ⟨w.heap.size, 0, none⟩) 0 0) 0 ([] : List Value) :=
  World.ownsRow_lit (base := base) (size := 32) w (e := 29) #[] 0 hb (by simp [maxLen]) (by simp)

set_option maxRecDepth 100000 in
set_option maxHeartbeats 8000000 in
theorem proves_walk (ds : List (List UInt8)) (A : Option Addr) (c : Nat) (x : Int) (o : List UInt8) (w : World) (hD : Digs w w.heap.size A ds) (ho : o.length = 32) (hR : Roots w) :
    Calls Tryd.prog 5 #[.slice A ds.length c, .int .i64 x, .agg (o.map bv).toArray] w fun e w' => e = .returned (.bool true) ∧ Below w.heap.size w w' := by
  have hF0 : Below w.heap.size w (w.alloc (.cells (o.map bv).toArray 29)) := (Below.refl _ _).alloc (Nat.le_refl _) _
  have HB0 : Hid (Box (w.alloc (.cells (o.map bv).toArray 29)) w.heap.size 29 (o.map bv).toArray) := Box.made w _ _
  have HAL := Lib.hid (alive_any _ (hR.of_below hF0))
  have HD := Lib.hid hD
  have HR := Lib.hid hR
  have HF := Lib.hid hF0
  clear hD hR hF0
  go_enter Tryd.func5, Tryd.ntmps5
  go_upto_region 1 with fail
  change Code.wp _ _ _ _ (w.alloc (.cells (o.map bv).toArray 29))
  generalize w.alloc (.cells (o.map bv).toArray 29) = w1 at *
  by_cases h1 : (100 : Int) < (ds.length : Int)
  · have h1' : decide ((100 : Int) < (ds.length : Int)) = true := decide_eq_true h1
    go_wp2_with (go_at_call 9; refine (HAL.out).mono ?_; rintro e w2 ⟨rfl, hb2⟩; have HF2 := Lib.hid (HF.out.trans (hb2.mono HF.out.size)); clear hb2)
    go_ret
    exact ⟨rfl, HF2.out⟩
  have h1' : decide ((100 : Int) < (ds.length : Int)) = false := decide_eq_false h1
  by_cases h2 : x < 0
  · have h2' : decide (x < 0) = true := decide_eq_true h2
    go_wp2_with (go_at_call 9; refine (HAL.out).mono ?_; rintro e w2 ⟨rfl, hb2⟩; have HF2 := Lib.hid (HF.out.trans (hb2.mono HF.out.size)); clear hb2)
    go_ret
    exact ⟨rfl, HF2.out⟩
  have h2' : decide (x < 0) = false := decide_eq_false h2
  by_cases h3 : (ds.length : Int) ≤ x
  · have h3' : decide ((ds.length : Int) ≤ x) = true := decide_eq_true h3
    go_wp2_with (go_at_call 9; refine (HAL.out).mono ?_; rintro e w2 ⟨rfl, hb2⟩; have HF2 := Lib.hid (HF.out.trans (hb2.mono HF.out.size)); clear hb2)
    go_ret
    exact ⟨rfl, HF2.out⟩
  have h3' : decide ((ds.length : Int) ≤ x) = false := decide_eq_false h3
  obtain ⟨n, rfl⟩ : ∃ n : Nat, x = (n : Int) := ⟨x.toNat, by omega⟩
  have hnl : n < ds.length := by omega
  obtain ⟨g1, o1, rfl, hg1, _⟩ := HD.out.some_ (by omega)
  have hck1 := check_own ds n hnl
  have HRL := Lib.hid HD.out.all.root
  have HXL := Lib.hid (HD.out.all.get hnl [])
  have hps := pathT_short ds n hnl
  have HPAL := Lib.hid (HD.out.all.path n)
  have HCL := Lib.hid (fun r lf qs hl => check_long r lf ds n hnl qs hl)
  have HCO := Lib.hid (fun h => check_other o ds n hnl h)
  have HRT : Hid (∀ w', Below w.heap.size w w' → Calls Tryd.prog 14 #[.slice (some ⟨g1, o1, none⟩) ds.length c] w' fun e w'' => e = .returned (.agg ((rootT ds).map bv).toArray) ∧ Below w'.heap.size w' w'') := fun w' hb => root_any ds _ c w' (HD.out.far hb) (by omega) (HR.out.of_below hb)
  have HPA : Hid (∀ w', Below w.heap.size w w' → Calls Tryd.prog 10 #[.int .i64 (n : Int), .slice (some ⟨g1, o1, none⟩) ds.length c] w' (PathIs w' (pathT ds n))) := fun w' hb => path_any ds _ c n hnl w' (HD.out.far hb) (by omega) (HR.out.of_below hb)
  have HLF : Hid (∀ w', Below w.heap.size w w' → w'.rangeAt g1 (o1 + n * 32) ((ds.getD n []).map bv)) := fun w' hb => (HD.out.far hb).at_ hnl
  generalize rootT ds = r at *
  generalize ds.getD n [] = lf at *
  generalize pathT ds n = ps at *
  have HK1 := Lib.hid hck1
  have HSM := Lib.hid (dig_same r HRL.out)
  have HSZ := Lib.hid (dig_size r HRL.out)
  clear hck1
  go_upto_region 8 with (first
    | (go_at_call 9; refine (HAL.out).mono ?_; rintro e w2 ⟨rfl, hb2⟩; have HF2 := Lib.hid (HF.out.trans (hb2.mono HF.out.size)); have HB2 := Lib.hid (HB0.out.below hb2 HB0.out.lt); clear hb2)
    | (go_at_call 14; refine (HRT.out w2 HF2.out).mono ?_; rintro e w3 ⟨rfl, hb3⟩; have HF3 := Lib.hid (HF2.out.trans (hb3.mono HF2.out.size)); have HB3 := Lib.hid (HB2.out.below hb3 HB2.out.lt); clear hb3)
    | (((with_reducible show wpList _ _ _ ((⟨none, Op.store _ (.tmp 8) (.tmp 29), _, _, _, _⟩ : Oper) :: _) _ _)); refine wpList_store_box rfl 29 (.tmp 8) (.tmp 29) rfl w3.heap.size (r.map bv).toArray rfl rfl 29 zs32 (Box.made w3 _ _) HSM.out HSZ.out (bv_one _) ?_; intro w4 hb4 hg4; have HX4 := Lib.hid hb4; have hbl := ((Below.refl w3.heap.size w3).alloc (Nat.le_refl _) (.cells zs32 29)).trans (below_only hg4 (Nat.le_refl _) (by simp)); have HF4 := Lib.hid (HF3.out.trans (hbl.mono HF3.out.size)); have HB4 := Lib.hid (HB3.out.below hbl HB3.out.lt); clear hb4 hg4 hbl)
    | (go_at_call 10; refine (HPA.out w4 HF4.out).mono ?_; rintro e w5 ⟨Ap, cp, rfl, hp5⟩; have HP5 := Lib.hid hp5; have HF5 := Lib.hid (HF4.out.trans (hp5.far.mono HF4.out.size)); have HB5 := Lib.hid (HB4.out.below hp5.far HB4.out.lt); have HX5 := Lib.hid (HX4.out.below hp5.far HX4.out.lt); clear hp5))
  try simp only [Act.put]
  have HDP : Hid (Digs w5 w5.heap.size Ap ps) := OwnD.digs HP5.out.own HPAL.out
  have hcp := (OwnD.form HP5.out.own).1
  have HC1 : Hid (∀ w', Below w5.heap.size w5 w' → Calls Tryd.prog 18 #[.agg (r.map bv).toArray, .agg (lf.map bv).toArray, .int .i64 (n : Int), .int .i64 (ds.length : Int), .slice Ap ps.length cp] w' fun e w'' => e = .returned (.bool true) ∧ Below w'.heap.size w' w'') := fun w' hb => by
    have h := check_any r lf HRL.out HXL.out n ds.length hnl (by omega) ps Ap cp w' (HDP.out.far hb) hcp (HR.out.of_below (HF5.out.trans (hb.mono HF5.out.size)))
    rw [HK1.out] at h
    exact h
  have HC2 : Hid (∀ (w' : World) (B : Option Addr) (e : Nat), Below w5.heap.size w5 w' → Digs w' w'.heap.size B (ps ++ [o]) → ps.length + 1 ≤ e → Calls Tryd.prog 18 #[.agg (r.map bv).toArray, .agg (lf.map bv).toArray, .int .i64 (n : Int), .int .i64 (ds.length : Int), .slice B (ps.length + 1) e] w' fun e w'' => e = .returned (.bool false) ∧ Below w'.heap.size w' w'') := fun w' B e hb hd he => by
    have hl : (ps ++ [o]).length = ps.length + 1 := by simp
    have h := check_any r lf HRL.out HXL.out n ds.length hnl (by omega) (ps ++ [o]) B e w' hd (by rw [hl]; exact he) (HR.out.of_below (HF5.out.trans (hb.mono HF5.out.size)))
    rw [HCL.out r lf (ps ++ [o]) (by rw [hl]; omega), hl] at h
    exact h
  obtain ⟨oa, hoa⟩ : ∃ oa, o1 + n * 32 = oa := ⟨_, rfl⟩
  rw [hoa] at HLF
  have hn1 := dig_list r HRL.out
  have hn2 := dig_list lf HXL.out
  have hn3 := dig_list o ho
  have hund := Tryd.underlying29
  have i1 : (n : Int) < (ds.length : Int) := by omega
  have i0 : (0 : Int) ≤ (n : Int) := by omega
  have hbn := build_none
  have hbo := build_one o ho
  have HS5 : Hid (Below w5.heap.size w5 w5.drew) := (Below.refl _ _).drew
  refine wp_region_held_drew (S := fun w' => Below w5.heap.size w5 w') (by kernel_rfl) HS5.out (fun hHeld => ?_)
  (refine wpAnyH_take (i := 0) (v := .bool true) rfl (by kernel_rfl) (by kernel_rfl) (by kernel_rfl) (fun _ _ _ h => h) (Or.inl ⟨by kernel_rfl, fun w hSw => by go_simp⟩) hHeld ?_)
  (try simp only [Act.put])
  (refine wpAnyH_take (i := 1) (v := .bool false) rfl (by kernel_rfl) (by kernel_rfl) (by kernel_rfl) (fun _ _ _ h => h) (Or.inl ⟨by kernel_rfl, fun w hSw => by go_simp⟩) hHeld ?_)
  (try simp only [Act.put])
  (refine wpAnyH_take (i := 2) (v := .bool false) rfl (by kernel_rfl) (by kernel_rfl) (by kernel_rfl) (fun _ _ _ h => h) (Or.inl ⟨by kernel_rfl, fun w hSw => by go_simp⟩) hHeld ?_)
  (try simp only [Act.put])
  (refine wpAnyH_take (i := 3) (v := .agg (r.map bv).toArray) rfl (by kernel_rfl) (by kernel_rfl) (by kernel_rfl) (fun _ _ _ h => h) (yieldsIf_load_mid (by kernel_rfl) 29 (.tmp 8) rfl w3.heap.size (0) (by kernel_rfl) (r.map bv) _ (fun w h => (HX5.out.below h HX5.out.lt).range) hund rfl hn1) hHeld ?_)
  (try simp only [Act.put])
  (refine wpAnyH_take (i := 4) (v := .slice (some ⟨g1, o1, none⟩) ds.length c) rfl (by kernel_rfl) (by kernel_rfl) (by kernel_rfl) (fun _ _ _ h => h) (Or.inl ⟨by kernel_rfl, fun w hSw => by go_simp⟩) hHeld ?_)
  (try simp only [Act.put])
  (refine wpAnyH_take (i := 5) (v := .int .i64 (n : Int)) rfl (by kernel_rfl) (by kernel_rfl) (by kernel_rfl) (fun _ _ _ h => h) (Or.inl ⟨by kernel_rfl, fun w hSw => by go_simp⟩) hHeld ?_)
  (try simp only [Act.put])
  (refine wpAnyH_take (i := 6) (v := .pointer (some ⟨g1, oa, none⟩)) rfl (by kernel_rfl) (by kernel_rfl) (by kernel_rfl) (fun _ _ _ h => h) (Or.inl ⟨by kernel_rfl, fun w hSw => by go_simp⟩) hHeld ?_)
  (try simp only [Act.put])
  (refine wpAnyH_take (i := 7) (v := .agg (lf.map bv).toArray) rfl (by kernel_rfl) (by kernel_rfl) (by kernel_rfl) (fun _ _ _ h => h) (yieldsIf_load_mid (by kernel_rfl) 29 (.tmp 42) rfl g1 (oa) (by kernel_rfl) (lf.map bv) _ (fun w h => HLF.out w (HF5.out.trans (h.mono HF5.out.size))) hund rfl hn2) hHeld ?_)
  (try simp only [Act.put])
  (refine wpAnyH_take (i := 8) (v := .int .i64 (n : Int)) rfl (by kernel_rfl) (by kernel_rfl) (by kernel_rfl) (fun _ _ _ h => h) (Or.inl ⟨by kernel_rfl, fun w hSw => by go_simp⟩) hHeld ?_)
  (try simp only [Act.put])
  (refine wpAnyH_take (i := 9) (v := .int .i64 (ds.length : Int)) rfl (by kernel_rfl) (by kernel_rfl) (by kernel_rfl) (fun _ _ _ h => h) (Or.inl ⟨by kernel_rfl, fun w hSw => by go_simp⟩) hHeld ?_)
  (try simp only [Act.put])
  (refine wpAnyH_take (i := 10) (v := .slice Ap ps.length cp) rfl (by kernel_rfl) (by kernel_rfl) (by kernel_rfl) (fun _ _ _ h => h) (Or.inl ⟨by kernel_rfl, fun w hSw => by go_simp⟩) hHeld ?_)
  (try simp only [Act.put])
  (refine wpAnyH_ready (rs := [11]) (by decide +kernel) (by simp) (AllReadyH.cons rfl (fun K hK => ?_) AllReadyH.nil))
  go_simp
  (go_at_call 18; (with_reducible refine (HC1.out _ hHeld).mono ?_); rintro e w6 ⟨rfl, hb6⟩)
  have HH6 : Hid (Below w5.heap.size w5 w6) := hHeld.trans (hb6.mono hHeld.size)
  have hP6 := HDP.out.far HH6.out
  have hsz6 := HH6.out.size
  obtain ⟨A1, c1, y1, hap1, hw1⟩ := copy_digs (c := cp) rfl hP6 (by omega)
  obtain ⟨B1, e1, x1, hap1', hx1⟩ := push_dig rfl hw1 (by omega) ho
  have QY1 := Lib.hid (HH6.out.trans (hw1.far.mono hsz6))
  have QX1 := Lib.hid (HH6.out.trans (hx1.far.mono hsz6))
  have hl1 : (ps ++ [o]).length = ps.length + 1 := by simp
  have ho1 := hx1.own
  have ha1 := hx1.all
  rw [hl1] at ho1
  have D1 : Hid (Digs x1 x1.heap.size B1 (ps ++ [o])) := ⟨ha1, sees_own ho1⟩
  have E1 := Lib.hid (OwnD.form ho1).1
  obtain ⟨A2, c2, y2, B2, e2, x2, hap2, hy2, hap2', hd2, hx2, he2⟩ := two_appends (w := w6) (W := (w6.alloc (.cells #[] 29)).alloc (.cells (o.map bv).toArray 29)) (g := w6.heap.size) (b := w6.heap.size + 1) (cp := cp) (((Below.refl _ _).alloc (Nat.le_refl _) _).alloc (by simp) _) ((own_none w6 (Nat.le_refl _)).alloc _) (Box.made_at (by simp) _ _) (by omega) hP6 ho (by omega)
  obtain ⟨A3, c3, y3, B3, e3, x3, hap3, hy3, hap3', hd3, hx3, he3⟩ := two_appends (w := w6) (W := (w6.alloc (.cells (o.map bv).toArray 29)).alloc (.cells #[] 29)) (g := w6.heap.size + 1) (b := w6.heap.size) (cp := cp) (((Below.refl _ _).alloc (Nat.le_refl _) _).alloc (by simp) _) (by have h := own_none (w6.alloc (.cells (o.map bv).toArray 29)) (base := w6.heap.size) (by simp); simpa using h) ((Box.made w6 _ _).alloc _) (by omega) hP6 ho (by omega)
  have QY2 := Lib.hid (HH6.out.trans (hy2.mono hsz6))
  have QX2 := Lib.hid (HH6.out.trans (hx2.mono hsz6))
  have QY3 := Lib.hid (HH6.out.trans (hy3.mono hsz6))
  have QX3 := Lib.hid (HH6.out.trans (hx3.mono hsz6))
  have D2 := Lib.hid hd2
  have D3 := Lib.hid hd3
  have E2 := Lib.hid he2
  have E3 := Lib.hid he3
  clear hP6 hsz6 hw1 hx1 hl1 ho1 ha1 hy2 hd2 hx2 he2 hy3 hd3 hx3 he3
  refine hK.out _ _ HH6.out (fun hHeld => ?_)
  clear hb6
  clear hK K
  (try simp only [Act.put])
  (refine wpAnyH_take (i := 12) (v := .bool false) rfl (by kernel_rfl) (by kernel_rfl) (by kernel_rfl) (fun _ _ _ h => h) (Or.inl ⟨by kernel_rfl, fun w hSw => by go_simp⟩) hHeld ?_)
  (try simp only [Act.put])
  (refine wpAnyH_take (i := 13) (v := .bool false) rfl (by kernel_rfl) (by kernel_rfl) (by kernel_rfl) (fun _ _ _ h => h) (Or.inl ⟨by kernel_rfl, fun w hSw => by go_simp⟩) hHeld ?_)
  (try simp only [Act.put])
  (refine wpAnyH_take (i := 14) (v := .bool false) rfl (by kernel_rfl) (by kernel_rfl) (by kernel_rfl) (fun _ _ _ h => h) (Or.inl ⟨by kernel_rfl, fun w hSw => by go_simp⟩) hHeld ?_)
  (try simp only [Act.put])
  (refine wpAnyH_take (i := 15) (v := .agg (r.map bv).toArray) rfl (by kernel_rfl) (by kernel_rfl) (by kernel_rfl) (fun _ _ _ h => h) (yieldsIf_load_mid (by kernel_rfl) 29 (.tmp 8) rfl w3.heap.size (0) (by kernel_rfl) (r.map bv) _ (fun w h => (HX5.out.below h HX5.out.lt).range) hund rfl hn1) hHeld ?_)
  (try simp only [Act.put])
  (refine wpAnyH_take (i := 16) (v := .slice (some ⟨g1, o1, none⟩) ds.length c) rfl (by kernel_rfl) (by kernel_rfl) (by kernel_rfl) (fun _ _ _ h => h) (Or.inl ⟨by kernel_rfl, fun w hSw => by go_simp⟩) hHeld ?_)
  (try simp only [Act.put])
  (refine wpAnyH_take (i := 17) (v := .int .i64 (n : Int)) rfl (by kernel_rfl) (by kernel_rfl) (by kernel_rfl) (fun _ _ _ h => h) (Or.inl ⟨by kernel_rfl, fun w hSw => by go_simp⟩) hHeld ?_)
  (try simp only [Act.put])
  (refine wpAnyH_take (i := 18) (v := .pointer (some ⟨g1, oa, none⟩)) rfl (by kernel_rfl) (by kernel_rfl) (by kernel_rfl) (fun _ _ _ h => h) (Or.inl ⟨by kernel_rfl, fun w hSw => by go_simp⟩) hHeld ?_)
  (try simp only [Act.put])
  (refine wpAnyH_take (i := 19) (v := .agg (lf.map bv).toArray) rfl (by kernel_rfl) (by kernel_rfl) (by kernel_rfl) (fun _ _ _ h => h) (yieldsIf_load_mid (by kernel_rfl) 29 (.tmp 54) rfl g1 (oa) (by kernel_rfl) (lf.map bv) _ (fun w h => HLF.out w (HF5.out.trans (h.mono HF5.out.size))) hund rfl hn2) hHeld ?_)
  (try simp only [Act.put])
  (refine wpAnyH_take (i := 20) (v := .int .i64 (n : Int)) rfl (by kernel_rfl) (by kernel_rfl) (by kernel_rfl) (fun _ _ _ h => h) (Or.inl ⟨by kernel_rfl, fun w hSw => by go_simp⟩) hHeld ?_)
  (try simp only [Act.put])
  (refine wpAnyH_take (i := 21) (v := .int .i64 (ds.length : Int)) rfl (by kernel_rfl) (by kernel_rfl) (by kernel_rfl) (fun _ _ _ h => h) (Or.inl ⟨by kernel_rfl, fun w hSw => by go_simp⟩) hHeld ?_)
  (try simp only [Act.put])
  (refine wpAnyH_take (i := 23) (v := .slice Ap ps.length cp) rfl (by kernel_rfl) (by kernel_rfl) (by kernel_rfl) (fun _ _ _ h => h) (Or.inl ⟨by kernel_rfl, fun w hSw => by go_simp⟩) hHeld ?_)
  (try simp only [Act.put])
  (refine wpAnyH_take (i := 25) (v := .agg (o.map bv).toArray) rfl (by kernel_rfl) (by kernel_rfl) (by kernel_rfl) (fun _ _ _ h => h) (yieldsIf_load_mid (by kernel_rfl) 29 (.tmp 5) rfl w.heap.size (0) (by kernel_rfl) (o.map bv) _ (fun w h => (HB5.out.below h HB5.out.lt).range) hund rfl hn3) hHeld ?_)
  (try simp only [Act.put])
  all_goals (first | (refine wpAnyH_ready (rs := [22, 26]) (by decide +kernel) (by simp) (AllReadyH.cons rfl (fun K hK => ?_) (AllReadyH.cons rfl (fun K hK => ?_) AllReadyH.nil))) | (refine wpAnyH_ready (rs := [24, 26]) (by decide +kernel) (by simp) (AllReadyH.cons rfl (fun K hK => ?_) (AllReadyH.cons rfl (fun K hK => ?_) AllReadyH.nil))) | (refine wpAnyH_ready (rs := [26]) (by decide +kernel) (by simp) (AllReadyH.cons rfl (fun K hK => ?_) AllReadyH.nil)) | (refine wpAnyH_ready (rs := [22]) (by decide +kernel) (by simp) (AllReadyH.cons rfl (fun K hK => ?_) AllReadyH.nil)) | (refine wpAnyH_ready (rs := [24]) (by decide +kernel) (by simp) (AllReadyH.cons rfl (fun K hK => ?_) AllReadyH.nil)) | (refine wpAnyH_ready (rs := [27]) (by decide +kernel) (by simp) (AllReadyH.cons rfl (fun K hK => ?_) AllReadyH.nil)))
  all_goals go_simp
  all_goals (with_reducible refine hK.out _ _ (by first | exact hHeld.alloc hHeld.size _ | exact QY1.out | exact QX1.out | exact QY2.out | exact QX2.out | exact QY3.out | exact QX3.out) (fun hHeld => ?_))
  all_goals clear hK K
  all_goals (try simp only [Act.put])
  all_goals (first | (refine wpAnyH_ready (rs := [22, 26]) (by decide +kernel) (by simp) (AllReadyH.cons rfl (fun K hK => ?_) (AllReadyH.cons rfl (fun K hK => ?_) AllReadyH.nil))) | (refine wpAnyH_ready (rs := [24, 26]) (by decide +kernel) (by simp) (AllReadyH.cons rfl (fun K hK => ?_) (AllReadyH.cons rfl (fun K hK => ?_) AllReadyH.nil))) | (refine wpAnyH_ready (rs := [26]) (by decide +kernel) (by simp) (AllReadyH.cons rfl (fun K hK => ?_) AllReadyH.nil)) | (refine wpAnyH_ready (rs := [22]) (by decide +kernel) (by simp) (AllReadyH.cons rfl (fun K hK => ?_) AllReadyH.nil)) | (refine wpAnyH_ready (rs := [24]) (by decide +kernel) (by simp) (AllReadyH.cons rfl (fun K hK => ?_) AllReadyH.nil)) | (refine wpAnyH_ready (rs := [27]) (by decide +kernel) (by simp) (AllReadyH.cons rfl (fun K hK => ?_) AllReadyH.nil)))
  all_goals go_simp
  all_goals (with_reducible refine hK.out _ _ (by first | exact hHeld.alloc hHeld.size _ | exact QY1.out | exact QX1.out | exact QY2.out | exact QX2.out | exact QY3.out | exact QX3.out) (fun hHeld => ?_))
  all_goals clear hK K
  all_goals (try simp only [Act.put])
  all_goals (first | (refine wpAnyH_ready (rs := [22, 26]) (by decide +kernel) (by simp) (AllReadyH.cons rfl (fun K hK => ?_) (AllReadyH.cons rfl (fun K hK => ?_) AllReadyH.nil))) | (refine wpAnyH_ready (rs := [24, 26]) (by decide +kernel) (by simp) (AllReadyH.cons rfl (fun K hK => ?_) (AllReadyH.cons rfl (fun K hK => ?_) AllReadyH.nil))) | (refine wpAnyH_ready (rs := [26]) (by decide +kernel) (by simp) (AllReadyH.cons rfl (fun K hK => ?_) AllReadyH.nil)) | (refine wpAnyH_ready (rs := [22]) (by decide +kernel) (by simp) (AllReadyH.cons rfl (fun K hK => ?_) AllReadyH.nil)) | (refine wpAnyH_ready (rs := [24]) (by decide +kernel) (by simp) (AllReadyH.cons rfl (fun K hK => ?_) AllReadyH.nil)) | (refine wpAnyH_ready (rs := [27]) (by decide +kernel) (by simp) (AllReadyH.cons rfl (fun K hK => ?_) AllReadyH.nil)))
  all_goals go_simp
  all_goals (with_reducible refine hK.out _ _ (by first | exact hHeld.alloc hHeld.size _ | exact QY1.out | exact QX1.out | exact QY2.out | exact QX2.out | exact QY3.out | exact QX3.out) (fun hHeld => ?_))
  all_goals clear hK K
  all_goals (try simp only [Act.put])
  all_goals (first | (refine wpAnyH_ready (rs := [22, 26]) (by decide +kernel) (by simp) (AllReadyH.cons rfl (fun K hK => ?_) (AllReadyH.cons rfl (fun K hK => ?_) AllReadyH.nil))) | (refine wpAnyH_ready (rs := [24, 26]) (by decide +kernel) (by simp) (AllReadyH.cons rfl (fun K hK => ?_) (AllReadyH.cons rfl (fun K hK => ?_) AllReadyH.nil))) | (refine wpAnyH_ready (rs := [26]) (by decide +kernel) (by simp) (AllReadyH.cons rfl (fun K hK => ?_) AllReadyH.nil)) | (refine wpAnyH_ready (rs := [22]) (by decide +kernel) (by simp) (AllReadyH.cons rfl (fun K hK => ?_) AllReadyH.nil)) | (refine wpAnyH_ready (rs := [24]) (by decide +kernel) (by simp) (AllReadyH.cons rfl (fun K hK => ?_) AllReadyH.nil)) | (refine wpAnyH_ready (rs := [27]) (by decide +kernel) (by simp) (AllReadyH.cons rfl (fun K hK => ?_) AllReadyH.nil)))
  all_goals go_simp
  all_goals (with_reducible refine hK.out _ _ (by first | exact hHeld.alloc hHeld.size _ | exact QY1.out | exact QX1.out | exact QY2.out | exact QX2.out | exact QY3.out | exact QX3.out) (fun hHeld => ?_))
  all_goals clear hK K
  all_goals (try simp only [Act.put])
  all_goals (refine wpAnyH_ready (rs := [28]) (by decide +kernel) (by simp) (AllReadyH.cons rfl (fun K hK => ?_) AllReadyH.nil))
  all_goals go_simp
  all_goals (go_at_call 18; (first | (with_reducible refine (HC2.out _ _ _ hHeld D1.out E1.out).mono ?_) | (with_reducible refine (HC2.out _ _ _ hHeld D2.out E2.out).mono ?_) | (with_reducible refine (HC2.out _ _ _ hHeld D3.out E3.out).mono ?_)); rintro e w7 ⟨rfl, hb7⟩; refine hK.out _ _ (hHeld.trans (hb7.mono hHeld.size)) (fun hHeld => ?_); clear hb7)
  all_goals clear hK K
  all_goals (try simp only [Act.put])
  all_goals (refine wpAnyH_ready (rs := [29]) (by decide +kernel) (by simp) (AllReadyH.cons rfl (fun K hK => ?_) AllReadyH.nil))
  all_goals go_simp
  all_goals (refine hK.out _ _ hHeld (fun hHeld => ?_))
  all_goals clear hK K
  all_goals (try simp only [Act.put])
  all_goals (refine wpAnyH_done (by kernel_rfl) ?_ _)
  all_goals
    have HS7 : Hid (Below w5.heap.size w5 w7) := hHeld
    have HF7 := Lib.hid (HF5.out.trans (HS7.out.mono HF5.out.size))
    clear hHeld hap1 hap1' hap2 hap2' hap3 hap3' hbn hbo QY1 QX1 QY2 QX2 QY3 QX3 D1 D2 D3 E1 E2 E3 HH6 hund hn1 hn2 hn3
    by_cases hp0 : ps.length = 0
    · have hp0' : decide ((0 : Int) < (ps.length : Int)) = false := decide_eq_false (by omega)
      have hp0n : ¬ 0 < ps.length := by omega
      have hp0m : decide (0 < ps.length) = false := decide_eq_false hp0n
      have HP0 := Lib.hid hp0
      clear hp0
      go_upto_region 10 with fail
      go_quiet (fail)
      have HB8 : Hid (Below w5.heap.size w5 (w7.drewN nq)) := below_drewN HS7.out nq
      generalize w7.drewN nq = w8 at *
      have HF8 := Lib.hid (HF5.out.trans (HB8.out.mono HF5.out.size))
      have kR := fun k os => (HX5.out.below HB8.out HX5.out.lt).load_grown HRL.out k os
      have kO := fun k os => (HB5.out.below HB8.out HB5.out.lt).load_grown ho k os
      have kL : ∀ (k : Nat) (os : Array Obj), (ldDigest (.pointer (some ⟨g1, oa, none⟩))).run Tryd.prog (grow (redrawn w8 k) os) = .ok (.agg (lf.map bv).toArray) (grow (redrawn w8 k) os) := fun k os => range_load (HLF.out _ (HF8.out.trans ((below_regrown w8 k os).mono HF8.out.size))) HXL.out
      have hde := dig_eq o r ho HRL.out
      by_cases hor : o = r
      · rw [decide_eq_true hor] at hde
        clear hor
        go_upto_region 12 with fail
        have qR := fun m => (HX5.out.below (below_drewN HB8.out m) HX5.out.lt).load_digest HRL.out
        have qO := fun m => (HB5.out.below (below_drewN HB8.out m) HB5.out.lt).load_digest ho
        clear kR kO kL
        go_quiet (fail)
        have HF9 := Lib.hid (below_drewN HF8.out nq)
        clear qR qO hde
        go_wp2
        go_ret
        exact ⟨rfl, HF9.out⟩
      · rw [decide_eq_false hor] at hde
        have cK := fun (k : Nat) (os : Array Obj) => Calls.regrown_of (check_any o lf ho HXL.out n ds.length hnl (by omega) ps Ap cp (grow (redrawn w8 k) os) ((HDP.out.far HB8.out).far (below_regrown w8 k os)) hcp (HR.out.of_below (HF8.out.trans ((below_regrown w8 k os).mono HF8.out.size))))
        simp only [HCO.out hor] at cK
        have CK := Lib.hid cK
        clear hor cK
        go_upto_region 12 with fail
        refine wp_region_quiet_below (by kernel_rfl) (by kernel_rfl) ?_
        repeat (quiet_step ((go_at_call 18; with_reducible exact CK.out _ _)))
        refine wpQuiet_nil ?_
        intro _ hw'
        obtain ⟨⟨dq, osq⟩, hw''⟩ := hw'
        subst hw''
        clear kR kO kL hde
        go_wp2
        go_ret
        exact ⟨rfl, HF8.out.trans ((below_regrown w8 dq osq).mono HF8.out.size)⟩
    · have hp0' : decide ((0 : Int) < (ps.length : Int)) = true := decide_eq_true (by omega)
      have hp0n : 0 < ps.length := by omega
      have hp0m : decide (0 < ps.length) = true := decide_eq_true hp0n
      have cK := fun (k : Nat) (os : Array Obj) => Calls.regrown_of (check_any r lf HRL.out HXL.out n ds.length hnl (by omega) (ps.take (ps.length - 1)) Ap cp (grow (redrawn w7 k) os) (((HDP.out.far HS7.out).far (below_regrown w7 k os)).take _) (by rw [List.length_take]; omega) (HR.out.of_below (HF7.out.trans ((below_regrown w7 k os).mono HF7.out.size))))
      have hlt : (ps.take (ps.length - 1)).length = ps.length - 1 := by rw [List.length_take]; omega
      simp only [HCL.out r lf (ps.take (ps.length - 1)) (by rw [hlt]; omega), hlt] at cK
      have CK0 := Lib.hid cK
      have hsl := digs_upto (A := Ap) (n := ps.length) (c := cp) (i := ps.length - 1) (by omega)
      rw [show ((ps.length - 1 : Nat) : Int) = (ps.length : Int) - 1 by omega] at hsl
      have kR := fun k os => (HX5.out.below HS7.out HX5.out.lt).load_grown HRL.out k os
      have kL : ∀ (k : Nat) (os : Array Obj), (ldDigest (.pointer (some ⟨g1, oa, none⟩))).run Tryd.prog (grow (redrawn w7 k) os) = .ok (.agg (lf.map bv).toArray) (grow (redrawn w7 k) os) := fun k os => range_load (HLF.out _ (HF7.out.trans ((below_regrown w7 k os).mono HF7.out.size))) HXL.out
      have tw : IntKind.i64.wrap ((ps.length : Int) - 1) = (ps.length : Int) - 1 := IntWalk.i64_in _ (by omega)
      clear cK hlt
      go_upto_region 10 with fail
      refine wp_region_quiet_below (by kernel_rfl) (by kernel_rfl) ?_
      repeat (quiet_step ((go_at_call 18; with_reducible exact CK0.out _ _)))
      refine wpQuiet_nil ?_
      intro w8 hw'
      have HB8 : Hid (Below w5.heap.size w5 w8) := by
        obtain ⟨p8, hw''⟩ := hw'
        rw [hw'']
        exact HS7.out.trans ((below_regrown w7 p8.d p8.os).mono HS7.out.size)
      clear hw'
      have HF8 := Lib.hid (HF5.out.trans (HB8.out.mono HF5.out.size))
      clear kR kL hsl tw
      have kR := fun k os => (HX5.out.below HB8.out HX5.out.lt).load_grown HRL.out k os
      have kO := fun k os => (HB5.out.below HB8.out HB5.out.lt).load_grown ho k os
      have kL : ∀ (k : Nat) (os : Array Obj), (ldDigest (.pointer (some ⟨g1, oa, none⟩))).run Tryd.prog (grow (redrawn w8 k) os) = .ok (.agg (lf.map bv).toArray) (grow (redrawn w8 k) os) := fun k os => range_load (HLF.out _ (HF8.out.trans ((below_regrown w8 k os).mono HF8.out.size))) HXL.out
      have hde := dig_eq o r ho HRL.out
      by_cases hor : o = r
      · rw [decide_eq_true hor] at hde
        clear hor
        go_upto_region 12 with fail
        have qR := fun m => (HX5.out.below (below_drewN HB8.out m) HX5.out.lt).load_digest HRL.out
        have qO := fun m => (HB5.out.below (below_drewN HB8.out m) HB5.out.lt).load_digest ho
        clear kR kO kL
        go_quiet (fail)
        have HF9 := Lib.hid (below_drewN HF8.out nq)
        clear qR qO hde
        go_wp2
        go_ret
        exact ⟨rfl, HF9.out⟩
      · rw [decide_eq_false hor] at hde
        have cK := fun (k : Nat) (os : Array Obj) => Calls.regrown_of (check_any o lf ho HXL.out n ds.length hnl (by omega) ps Ap cp (grow (redrawn w8 k) os) ((HDP.out.far HB8.out).far (below_regrown w8 k os)) hcp (HR.out.of_below (HF8.out.trans ((below_regrown w8 k os).mono HF8.out.size))))
        simp only [HCO.out hor] at cK
        have CK := Lib.hid cK
        clear hor cK
        go_upto_region 12 with fail
        refine wp_region_quiet_below (by kernel_rfl) (by kernel_rfl) ?_
        repeat (quiet_step ((go_at_call 18; with_reducible exact CK.out _ _)))
        refine wpQuiet_nil ?_
        intro _ hw'
        obtain ⟨⟨dq, osq⟩, hw''⟩ := hw'
        subst hw''
        clear kR kO kL hde
        go_wp2
        go_ret
        exact ⟨rfl, HF8.out.trans ((below_regrown w8 dq osq).mono HF8.out.size)⟩
end Go.Proofs.YtkpekglpknbodaaDoor
