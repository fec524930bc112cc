/-
  KeysWrite: the walk.
-/
import Derived.Test.YtkmmhkoommbkpaaDoorKAlive
import Derived.Test.YtkmmhkoommbkpaaDoorKSame
import Derived.Test.YtkmmhkoommbkpaaDoorKReadNil
import Derived.Test.YtkmmhkoommbkpaaDoorKRRead
import Derived.Test.YtkmmhkoommbkpaaDoorKWrite
import Derived.Test.YtkmmhkoommbkpaaDoorKRWrite
import Derived.Test.YtkmmhkoommbkpaaDoorOC
import Derived.Deep.RegionHeld3
namespace Go.Proofs.YtkmmhkoommbkpaaDoor
open Go.RowKit

attribute [local go_sem ↓] ldDigest_def

theorem reader_nobyte (l : List UInt8) (b : Bool) : NoByte #[str l, .bool b] := by
  intro j v hv q e
  have hm := Array.mem_of_getElem? hv
  simp at hm
  rcases hm with rfl | rfl <;> simp [bv, str] at e
theorem Rd.past {w w' : World} {a m : Nat} {l l2 : List UInt8} {bad bad2 : Bool} (h : Rd w a l bad) (hr : RRd w m l2 bad2) (hne : a ≠ m) (hg : w.grownBy w' (some m)) : Rd w' a l bad := by
  obtain ⟨A, c, h1, h2, h3, h4⟩ := h
  refine ⟨A, c, h1.grown hg (fun e => hne (by injection e)), h2, h3, ?_⟩
  rcases h4 with h4 | ⟨g, o, rfl, hga, hc⟩
  · exact .inl h4
  · rcases l with _ | ⟨b0, r⟩
    · exact .inl rfl
    · have hgm : g ≠ m := by
        rintro rfl
        have h0 := hc 0 (bv b0) rfl
        have hb : Box w g 58 #[str l2, .bool bad2] := hr
        rw [hb.cell] at h0
        exact reader_nobyte l2 bad2 _ _ h0 _ rfl
      refine .inr ⟨g, o, rfl, hga, fun j u hu => ?_⟩
      have hj := hc j u hu
      have hlt := World.block_lt_of_cell? w _ hj
      exact (World.cell?_of_block (hg.block g hlt (fun e => hgm (by injection e)))).trans hj
theorem Wr.past {w w' : World} {base a r : Nat} {bs : List UInt8} {t : TypeId} {cs : Array Value} (h : Wr w base a bs) (hr : Box w r t cs) (h1 : 5 ≠ t) (h2 : 49 ≠ t) (hg : w.grownBy w' (some r)) : Wr w' base a bs := by
  obtain ⟨hb, hs, v, hx, ho⟩ := h
  exact ⟨hb, Nat.le_trans hs hg.size, v, hx.grown hg (fun e => Box.apart hx hr h2 (by injection e)), World.ownsRow.kept ho hg (.inr (Box.own_ne hr ho h1))⟩
theorem Rd.box {w : World} {a : Nat} {l : List UInt8} {bad : Bool} (h : Rd w a l bad) : ∃ cs, Box w a 89 cs := by
  obtain ⟨A, c, h1, _⟩ := h
  exact ⟨_, h1⟩
theorem rdX_le (l : List UInt8) (b : Bool) : (rdX l b).length ≤ 1099511627776 := by
  unfold rdX
  split
  · simp
  · rw [dgs_len]
    decide
theorem rdY_le (l : List UInt8) (b : Bool) : (rdY l b).length ≤ 1099511627776 := by
  unfold rdY
  split
  · simp
  · rw [dgs_len]
    decide
theorem rdP_le (l : List UInt8) (b : Bool) : (rdP l b).length ≤ 1099511627776 := by
  unfold rdP
  split
  · simp
  · rw [dgs_len]
    have := rdC_le l b
    omega
/-- Both readers stand at the same bytes. -/
structure TwW (w7 : World) (a m : Nat) (l : List UInt8) (w : World) : Prop where
  rd : Rd w a l false
  rr : RRd w m l false
  ne : a ≠ m
  ha : w7.heap.size ≤ a
  hm : w7.heap.size ≤ m
  far : Below w7.heap.size w7 w

set_option maxRecDepth 100000 in
set_option maxHeartbeats 4000000 in
theorem kwrites_walk (n : Int) (hn : -9223372036854775808 ≤ n ∧ n ≤ 9223372036854775807) (X Y P : List (List UInt8)) (A B C : Option Addr) (x y z : Nat) (l : List UInt8) (AL : Option Addr) (cl : Nat) (w : World) (hA : Digs w w.heap.size A X) (hB : Digs w w.heap.size B Y) (hC : Digs w w.heap.size C P) (hS : Sees w w.heap.size AL (l.map bv)) (hR : Roots w) :
    Calls Tryd.prog 5 #[.agg (sigV n A X.length x B Y.length y C P.length z), .slice AL l.length cl] w fun e w' => e = .returned (.bool true) ∧ Below w.heap.size w w' := by
  have HG : Hid (Box (w.alloc (.cells (sigV n A X.length x B Y.length y C P.length z) 30)) w.heap.size 30 (sigV n A X.length x B Y.length y C P.length z)) := Box.made _ _ _
  have HF : Hid (Below w.heap.size w (w.alloc (.cells (sigV n A X.length x B Y.length y C P.length z) 30))) := (Below.refl _ _).alloc (Nat.le_refl _) _
  have HAL := Lib.hid (kalive_any _ (hR.of_below HF.out))
  have HGT : Hid (∀ w', Calls Tryd.prog 15 #[.agg (sigV n A X.length x B Y.length y C P.length z)] w' fun e w'' => e = .returned (.bool (decide (200 < X.length) || decide (200 < Y.length) || decide (200 < P.length))) ∧ Below w'.heap.size w' w'') := fun w' => kgreat_any n X.length Y.length P.length A B C x y z w'
  have HDA := Lib.hid (hA.far HF.out)
  have HDB := Lib.hid (hB.far HF.out)
  have HDC := Lib.hid (hC.far HF.out)
  have HSL := Lib.hid ((hS.below HF.out).more HF.out.size)
  have HLG := Lib.hid (sig_list n A X.length x B Y.length y C P.length z)
  have HN := Lib.hid hn
  have hu3 := Tryd.underlying30
  clear hA hB hC hS hR hn
  go_enter Tryd.func5, Tryd.ntmps5
  go_upto_region 1 with fail
  change Code.wp _ _ _ _ (w.alloc (.cells (sigV n A X.length x B Y.length y C P.length z) 30))
  generalize w.alloc (.cells (sigV n A X.length x B Y.length y C P.length z) 30) = w1 at *
  obtain ⟨gr, hgr⟩ : ∃ gr, (decide (200 < X.length) || decide (200 < Y.length) || decide (200 < P.length)) = gr := ⟨_, rfl⟩
  rw [hgr] at HGT
  rcases gr with _ | _
  case true =>
    clear hgr
    go_wp2_with (first
      | (go_at_call 7; (with_reducible refine (HAL.out).mono ?_); rintro e w2 ⟨rfl, hb⟩; have HB2 := Lib.hid hb; clear hb)
      | ((with_reducible show wpList _ _ _ ((⟨some 14, _, _, _, _, _⟩ : Oper) :: _) _ _); refine wpList_load_mid rfl 30 (.tmp 2) rfl w.heap.size 0 rfl (sigV n A X.length x B Y.length y C P.length z).toList _ (HG.out.below HB2.out HG.out.lt).range hu3 rfl HLG.out ?_)
      | (go_at_call 15; (with_reducible refine (HGT.out _).mono ?_); rintro e w3 ⟨rfl, hb⟩; have HB3 := Lib.hid (HB2.out.trans (hb.mono HB2.out.size)); clear hb))
    go_ret
    exact ⟨rfl, HF.out.trans (HB3.out.mono HF.out.size)⟩
  have HBD : Hid (X.length ≤ 200 ∧ Y.length ≤ 200 ∧ P.length ≤ 200) := by
    show _ ∧ _
    simp at hgr
    omega
  clear hgr
  by_cases hlong : 8192 < l.length
  · have el : decide ((8192 : Int) < (l.length : Int)) = true := decide_eq_true (by omega)
    go_wp2_with (first
      | (go_at_call 7; (with_reducible refine (HAL.out).mono ?_); rintro e w2 ⟨rfl, hb⟩; have HB2 := Lib.hid hb; clear hb)
      | ((with_reducible show wpList _ _ _ ((⟨some 14, _, _, _, _, _⟩ : Oper) :: _) _ _); refine wpList_load_mid rfl 30 (.tmp 2) rfl w.heap.size 0 rfl (sigV n A X.length x B Y.length y C P.length z).toList _ (HG.out.below HB2.out HG.out.lt).range hu3 rfl HLG.out ?_)
      | (go_at_call 15; (with_reducible refine (HGT.out _).mono ?_); rintro e w3 ⟨rfl, hb⟩; have HB3 := Lib.hid (HB2.out.trans (hb.mono HB2.out.size)); clear hb))
    go_ret
    exact ⟨rfl, HF.out.trans (HB3.out.mono HF.out.size)⟩
  have el : decide ((8192 : Int) < (l.length : Int)) = false := decide_eq_false (by omega)
  have HLL : Hid (l.length ≤ 8192) := by
    show _ ≤ _
    omega
  go_upto_region 6 with (first
    | (go_at_call 7; (with_reducible refine (HAL.out).mono ?_); rintro e w2 ⟨rfl, hb⟩; have HB2 := Lib.hid hb; clear hb)
    | ((with_reducible show wpList _ _ _ ((⟨some 14, _, _, _, _, _⟩ : Oper) :: _) _ _); refine wpList_load_mid rfl 30 (.tmp 2) rfl w.heap.size 0 rfl (sigV n A X.length x B Y.length y C P.length z).toList _ (HG.out.below HB2.out HG.out.lt).range hu3 rfl HLG.out ?_)
    | (go_at_call 15; (with_reducible refine (HGT.out _).mono ?_); rintro e w3 ⟨rfl, hb⟩; have HB3 := Lib.hid (HB2.out.trans (hb.mono HB2.out.size)); clear hb))
  clear HAL HGT el hlong
  have HW4 : Hid (Wr (w3.alloc (.cells #[.slice none 0 0] 49)) w3.heap.size w3.heap.size []) := wr_new (Box.made _ _ _) (Nat.le_refl _)
  have HB34 : Hid (Below w3.heap.size w3 (w3.alloc (.cells #[.slice none 0 0] 49))) := (Below.refl _ _).alloc (Nat.le_refl _) _
  have HWR : Hid (Calls Tryd.prog 18 #[.pointer (some ⟨w3.heap.size, 0, none⟩), .agg (sigV n A X.length x B Y.length y C P.length z)] (w3.alloc (.cells #[.slice none 0 0] 49)) (KWriteIs w3.heap.size w3.heap.size [] n X Y P (w3.alloc (.cells #[.slice none 0 0] 49)))) := kwrite_any w3.heap.size w3.heap.size [] n X Y P A B C x y z (by simp) _ HW4.out ((HDA.out.far HB3.out).below HB34.out) ((HDB.out.far HB3.out).below HB34.out) ((HDC.out.far HB3.out).below HB34.out)
  have HB14 := Lib.hid (HB3.out.trans (HB34.out.mono HB3.out.size))
  have HSZ3 : Hid (w1.heap.size ≤ w3.heap.size) := HB3.out.size
  clear HW4
  generalize w3.alloc (.cells #[.slice none 0 0] 49) = w4 at *
  obtain ⟨ft, hft⟩ : ∃ ft, fitsT X Y P = ft := ⟨_, rfl⟩
  have HFT : Hid (fitsT X Y P = ft) := hft
  obtain ⟨T, hT⟩ : ∃ T : List UInt8, (if ft = true then sigBytes n X Y P else []) = T := ⟨_, rfl⟩
  have HT : Hid ((if ft = true then sigBytes n X Y P else []) = T) := hT
  have HTL : Hid (T.length ≤ 2256) := by
    show _ ≤ _
    rw [← hT]
    cases ft with
    | false => simp
    | true =>
      rw [if_pos rfl]
      exact sig_len HDA.out.all HDB.out.all HDC.out.all hft
  have HRW : Hid (∀ w', Below w1.heap.size w1 w' → Calls Tryd.prog 19 #[.agg (sigV n A X.length x B Y.length y C P.length z)] w' fun e w'' => e = .returned (.tuple #[str T, .bool ft]) ∧ Below w'.heap.size w' w'') := fun w' hb => by
    rw [← hT]
    cases ft with
    | false => exact rkwrite_not n X Y P A B C x y z hft w'
    | true =>
      rw [if_pos rfl]
      exact rkwrite_any n HN.out X Y P A B C x y z hft w' (HDA.out.far hb) (HDB.out.far hb) (HDC.out.far hb)
  clear hft hT
  go_upto_region 8 with (first
    | ((with_reducible show wpList _ _ _ ((⟨some 24, _, _, _, _, _⟩ : Oper) :: _) _ _); refine wpList_load_mid rfl 30 (.tmp 2) rfl w.heap.size 0 rfl (sigV n A X.length x B Y.length y C P.length z).toList _ (HG.out.below HB14.out HG.out.lt).range hu3 rfl HLG.out ?_)
    | (go_at_call 18; (with_reducible refine (HWR.out).mono ?_); rintro e w5 ⟨rfl, hw, hb⟩; have HW5 : Hid (Wr w5 w3.heap.size w3.heap.size T) := (by rw [HFT.out, HT.out, List.nil_append] at hw; exact hw); have HB5 := Lib.hid (HB14.out.trans (hb.mono HSZ3.out)); clear hw hb)
    | ((with_reducible show wpList _ _ _ ((⟨some 27, _, _, _, _, _⟩ : Oper) :: _) _ _); refine wpList_load_mid rfl 30 (.tmp 2) rfl w.heap.size 0 rfl (sigV n A X.length x B Y.length y C P.length z).toList _ (HG.out.below HB5.out HG.out.lt).range hu3 rfl HLG.out ?_)
    | (go_at_call 19; (with_reducible refine (HRW.out _ HB5.out).mono ?_); rintro e w6 ⟨rfl, hb⟩; have HW6 := Lib.hid (HW5.out.below_size hb); have HB6 := Lib.hid (HB5.out.trans (hb.mono HB5.out.size)); clear hb))
  rw [HFT.out]
  clear HWR HRW HW5 HB5 HB14 HB34
  have HBY := Lib.hid (bytes_any w3.heap.size w3.heap.size T w6 HW6.out (by have := HTL.out; omega))
  go_upto_region 10 with (go_at_call 20; (with_reducible refine (HBY.out).mono ?_); rintro e w7 ⟨A7, c7, rfl, _, _, hsee, hb⟩; have hcv := convert_sees (P := Tryd.prog) 46 5 9 Tryd.underlying46 Tryd.underlying5 Tryd.underlying9 hsee c7; have HW7 := Lib.hid (HW6.out.below_size hb); have HB7 := Lib.hid (HB6.out.trans (hb.mono HB6.out.size)); clear hsee hb)
  clear hcv HBY HW6 HB6
  have HSL7 := Lib.hid ((HSL.out.below HB7.out).more HB7.out.size)
  have HCV : Hid (∀ w', Below w7.heap.size w7 w' → (convert 46 9 (.slice AL l.length cl)).run Tryd.prog w' = .ok (str l) w') := fun w' hb => convert_sees (P := Tryd.prog) 46 5 9 Tryd.underlying46 Tryd.underlying5 Tryd.underlying9 ((HSL7.out.below hb).more hb.size) cl
  have HRD : Hid (∀ w', Below w7.heap.size w7 w' → Calls Tryd.prog 21 #[.slice AL l.length cl] w' fun e w'' => ∃ a, e = .returned (.pointer (some ⟨a, 0, none⟩)) ∧ Rd w'' a l false ∧ w'.heap.size ≤ a ∧ Below w'.heap.size w' w'') := fun w' hb => read_any w'.heap.size AL l cl w' ((HSL7.out.below hb).more hb.size) (Nat.le_refl _) (by have := HLL.out; omega)
  go_cut [9, 10, 41, 42, 43, 44, 45, 46] (fun r m _ _ _ _ _ _ wx => ∃ a m', r = .pointer (some ⟨a, 0, none⟩) ∧ m = .pointer (some ⟨m', 0, none⟩) ∧ Hid (TwW w7 a m' l wx))
  case first =>
    have HB7d : Hid (Below w7.heap.size w7 w7.drew) := (Below.refl _ _).drew
    refine wp_region_held_drew (S := fun w' => Below w7.heap.size w7 w') (by kernel_rfl) HB7d.out (fun hS => ?_)
    clear HB7d
    (refine wpAnyH_take (i := 0) (v := .slice AL l.length cl) rfl (by kernel_rfl) (by kernel_rfl) (by kernel_rfl) (fun _ _ _ h => h) (Or.inl ⟨by kernel_rfl, fun w hSw => by go_simp⟩) hS ?_)
    (try simp only [Act.put])
    (refine wpAnyH_take (i := 2) (v := .slice AL l.length cl) rfl (by kernel_rfl) (by kernel_rfl) (by kernel_rfl) (fun _ _ _ h => h) (Or.inl ⟨by kernel_rfl, fun w hSw => by go_simp⟩) hS ?_)
    (try simp only [Act.put])
    (refine wpAnyH_take (i := 3) (v := (str l)) rfl (by kernel_rfl) (by kernel_rfl) (by kernel_rfl) (fun _ _ _ h => h) (Or.inl ⟨by kernel_rfl, fun w hSw => by have hc := HCV.out w hSw; go_simp⟩) hS ?_)
    (try simp only [Act.put])
    (refine wpAnyH_take (i := 4) (v := .agg #[str l, .bool false]) rfl (by kernel_rfl) (by kernel_rfl) (by kernel_rfl) (fun _ _ _ h => h) (Or.inl ⟨by kernel_rfl, fun w hSw => by go_simp⟩) hS ?_)
    (try simp only [Act.put])
    refine wpAnyH_ready (rs := [1, 5]) (by decide +kernel) (by simp) (AllReadyH.cons rfl (fun K hK => ?_) (AllReadyH.cons rfl (fun K hK => ?_) AllReadyH.nil))
    · go_simp
      (go_at_call 21; (with_reducible refine (HRD.out _ hS).mono ?_); rintro e w9 ⟨a9, rfl, hr, hge, hb⟩)
      have HR9 := Lib.hid hr
      have HB9 := Lib.hid hb
      have HE9 := Lib.hid hge
      clear hr hb hge
      refine hK.out _ _ (hS.trans (HB9.out.mono hS.size)) (fun hS => ?_)
      clear hK K
      (try simp only [Act.put])
      (refine wpAnyH_take (i := 6) (v := .pointer (some ⟨a9, 0, none⟩)) rfl (by kernel_rfl) (by kernel_rfl) (by kernel_rfl) (fun _ _ _ h => h) (Or.inl ⟨by kernel_rfl, fun w hSw => by go_simp⟩) hS ?_)
      (try simp only [Act.put])
      refine wpAnyH_ready (rs := [5]) (by decide +kernel) (by simp) (AllReadyH.cons rfl (fun K hK => ?_) AllReadyH.nil)
      go_simp
      have hBX := hS.alloc hS.size (.cells #[str l, .bool false] 58)
      refine hK.out _ _ (hBX) (fun hS => ?_)
      clear hK K
      (try simp only [Act.put])
      refine wpAnyH_ready (rs := [7]) (by decide +kernel) (by simp) (AllReadyH.cons rfl (fun K hK => ?_) AllReadyH.nil)
      go_simp
      refine hK.out _ _ (hS) (fun hS => ?_)
      clear hK K
      (try simp only [Act.put])
      refine wpAnyH_done (by kernel_rfl) ?_ _
      have HSS := Lib.hid hS
      clear hS hBX
      go_wp2_with fail
      go_meet
      have h9 := HR9.out.lt
      have hs9 := HB9.out.size
      exact ⟨_, _, rfl, rfl, ⟨HR9.out.alloc _, Box.made _ _ _, Nat.ne_of_lt h9, HE9.out, hs9, HSS.out⟩⟩
    · go_simp
      have hBX := hS.alloc hS.size (.cells #[str l, .bool false] 58)
      refine hK.out _ _ (hBX) (fun hS => ?_)
      clear hK K
      (try simp only [Act.put])
      refine wpAnyH_ready (rs := [1]) (by decide +kernel) (by simp) (AllReadyH.cons rfl (fun K hK => ?_) AllReadyH.nil)
      go_simp
      (go_at_call 21; (with_reducible refine (HRD.out _ hS).mono ?_); rintro e w9 ⟨a9, rfl, hr, hge, hb⟩)
      have HR9 := Lib.hid hr
      have HB9 := Lib.hid hb
      have HE9 := Lib.hid hge
      clear hr hb hge
      refine hK.out _ _ (hS.trans (HB9.out.mono hS.size)) (fun hS => ?_)
      clear hK K
      (try simp only [Act.put])
      refine wpAnyH_ready (rs := [6]) (by decide +kernel) (by simp) (AllReadyH.cons rfl (fun K hK => ?_) AllReadyH.nil)
      go_simp
      refine hK.out _ _ (hS) (fun hS => ?_)
      clear hK K
      (try simp only [Act.put])
      refine wpAnyH_ready (rs := [7]) (by decide +kernel) (by simp) (AllReadyH.cons rfl (fun K hK => ?_) AllReadyH.nil)
      go_simp
      refine hK.out _ _ (hS) (fun hS => ?_)
      clear hK K
      (try simp only [Act.put])
      refine wpAnyH_done (by kernel_rfl) ?_ _
      have HSS := Lib.hid hS
      clear hS hBX
      go_wp2_with fail
      go_meet
      have hx : Box (w7.drew.alloc (.cells #[str l, .bool false] 58)) w7.drew.heap.size 58 #[str l, .bool false] := Box.made _ _ _
      have hl := hx.lt
      have hge := HE9.out
      exact ⟨_, _, rfl, rfl, ⟨HR9.out, hx.below HB9.out hl, (Nat.ne_of_lt (Nat.lt_of_lt_of_le hl hge)).symm, Nat.le_trans (Nat.le_of_lt hl) hge, Nat.le_refl _, HSS.out⟩⟩

  case rest =>
    obtain ⟨a, m, rfl, rfl, HTW⟩ := hcut
    clear HCV HSL7 HSL HRD HLL
    have HKR := Lib.hid (kread_any a l false wc HTW.out.rd)
    obtain ⟨fl, fb⟩ : ∃ p : List UInt8 × Bool, p = rdF l false := ⟨_, rfl⟩
    have HBB : Hid (Below w7.heap.size w7 wc) := HTW.out.far
    go_upto_region 13 with (first
      | (go_at_call_of 22 (Value.pointer (some ⟨a, 0, none⟩)); (with_reducible refine (HKR.out).mono ?_); rintro e w20 ⟨A1, B1, C1, x1, y1, z1, rfl, d1, d2, d3, _, hr, hg⟩; have HD20 := Lib.hid (And.intro d1 (And.intro d2 d3)); have HR20 := Lib.hid hr; have HG20 := Lib.hid hg; have HRR20 : Hid (RRd w20 m l false) := HTW.out.rr.other hg (fun e => HTW.out.ne e.symm); have HRK := Lib.hid (rkread_any m l false w20 HRR20.out); clear d1 d2 d3 hr hg)
      | (go_at_call 23; (with_reducible refine (HRK.out).mono ?_); rintro e w21 ⟨A2, B2, C2, x2, y2, z2, rfl, d1, d2, d3, hr, hg⟩; have HR21 := Lib.hid (HR20.out.past HRR20.out HTW.out.ne hg); have HRR21 := Lib.hid hr; have HG21 := Lib.hid hg; have HSM := Lib.hid (ksame_any (rdN l false) (rdN l false) (rdX l false) (rdY l false) (rdP l false) (rdX l false) (rdY l false) (rdP l false) A1 B1 C1 A2 B2 C2 x1 y1 z1 x2 y2 z2 w21 (HD20.out.1.aside HRR20.out (reader_nobyte _ _) hg) (HD20.out.2.1.aside HRR20.out (reader_nobyte _ _) hg) (HD20.out.2.2.aside HRR20.out (reader_nobyte _ _) hg) d1 d2 d3 (rdX_le _ _) (rdY_le _ _) (rdP_le _ _)); clear d1 d2 d3 hr hg)
      | (go_at_call 13; (with_reducible refine (HSM.out).mono ?_); rintro e w22 ⟨rfl, hb⟩; have HB22 := Lib.hid hb; have HGA := Lib.hid (good_any a _ _ w22 (HR21.out.below hb HR21.out.lt)); have HGM := Lib.hid (rgood_any m _ _ w22 (HRR21.out.below hb HRR21.out.lt)); have HEA := Lib.hid (rdend_any a _ _ w22 (HR21.out.below hb HR21.out.lt)); have HEM := Lib.hid (rend_any m _ _ w22 (HRR21.out.below hb HRR21.out.lt)); clear hb)
      | (go_at_call 24; (with_reducible refine (HGA.out).mono ?_); rintro e w23 ⟨rfl, rfl⟩)
      | (go_at_call 25; (with_reducible refine (HGM.out).mono ?_); rintro e w24 ⟨rfl, rfl⟩)
      | (go_at_call 26; (with_reducible refine (HEA.out).mono ?_); rintro e w25 ⟨rfl, rfl⟩)
      | (go_at_call 27; (with_reducible refine (HEM.out).mono ?_); rintro e w26 ⟨rfl, rfl⟩))
    have HWC := Lib.hid (HW7.out.below_size HTW.out.far)
    obtain ⟨csr, hcsr⟩ := HTW.out.rd.box
    have HW20 := Lib.hid (HWC.out.past hcsr (by decide) (by decide) HG20.out)
    have HW21 := Lib.hid (HW20.out.past HRR20.out (by decide) (by decide) HG21.out)
    have HW22 := Lib.hid (HW21.out.below_size HB22.out)
    have HB1C := Lib.hid (HB7.out.trans (HTW.out.far.mono HB7.out.size))
    have HB120 := Lib.hid (HB1C.out.trans (below_only HG20.out (Nat.le_trans HB7.out.size HTW.out.ha) HB1C.out.size))
    have HB121 := Lib.hid (HB120.out.trans (below_only HG21.out (Nat.le_trans HB7.out.size HTW.out.hm) HB120.out.size))
    have HB122 := Lib.hid (HB121.out.trans (HB22.out.mono HB121.out.size))
    clear HKR HTW HBB HD20 HR20 HG20 HRR20 HRK HR21 HRR21 HG21 HSM HB22 HGA HGM HEA HEM HWC hcsr HW20 HW21 HB1C HB120 HB121 HW7 HB7
    have HBY2 := Lib.hid (bytes_any w3.heap.size w3.heap.size T w22 HW22.out (by have := HTL.out; omega))
    go_upto_region 15 with (first
      | (go_at_call 20; (with_reducible refine (HBY2.out).mono ?_); rintro e w30 ⟨A8, c8, rfl, _, _, hsee, hb⟩; have HB30 := Lib.hid (HB122.out.trans (hb.mono HB122.out.size)); have HRD2 := Lib.hid (read_any w30.heap.size A8 T c8 w30 hsee (Nat.le_refl _) (by have := HTL.out; omega)); clear hsee hb)
      | (go_at_call 21; (with_reducible refine (HRD2.out).mono ?_); rintro e w31 ⟨r2, rfl, hr, hge, hb⟩; have HR31 := Lib.hid hr; have HE31 := Lib.hid hge; have HB31 := Lib.hid (HB30.out.trans (hb.mono HB30.out.size)); clear hr hge hb))
    have HR2G : Hid (w1.heap.size ≤ r2) := Nat.le_trans HB30.out.size HE31.out
    clear HBY2 HRD2 HE31 HB30 HW22 HB122
    have HR31d : Hid (Rd w31.drew r2 T false) := HR31.out.below (Below.refl w31.heap.size w31).drew HR31.out.lt
    have HB31d : Hid (Below w1.heap.size w1 w31.drew) := HB31.out.drew
    have hq3 := HLG.out
    have HSR : Hid (∀ w', Below w1.heap.size w1 w' → w'.rangeAt w.heap.size 0 (sigV n A X.length x B Y.length y C P.length z).toList) := fun w' hb => Box.range (HG.out.below hb HG.out.lt)
    refine wp_region_held_drew (S := fun w' => Below w1.heap.size w1 w') (by kernel_rfl) HB31d.out (fun hS => ?_)
    clear HB31d HR31 HB31
    generalize w31.drew = w32 at *
    rcases ft with _ | _
    · (refine wpAnyH_take (i := 0) (v := .bool false) rfl (by kernel_rfl) (by kernel_rfl) (by kernel_rfl) (fun _ _ _ h => h) (Or.inl ⟨by kernel_rfl, fun w hSw => by go_simp⟩) hS ?_)
      (try simp only [Act.put])
      (refine wpAnyH_take (i := 1) (v := .bool true) rfl (by kernel_rfl) (by kernel_rfl) (by kernel_rfl) (fun _ _ _ h => h) (Or.inl ⟨by kernel_rfl, fun w hSw => by go_simp⟩) hS ?_)
      (try simp only [Act.put])
      (refine wpAnyH_take (i := 2) (v := .bool true) rfl (by kernel_rfl) (by kernel_rfl) (by kernel_rfl) (fun _ _ _ h => h) (Or.inl ⟨by kernel_rfl, fun w hSw => by go_simp⟩) hS ?_)
      (try simp only [Act.put])
      (refine wpAnyH_take (i := 3) (v := undef) rfl (by kernel_rfl) (by kernel_rfl) (by kernel_rfl) (fun _ _ _ h => h) (Or.inr ⟨by kernel_rfl, rfl⟩) hS ?_)
      (try simp only [Act.put])
      (refine wpAnyH_take (i := 4) (v := undef) rfl (by kernel_rfl) (by kernel_rfl) (by kernel_rfl) (fun _ _ _ h => h) (Or.inr ⟨by kernel_rfl, rfl⟩) hS ?_)
      (try simp only [Act.put])
      (refine wpAnyH_take (i := 5) (v := undef) rfl (by kernel_rfl) (by kernel_rfl) (by kernel_rfl) (fun _ _ _ h => h) (Or.inr ⟨by kernel_rfl, rfl⟩) hS ?_)
      (try simp only [Act.put])
      (refine wpAnyH_take (i := 6) (v := undef) rfl (by kernel_rfl) (by kernel_rfl) (by kernel_rfl) (fun _ _ _ h => h) (Or.inr ⟨by kernel_rfl, rfl⟩) hS ?_)
      (try simp only [Act.put])
      (refine wpAnyH_take (i := 7) (v := undef) rfl (by kernel_rfl) (by kernel_rfl) (by kernel_rfl) (fun _ _ _ h => h) (Or.inr ⟨by kernel_rfl, rfl⟩) hS ?_)
      (try simp only [Act.put])
      (refine wpAnyH_take (i := 8) (v := undef) rfl (by kernel_rfl) (by kernel_rfl) (by kernel_rfl) (fun _ _ _ h => h) (Or.inr ⟨by kernel_rfl, rfl⟩) hS ?_)
      (try simp only [Act.put])
      (refine wpAnyH_take (i := 9) (v := undef) rfl (by kernel_rfl) (by kernel_rfl) (by kernel_rfl) (fun _ _ _ h => h) (Or.inr ⟨by kernel_rfl, rfl⟩) hS ?_)
      (try simp only [Act.put])
      (refine wpAnyH_take (i := 10) (v := undef) rfl (by kernel_rfl) (by kernel_rfl) (by kernel_rfl) (fun _ _ _ h => h) (Or.inr ⟨by kernel_rfl, rfl⟩) hS ?_)
      (try simp only [Act.put])
      (refine wpAnyH_take (i := 11) (v := undef) rfl (by kernel_rfl) (by kernel_rfl) (by kernel_rfl) (fun _ _ _ h => h) (Or.inr ⟨by kernel_rfl, rfl⟩) hS ?_)
      (try simp only [Act.put])
      (refine wpAnyH_take (i := 12) (v := undef) rfl (by kernel_rfl) (by kernel_rfl) (by kernel_rfl) (fun _ _ _ h => h) (Or.inr ⟨by kernel_rfl, rfl⟩) hS ?_)
      (try simp only [Act.put])
      (refine wpAnyH_take (i := 13) (v := undef) rfl (by kernel_rfl) (by kernel_rfl) (by kernel_rfl) (fun _ _ _ h => h) (Or.inr ⟨by kernel_rfl, rfl⟩) hS ?_)
      (try simp only [Act.put])
      (refine wpAnyH_take (i := 14) (v := undef) rfl (by kernel_rfl) (by kernel_rfl) (by kernel_rfl) (fun _ _ _ h => h) (Or.inr ⟨by kernel_rfl, rfl⟩) hS ?_)
      (try simp only [Act.put])
      (refine wpAnyH_take (i := 15) (v := undef) rfl (by kernel_rfl) (by kernel_rfl) (by kernel_rfl) (fun _ _ _ h => h) (Or.inr ⟨by kernel_rfl, rfl⟩) hS ?_)
      (try simp only [Act.put])
      (refine wpAnyH_take (i := 16) (v := undef) rfl (by kernel_rfl) (by kernel_rfl) (by kernel_rfl) (fun _ _ _ h => h) (Or.inr ⟨by kernel_rfl, rfl⟩) hS ?_)
      (try simp only [Act.put])
      (refine wpAnyH_take (i := 17) (v := .bool true) rfl (by kernel_rfl) (by kernel_rfl) (by kernel_rfl) (fun _ _ _ h => h) (Or.inl ⟨by kernel_rfl, fun w hSw => by go_simp⟩) hS ?_)
      (try simp only [Act.put])
      refine wpAnyH_ready (rs := [18]) (by decide +kernel) (by simp) (AllReadyH.cons rfl (fun K hK => ?_) AllReadyH.nil)
      go_simp
      refine hK.out _ _ (hS) (fun hS => ?_)
      clear hK K
      (try simp only [Act.put])
      refine wpAnyH_done (by kernel_rfl) ?_ _
      have HFG := Lib.hid (HF.out.trans (hS.mono HF.out.size))
      clear hS
      go_wp2
      go_ret
      exact ⟨rfl, HFG.out⟩

    · have HTE : Hid (sigBytes n X Y P = T) := by
        have h := HT.out
        rw [if_pos rfl] at h
        exact h
      have HKR2 : Hid (Calls Tryd.prog 22 #[.pointer (some ⟨r2, 0, none⟩)] w32 fun e w' => ∃ A5 B5 C5 x5 y5 z5, e = .returned (.agg (sigV n A5 X.length x5 B5 Y.length y5 C5 P.length z5)) ∧ Digs w' w'.heap.size A5 X ∧ Digs w' w'.heap.size B5 Y ∧ Digs w' w'.heap.size C5 P ∧ Rd w' r2 [] false ∧ w32.grownBy w' (some r2)) := (kread_any r2 T false w32 HR31d.out).mono fun e w' ⟨A5, B5, C5, x5, y5, z5, he, d1, d2, d3, _, hr, hg⟩ => by
        obtain ⟨q1, q2, q3, q4, q5⟩ := sig_back HN.out HDA.out.all HDB.out.all HDC.out.all HFT.out
        rw [HTE.out] at q1 q2 q3 q4 q5
        rw [q1, q2, q3, q4] at he
        rw [q2] at d1
        rw [q3] at d2
        rw [q4] at d3
        rw [q5] at hr
        exact ⟨A5, B5, C5, x5, y5, z5, he, d1, d2, d3, hr, hg⟩
      have HSM2 : Hid (∀ w' A5 B5 C5 x5 y5 z5, Below w1.heap.size w1 w' → Digs w' w'.heap.size A5 X → Digs w' w'.heap.size B5 Y → Digs w' w'.heap.size C5 P → Calls Tryd.prog 13 #[.agg (sigV n A5 X.length x5 B5 Y.length y5 C5 P.length z5), .agg (sigV n A X.length x B Y.length y C P.length z)] w' fun e w'' => e = .returned (.bool true) ∧ Below w'.heap.size w' w'') := fun w' A5 B5 C5 x5 y5 z5 hb d1 d2 d3 => by
        have hbd := HBD.out
        have h9 := ksame_any n n X Y P X Y P A5 B5 C5 A B C x5 y5 z5 x y z w' d1 d2 d3 (HDA.out.far hb) (HDB.out.far hb) (HDC.out.far hb) (by omega) (by omega) (by omega)
        rw [decide_eq_true (rfl : n = n), decide_eq_true (rfl : X = X), decide_eq_true (rfl : Y = Y), decide_eq_true (rfl : P = P)] at h9
        exact h9
      have HNR : Hid (∀ w', Calls Tryd.prog 22 #[.pointer none] w' fun e w'' => e = .returned (.agg zsig) ∧ Below w'.heap.size w' w'') := fun w' => kread_nil w'
      have HSN : Hid (∀ w', Calls Tryd.prog 13 #[.agg zsig, .agg zsig] w' fun e w'' => e = .returned (.bool true) ∧ Below w'.heap.size w' w'') := fun w' => ksame_any 0 0 [] [] [] [] [] [] none none none none none none 0 0 0 0 0 0 w' (Digs.empty _ _ _) (Digs.empty _ _ _) (Digs.empty _ _ _) (Digs.empty _ _ _) (Digs.empty _ _ _) (Digs.empty _ _ _) (by simp) (by simp) (by simp)
      (refine wpAnyH_take (i := 0) (v := .bool true) rfl (by kernel_rfl) (by kernel_rfl) (by kernel_rfl) (fun _ _ _ h => h) (Or.inl ⟨by kernel_rfl, fun w hSw => by go_simp⟩) hS ?_)
      (try simp only [Act.put])
      (refine wpAnyH_take (i := 1) (v := .bool false) rfl (by kernel_rfl) (by kernel_rfl) (by kernel_rfl) (fun _ _ _ h => h) (Or.inl ⟨by kernel_rfl, fun w hSw => by go_simp⟩) hS ?_)
      (try simp only [Act.put])
      (refine wpAnyH_take (i := 2) (v := .bool false) rfl (by kernel_rfl) (by kernel_rfl) (by kernel_rfl) (fun _ _ _ h => h) (Or.inl ⟨by kernel_rfl, fun w hSw => by go_simp⟩) hS ?_)
      (try simp only [Act.put])
      (refine wpAnyH_take (i := 3) (v := .pointer (some ⟨r2, 0, none⟩)) rfl (by kernel_rfl) (by kernel_rfl) (by kernel_rfl) (fun _ _ _ h => h) (Or.inl ⟨by kernel_rfl, fun w hSw => by go_simp⟩) hS ?_)
      (try simp only [Act.put])
      (refine wpAnyH_take (i := 5) (v := .agg (sigV n A X.length x B Y.length y C P.length z)) rfl (by kernel_rfl) (by kernel_rfl) (by kernel_rfl) (fun _ _ _ h => h) (yieldsIf_load_mid (by kernel_rfl) 30 (.tmp 2) rfl w.heap.size (0) (by kernel_rfl) ((sigV n A X.length x B Y.length y C P.length z).toList) _ (fun w h => HSR.out w h) hu3 rfl hq3) hS ?_)
      (try simp only [Act.put])
      refine wpAnyH_ready (rs := [4]) (by decide +kernel) (by simp) (AllReadyH.cons rfl (fun K hK => ?_) AllReadyH.nil)
      go_simp
      (go_at_call 22; (with_reducible refine (HKR2.out).mono ?_); rintro e w33 ⟨A5, B5, C5, x5, y5, z5, rfl, d1, d2, d3, hr, hg⟩)
      have HD33 := Lib.hid (And.intro d1 (And.intro d2 d3))
      have HR33 := Lib.hid hr
      have hb33 := below_only hg HR2G.out hS.size
      clear d1 d2 d3 hr hg
      refine hK.out _ _ (hS.trans hb33) (fun hS => ?_)
      clear hK K
      (try simp only [Act.put])
      clear hb33
      have HS33 := Lib.hid (HSM2.out w33 A5 B5 C5 x5 y5 z5 hS HD33.out.1 HD33.out.2.1 HD33.out.2.2)
      refine wpAnyH_ready (rs := [6]) (by decide +kernel) (by simp) (AllReadyH.cons rfl (fun K hK => ?_) AllReadyH.nil)
      go_simp
      (go_at_call 13; (with_reducible refine (HS33.out).mono ?_); rintro e w34 ⟨rfl, hb⟩)
      have HR34 := Lib.hid (HR33.out.below hb HR33.out.lt)
      refine hK.out _ _ (hS.trans (hb.mono hS.size)) (fun hS => ?_)
      clear hK K
      (try simp only [Act.put])
      clear hb
      have HE34 := Lib.hid (rdend_any r2 [] false w34 HR34.out)
      (refine wpAnyH_take (i := 7) (v := .bool true) rfl (by kernel_rfl) (by kernel_rfl) (by kernel_rfl) (fun _ _ _ h => h) (Or.inl ⟨by kernel_rfl, fun w hSw => by go_simp⟩) hS ?_)
      (try simp only [Act.put])
      (refine wpAnyH_take (i := 8) (v := .pointer (some ⟨r2, 0, none⟩)) rfl (by kernel_rfl) (by kernel_rfl) (by kernel_rfl) (fun _ _ _ h => h) (Or.inl ⟨by kernel_rfl, fun w hSw => by go_simp⟩) hS ?_)
      (try simp only [Act.put])
      refine wpAnyH_ready (rs := [9]) (by decide +kernel) (by simp) (AllReadyH.cons rfl (fun K hK => ?_) AllReadyH.nil)
      go_simp
      (go_at_call 26; (with_reducible refine (HE34.out).mono ?_); rintro e w35 ⟨rfl, rfl⟩)
      refine hK.out _ _ (hS) (fun hS => ?_)
      clear hK K
      (try simp only [Act.put])
      (refine wpAnyH_take (i := 10) (v := .bool true) rfl (by kernel_rfl) (by kernel_rfl) (by kernel_rfl) (fun _ _ _ h => h) (Or.inl ⟨by kernel_rfl, fun w hSw => by go_simp⟩) hS ?_)
      (try simp only [Act.put])
      (refine wpAnyH_take (i := 11) (v := .bool true) rfl (by kernel_rfl) (by kernel_rfl) (by kernel_rfl) (fun _ _ _ h => h) (Or.inl ⟨by kernel_rfl, fun w hSw => by go_simp⟩) hS ?_)
      (try simp only [Act.put])
      (refine wpAnyH_take (i := 12) (v := .pointer none) rfl (by kernel_rfl) (by kernel_rfl) (by kernel_rfl) (fun _ _ _ h => h) (Or.inl ⟨by kernel_rfl, fun w hSw => by go_simp⟩) hS ?_)
      (try simp only [Act.put])
      (refine wpAnyH_take (i := 14) (v := .agg zsig) rfl (by kernel_rfl) (by kernel_rfl) (by kernel_rfl) (fun _ _ _ h => h) (Or.inl ⟨by kernel_rfl, fun w hSw => by go_simp⟩) hS ?_)
      (try simp only [Act.put])
      refine wpAnyH_ready (rs := [13]) (by decide +kernel) (by simp) (AllReadyH.cons rfl (fun K hK => ?_) AllReadyH.nil)
      go_simp
      (go_at_call_of 22 (Value.pointer none); (with_reducible refine (HNR.out _).mono ?_); rintro e w36 ⟨rfl, hb⟩)
      refine hK.out _ _ (hS.trans (hb.mono hS.size)) (fun hS => ?_)
      clear hK K
      (try simp only [Act.put])
      clear hb
      refine wpAnyH_ready (rs := [15]) (by decide +kernel) (by simp) (AllReadyH.cons rfl (fun K hK => ?_) AllReadyH.nil)
      go_simp
      (go_at_call 13; (with_reducible refine (HSN.out _).mono ?_); rintro e w37 ⟨rfl, hb⟩)
      refine hK.out _ _ (hS.trans (hb.mono hS.size)) (fun hS => ?_)
      clear hK K
      (try simp only [Act.put])
      clear hb
      (refine wpAnyH_take (i := 16) (v := .bool true) rfl (by kernel_rfl) (by kernel_rfl) (by kernel_rfl) (fun _ _ _ h => h) (Or.inl ⟨by kernel_rfl, fun w hSw => by go_simp⟩) hS ?_)
      (try simp only [Act.put])
      (refine wpAnyH_take (i := 17) (v := .bool true) rfl (by kernel_rfl) (by kernel_rfl) (by kernel_rfl) (fun _ _ _ h => h) (Or.inl ⟨by kernel_rfl, fun w hSw => by go_simp⟩) hS ?_)
      (try simp only [Act.put])
      refine wpAnyH_ready (rs := [18]) (by decide +kernel) (by simp) (AllReadyH.cons rfl (fun K hK => ?_) AllReadyH.nil)
      go_simp
      refine hK.out _ _ (hS) (fun hS => ?_)
      clear hK K
      (try simp only [Act.put])
      refine wpAnyH_done (by kernel_rfl) ?_ _
      have HFG := Lib.hid (HF.out.trans (hS.mono HF.out.size))
      clear hS
      go_wp2
      go_ret
      exact ⟨rfl, HFG.out⟩

end Go.Proofs.YtkmmhkoommbkpaaDoor
