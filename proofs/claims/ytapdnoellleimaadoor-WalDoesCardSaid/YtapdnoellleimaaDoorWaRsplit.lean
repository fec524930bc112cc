/-
  wapentakeref17.Split. Written by gen_warsplit.py.
-/
import Derived.Test.YtapdnoellleimaaDoorWaRef
import Derived.Test.YtapdnoellleimaaDoorRr
import Derived.Test.YtapdnoellleimaaDoorCA
import Derived.Deep.RegionHeld3
namespace Go.Proofs.YtapdnoellleimaaDoor
open Go.RowKit Go.Maps

set_option maxRecDepth 100000 in
theorem txtV_room {most : Int} {l x q : List UInt8} {bad : Bool} (h : txtV most l bad = (x, q, false)) : 4 + x.length ≤ l.length := by
  unfold txtV at h
  by_cases h4 : bad = false ∧ 4 ≤ l.length
  · obtain ⟨rfl, h4⟩ := h4
    rw [tk_yes h4] at h
    simp only at h
    split at h
    · cases h
    · by_cases hN : beNat (l.take 4) ≤ (l.drop 4).length
      · rw [tk_yes hN] at h
        injection h with h1 _
        rw [← h1, List.length_take, List.length_drop]
        rw [List.length_drop] at hN
        omega
      · rw [tk_no (by rintro ⟨_, h⟩; exact hN h)] at h
        cases h
  · rw [tk_no h4] at h
    simp only at h
    rw [if_pos (by simp)] at h
    cases h
set_option maxRecDepth 100000 in
theorem passV_room {n : Nat} {s x q : List UInt8} (h8 : 8 ≤ s.length) (h : passV n s = (x, q, false)) : 12 + x.length ≤ s.length := by
  unfold passV at h
  rw [tk_yes h8] at h
  have := txtV_room h
  rw [List.length_drop] at this
  omega
noncomputable def slH17 (v h : Value) : Sem Value := Instr.slice 9 v none (some h) none
set_option maxRecDepth 100000 in
theorem slH17_def (v h : Value) : Instr.slice 9 v none (some h) none = slH17 v h := rfl
noncomputable def slL17 (v h : Value) : Sem Value := Instr.slice 9 v (some h) none none
set_option maxRecDepth 100000 in
theorem slL17_def (v h : Value) : Instr.slice 9 v (some h) none none = slL17 v h := rfl
set_option maxRecDepth 100000 in
theorem str_from17 (a : List UInt8) (k : Nat) (h : k ≤ a.length) (w : World) : (slL17 (str a) (.int .i64 (k : Int))).run Tryd.prog w = .ok (str (a.drop k)) w := by
  have hs : (⟨a.toArray⟩ : ByteArray).size = a.length := by simp [ByteArray.size]
  have hr := run_slice_string_l (P := Tryd.prog) w 9 ⟨a.toArray⟩ Tryd.underlying9 .i64 (k : Int) (by omega) (by rw [hs]; omega)
  rw [Int.toNat_natCast] at hr
  have he : (⟨a.toArray⟩ : ByteArray).extract k (⟨a.toArray⟩ : ByteArray).size = ⟨(a.drop k).toArray⟩ := by
    apply ByteArray.ext
    rw [hs]
    simp [ByteArray.data_extract]
    rw [List.take_of_length_le (by rw [List.length_drop]; exact Nat.le_refl _)]
  rw [he] at hr
  exact hr
set_option maxRecDepth 100000 in
theorem str_upto17 (a : List UInt8) (k : Nat) (h : k ≤ a.length) (w : World) : (slH17 (str a) (.int .i64 (k : Int))).run Tryd.prog w = .ok (str (a.take k)) w := str_cut16 a k h w
def strLen : Value → Nat | .string s => s.size | _ => 0

section
attribute [local go_sem ↓] apAll_def bsT_def slH17_def slL17_def
set_option maxRecDepth 100000 in
set_option maxHeartbeats 4000000 in
theorem rsplit_any (s : List UInt8) (hl : s.length ≤ 1000000) (w : World) :
    Calls Tryd.prog 32 #[str s] w fun e w' => ∃ v rest, e = .returned (.tuple #[v, str rest]) ∧ SK.Own w' w.heap.size v (strL (splitB s)) ∧ s = framesB (splitB s) ++ rest ∧ Below w.heap.size w w' := by
  have HL := Lib.hid hl
  clear hl
  go_enter Tryd.func32, Tryd.ntmps32
  go_wp2
  go_loopw [0, 4] (fun x v wr => ∃ (rem : List UInt8) (done : List (List UInt8)), x = str rem ∧ Hid (s = framesB done ++ rem ∧ splitB s = done ++ splitB rem) ∧ Hid (SK.Own wr w.heap.size v (strL done)) ∧ Hid (Below w.heap.size w wr)) (fun x _ _ => strLen x)
  case atStart => exact ⟨s, [], rfl, ⟨rfl, rfl⟩, EK.own_nil _ _ _, Below.refl _ _⟩
  case round =>
    obtain ⟨rem, done, rfl, HE, HO, HB⟩ := hrel
    have hsz : (ByteArray.mk rem.toArray).size = rem.length := by show rem.toArray.size = _; rw [List.size_toArray]
    have hrl : rem.length ≤ 1000000 := by
      have h := congrArg List.length HE.out.1
      rw [List.length_append] at h
      have := HL.out
      omega
    have hri : (rem.length : Int) ≤ 1000000 := by omega
    by_cases h12 : 12 ≤ rem.length
    · have hi12 : (12 : Int) ≤ (rem.length : Int) := by omega
      have hfrom : ∀ w, (slL17 (str rem) (.int .i64 8)).run Tryd.prog w = .ok (str (rem.drop 8)) w := fun w => str_from17 rem 8 (by omega) w
      obtain ⟨w2, hw2⟩ : ∃ w2, w2 = wr.alloc (.cells #[str (rem.drop 8), .bool false] 93) := ⟨_, rfl⟩
      have hb2 : Below wr.heap.size wr w2 := by rw [hw2]; exact (Below.refl _ _).alloc (Nat.le_refl _) _
      have hr2 : RRd w2 wr.heap.size (rem.drop 8) false := by rw [hw2]; exact Box.made _ _ _
      have hpv : passV rem.length rem = txtV (rem.length : Int) (rem.drop 8) false := by unfold passV; rw [tk_yes (by omega)]
      have HT := rtext_any wr.heap.size (rem.length : Int) (rem.drop 8) false w2 hr2
      rw [← hpv] at HT
      obtain ⟨x, q, b, hp⟩ : ∃ x q b, passV rem.length rem = (x, q, b) := ⟨_, _, _, rfl⟩
      rw [hp] at HT
      simp only at HT
      have HT := Lib.hid HT
      have HP := Lib.hid hp
      have HB2 := Lib.hid hb2
      have HR8 := Lib.hid h12
      clear hpv hp hr2 hb2
      go_upto_region 4 with fail
      rw [← hw2]
      clear hfrom hw2
      go_upto_region 5 with (go_at_call 51; (with_reducible refine (HT.out).mono ?_); rintro e w3 ⟨rfl, hr3, hg3⟩)
      have HB3 : Hid (Below w.heap.size w w3) := Lib.hid ((HB.out.trans (HB2.out.mono HB.out.size)).trans (below_only hg3 HB.out.size (by have := HB.out.size; have := HB2.out.size; omega)))
      have HO3 : Hid (SK.Own w3 w.heap.size u4 (strL done)) := Lib.hid (by
        have h1 := EK.Own.keep HO.out HB2.out
        refine World.ownsRow.kept h1 hg3 ?_
        rcases HO.out.2 with ⟨e1, _⟩ | ⟨g', cap, cur, e1, _, hh, _⟩
        · rw [e1]; exact .inl rfl
        · rw [e1]
          refine .inr (fun e => ?_)
          have e2 : g' = wr.heap.size := by injection e
          have := row_lt hh
          omega)
      obtain ⟨wd, hwd⟩ : ∃ wd, wd = w3.drew := ⟨_, rfl⟩
      have hbd : Below w3.heap.size w3 wd := by rw [hwd]; exact drew_below _
      have HG := Lib.hid (fun (w' : World) (hb : Below w3.heap.size w3 w') => rgood_any wr.heap.size q b w' (hr3.below hb hr3.lt))
      have hxz : (ByteArray.mk x.toArray).size = x.length := by show x.toArray.size = _; rw [List.size_toArray]
      clear hr3 hg3
      cases b with
      | true =>
        have HNO : Hid (headR rem = none) := Lib.hid (passV_none (Nat.le_refl _) (by rw [HP.out]; rintro ⟨h, _⟩; cases h))
        refine wp_region_held_drew (S := fun w' => Below w3.heap.size w3 w') (by kernel_rfl) (by rw [← hwd]; exact hbd) (fun hS => ?_)
        rw [← hwd] at hS ⊢
        clear hwd hbd
        (refine take_at8 (i := 0) (d := 18) (v := .pointer (some ⟨wr.heap.size, 0, none⟩)) rfl (by kernel_rfl) (by kernel_rfl) (by kernel_rfl) (fun _ _ _ h => h) rfl (Or.inl ⟨by kernel_rfl, fun w hSw => by go_simp⟩) hS ?_)
        refine wpAnyH_ready (rs := [1]) (by decide +kernel) (by simp) (AllReadyH.cons rfl (fun K hK => ?_) AllReadyH.nil)
        go_simp
        (go_at_call 52; (with_reducible refine (HG.out _ hS).mono ?_); rintro e w4 ⟨rfl, rfl⟩)
        refine hK.out _ _ (hS) (fun hS => ?_)
        clear hK K
        (try simp only [Act.put])
        (refine take_at8 (i := 2) (d := 20) (v := .bool true) rfl (by kernel_rfl) (by kernel_rfl) (by kernel_rfl) (fun _ _ _ h => h) rfl (Or.inl ⟨by kernel_rfl, fun w hSw => by go_simp⟩) hS ?_)
        (refine take_at8 (i := 3) (d := 21) (v := .bool true) rfl (by kernel_rfl) (by kernel_rfl) (by kernel_rfl) (fun _ _ _ h => h) rfl (Or.inl ⟨by kernel_rfl, fun w hSw => by go_simp⟩) hS ?_)
        (refine take_at8 (i := 4) (d := 22) (v := undef) rfl (by kernel_rfl) (by kernel_rfl) (by kernel_rfl) (fun _ _ _ h => h) rfl (Or.inr ⟨by kernel_rfl, rfl⟩) hS ?_)
        (refine take_at8 (i := 5) (d := 23) (v := undef) rfl (by kernel_rfl) (by kernel_rfl) (by kernel_rfl) (fun _ _ _ h => h) rfl (Or.inr ⟨by kernel_rfl, rfl⟩) hS ?_)
        (refine take_at8 (i := 6) (d := 24) (v := undef) rfl (by kernel_rfl) (by kernel_rfl) (by kernel_rfl) (fun _ _ _ h => h) rfl (Or.inr ⟨by kernel_rfl, rfl⟩) hS ?_)
        (refine take_at8 (i := 7) (d := 25) (v := undef) rfl (by kernel_rfl) (by kernel_rfl) (by kernel_rfl) (fun _ _ _ h => h) rfl (Or.inr ⟨by kernel_rfl, rfl⟩) hS ?_)
        (refine take_at8 (i := 8) (d := 26) (v := undef) rfl (by kernel_rfl) (by kernel_rfl) (by kernel_rfl) (fun _ _ _ h => h) rfl (Or.inr ⟨by kernel_rfl, rfl⟩) hS ?_)
        (refine take_at8 (i := 9) (d := 27) (v := undef) rfl (by kernel_rfl) (by kernel_rfl) (by kernel_rfl) (fun _ _ _ h => h) rfl (Or.inr ⟨by kernel_rfl, rfl⟩) hS ?_)
        (refine take_at8 (i := 10) (d := 28) (v := undef) rfl (by kernel_rfl) (by kernel_rfl) (by kernel_rfl) (fun _ _ _ h => h) rfl (Or.inr ⟨by kernel_rfl, rfl⟩) hS ?_)
        (refine take_at8 (i := 11) (d := 29) (v := undef) rfl (by kernel_rfl) (by kernel_rfl) (by kernel_rfl) (fun _ _ _ h => h) rfl (Or.inr ⟨by kernel_rfl, rfl⟩) hS ?_)
        (refine take_at8 (i := 12) (d := 30) (v := .bool true) rfl (by kernel_rfl) (by kernel_rfl) (by kernel_rfl) (fun _ _ _ h => h) rfl (Or.inl ⟨by kernel_rfl, fun w hSw => by go_simp⟩) hS ?_)
        refine wpAnyH_done (by kernel_rfl) ?_ _
        have HB4 := Lib.hid (HB3.out.trans (hS.mono HB3.out.size))
        have HO4 := Lib.hid (EK.Own.keep HO3.out hS)
        clear hS
        go_simp
        go_wp2
        go_ret2
        refine ⟨_, rem, rfl, ?_, ?_, HB4.out⟩
        · rw [HE.out.2, splitB_none HNO.out, List.append_nil]
          exact HO4.out
        · conv => rhs; rw [HE.out.2, splitB_none HNO.out, List.append_nil]
          exact HE.out.1
      | false =>
        have hroom := passV_room (by omega) HP.out
        have hx6 : x.length ≤ 1000000 := by omega
        have HF := Lib.hid (fun (w' : World) => rframe_any x hx6 w')
        have hcut := fun w => str_upto17 rem (12 + x.length) hroom w
        have hci : (((12 + x.length : Nat) : Int)) = 12 + (x.length : Int) := by omega
        rw [hci] at hcut
        have hxi : (x.length : Int) ≤ 1000000 := by omega
        have HPV : Hid ((begB rem (frameB x) = true → ∃ r, rem = frameB x ++ r ∧ q = r ∧ x.length < 4294967296) ∧ (begB rem (frameB x) = false → headR rem = none)) := Lib.hid ⟨fun h => by
          have h3 := passV_some (n := rem.length) (Nat.le_refl _) (by rw [HP.out]) (by rw [HP.out]; exact h)
          rw [HP.out] at h3
          exact h3, fun h => passV_none (n := rem.length) (Nat.le_refl _) (by rw [HP.out]; rintro ⟨_, h2⟩; rw [h] at h2; cases h2)⟩
        have hbg : begB rem (frameB x) = (frameB x == rem.take (12 + x.length)) := by
          unfold begB
          rw [frameB_len, decide_eq_true hroom, Bool.true_and, Bool.eq_iff_iff, beq_iff_eq, beq_iff_eq]
          exact eq_comm
        rw [hbg] at HPV
        have HRO := Lib.hid hroom
        have HFL := Lib.hid (frameB_len x)
        obtain ⟨T, hT⟩ : ∃ T, T = rem.take (12 + x.length) := ⟨_, rfl⟩
        rw [← hT] at hcut HPV
        clear hT hbg hci hroom
        obtain ⟨r, hr⟩ : ∃ r, r = (frameB x == T) := ⟨_, rfl⟩
        have HRR := Lib.hid hr
        have hne : (frameB x == T) = r := hr.symm
        have hw12 : IntKind.i64.wrap (12 + (x.length : Int)) = 12 + (x.length : Int) := by rw [IntKind.wrap_i64]; omega
        clear hr
        refine wp_region_held_drew (S := fun w' => Below w3.heap.size w3 w') (by kernel_rfl) (by rw [← hwd]; exact hbd) (fun hS => ?_)
        rw [← hwd] at hS ⊢
        clear hwd hbd
        (refine take_at8 (i := 0) (d := 18) (v := .pointer (some ⟨wr.heap.size, 0, none⟩)) rfl (by kernel_rfl) (by kernel_rfl) (by kernel_rfl) (fun _ _ _ h => h) rfl (Or.inl ⟨by kernel_rfl, fun w hSw => by go_simp⟩) hS ?_)
        refine wpAnyH_ready (rs := [1]) (by decide +kernel) (by simp) (AllReadyH.cons rfl (fun K hK => ?_) AllReadyH.nil)
        go_simp
        (go_at_call 52; (with_reducible refine (HG.out _ hS).mono ?_); rintro e w4 ⟨rfl, rfl⟩)
        refine hK.out _ _ (hS) (fun hS => ?_)
        clear hK K
        (try simp only [Act.put])
        (refine take_at8 (i := 2) (d := 20) (v := .bool false) rfl (by kernel_rfl) (by kernel_rfl) (by kernel_rfl) (fun _ _ _ h => h) rfl (Or.inl ⟨by kernel_rfl, fun w hSw => by go_simp⟩) hS ?_)
        (refine take_at8 (i := 3) (d := 21) (v := .bool false) rfl (by kernel_rfl) (by kernel_rfl) (by kernel_rfl) (fun _ _ _ h => h) rfl (Or.inl ⟨by kernel_rfl, fun w hSw => by go_simp⟩) hS ?_)
        (refine take_at8 (i := 4) (d := 22) (v := str x) rfl (by kernel_rfl) (by kernel_rfl) (by kernel_rfl) (fun _ _ _ h => h) rfl (Or.inl ⟨by kernel_rfl, fun w hSw => by go_simp⟩) hS ?_)
        (refine take_at8 (i := 6) (d := 24) (v := str rem) rfl (by kernel_rfl) (by kernel_rfl) (by kernel_rfl) (fun _ _ _ h => h) rfl (Or.inl ⟨by kernel_rfl, fun w hSw => by go_simp⟩) hS ?_)
        (refine take_at8 (i := 7) (d := 25) (v := str x) rfl (by kernel_rfl) (by kernel_rfl) (by kernel_rfl) (fun _ _ _ h => h) rfl (Or.inl ⟨by kernel_rfl, fun w hSw => by go_simp⟩) hS ?_)
        (refine take_at8 (i := 8) (d := 26) (v := .int .i64 (x.length : Int)) rfl (by kernel_rfl) (by kernel_rfl) (by kernel_rfl) (fun _ _ _ h => h) rfl (Or.inl ⟨by kernel_rfl, fun w hSw => by have hc := hxz; go_simp⟩) hS ?_)
        (refine take_at8 (i := 9) (d := 27) (v := .int .i64 (12 + (x.length : Int))) rfl (by kernel_rfl) (by kernel_rfl) (by kernel_rfl) (fun _ _ _ h => h) rfl (Or.inl ⟨by kernel_rfl, fun w hSw => by have hc := hw12; go_simp⟩) hS ?_)
        (refine take_at8 (i := 10) (d := 28) (v := str T) rfl (by kernel_rfl) (by kernel_rfl) (by kernel_rfl) (fun _ _ _ h => h) rfl (Or.inl ⟨by kernel_rfl, fun w hSw => by have hc := hcut w; go_simp⟩) hS ?_)
        refine wpAnyH_ready (rs := [5]) (by decide +kernel) (by simp) (AllReadyH.cons rfl (fun K hK => ?_) AllReadyH.nil)
        go_simp
        (go_at_call 31; (with_reducible refine (HF.out _).mono ?_); rintro e w5 ⟨rfl, hb5⟩)
        refine hK.out _ _ (hS.trans (hb5.mono hS.size)) (fun hS => ?_)
        clear hK K
        (try simp only [Act.put])
        (refine take_at8 (i := 11) (d := 29) (v := .bool (!r)) rfl (by kernel_rfl) (by kernel_rfl) (by kernel_rfl) (fun _ _ _ h => h) rfl (Or.inl ⟨by kernel_rfl, fun w hSw => by have hc := hne; go_simp⟩) hS ?_)
        (refine take_at8 (i := 12) (d := 30) (v := .bool (!r)) rfl (by kernel_rfl) (by kernel_rfl) (by kernel_rfl) (fun _ _ _ h => h) rfl (Or.inl ⟨by kernel_rfl, fun w hSw => by go_simp⟩) hS ?_)
        refine wpAnyH_done (by kernel_rfl) ?_ _
        have HB4 := Lib.hid (HB3.out.trans (hS.mono HB3.out.size))
        have HO4 := Lib.hid (EK.Own.keep HO3.out hS)
        clear hS hb5 hne hcut hw12
        go_simp
        cases r with
        | false =>
          have HNO : Hid (headR rem = none) := Lib.hid (HPV.out.2 HRR.out.symm)
          go_wp2
          go_ret2
          refine ⟨_, rem, rfl, ?_, ?_, HB4.out⟩
          · rw [HE.out.2, splitB_none HNO.out, List.append_nil]
            exact HO4.out
          · conv => rhs; rw [HE.out.2, splitB_none HNO.out, List.append_nil]
            exact HE.out.1
        | true =>
          obtain ⟨r2, hr1, hr2, hr3⟩ := HPV.out.1 HRR.out.symm
          subst hr2
          have hdrop : ∀ w, (slL17 (str rem) (.int .i64 (12 + (x.length : Int)))).run Tryd.prog w = .ok (str q) w := fun w => by
            have h := str_from17 rem (12 + x.length) HRO.out w
            rw [hr1, frame_drop, ← hr1] at h
            have hci : (((12 + x.length : Nat) : Int)) = 12 + (x.length : Int) := by omega
            rw [hci] at h
            exact h
          have hlk : (strL done).length = done.length := by unfold strL; rw [List.length_map]
          have hdn : done.length ≤ 1000000 := by
            have h1 := framesB_count done
            have h2 := congrArg List.length HE.out.1
            rw [List.length_append] at h2
            have := HL.out
            omega
          have hsu : strL (done ++ [x]) = strL done ++ [⟨x.toArray⟩] := by unfold strL; rw [List.map_append]; rfl
          have hbs : (bsT 39 1 #[(0, str x)]).run Tryd.prog w5 = .ok (.slice (some ⟨w5.heap.size, 0, none⟩) 1 1) (w5.alloc (.cells (SK.enc ⟨x.toArray⟩).toArray SK.e)) := EK.build1 SK ⟨x.toArray⟩ (.string ⟨x.toArray⟩) rfl (by decide) w5
          have hb6 : Below w5.heap.size w5 (w5.alloc (.cells (SK.enc ⟨x.toArray⟩).toArray SK.e)) := (Below.refl _ _).alloc (Nat.le_refl _) _
          have hs6 := EK.see_one SK w5 ⟨x.toArray⟩
          obtain ⟨v7, w7, hap0, ho7, hg7⟩ := EK.append SK (EK.Own.keep HO4.out hb6) (m := 1) (c := 1) (es := [⟨x.toArray⟩]) rfl hs6 (by rw [hlk]; omega) (by rw [hlk]; show (done.length + 1) * 16 ≤ _; omega) (Nat.le_trans HB4.out.size hb6.size)
          have hap := hap0
          rw [show SK.sl = 39 from rfl] at hap
          rw [← hsu] at ho7
          have HO7 := Lib.hid ho7
          have HB7 : Hid (Below w.heap.size w w7) := Lib.hid ((HB4.out.trans (hb6.mono HB4.out.size)).trans (below_own (EK.Own.keep HO4.out hb6) hg7 (Nat.le_trans HB4.out.size hb6.size)))
          have HE7 : Hid (s = framesB (done ++ [x]) ++ q ∧ splitB s = (done ++ [x]) ++ splitB q) := Lib.hid ⟨by
            rw [framesB_app]
            have h2 : framesB [x] = frameB x := by simp [framesB]
            rw [h2, List.append_assoc, ← hr1]
            exact HE.out.1, by
            rw [HE.out.2]
            conv => lhs; rw [hr1]
            rw [splitB_frame x q hr3, List.append_assoc]
            rfl⟩
          have hql : q.length < rem.length := by
            have h := congrArg List.length hr1
            rw [List.length_append, frameB_len] at h
            omega
          have HQL := Lib.hid hql
          generalize hw6 : w5.alloc (.cells (SK.enc ⟨x.toArray⟩).toArray SK.e) = w6 at *
          clear hlk hdn hsu hb6 hs6 hap0 ho7 hg7 hql hr1 hr3 hw6
          go_wp2
          go_roundw
          case rel => exact ⟨q, done ++ [x], rfl, HE7, HO7, HB7⟩
          case measure =>
            show (ByteArray.mk q.toArray).size < (ByteArray.mk rem.toArray).size
            rw [hsz, show (ByteArray.mk q.toArray).size = q.length by show q.toArray.size = _; rw [List.size_toArray]]
            exact HQL.out
    · have hi12 : (rem.length : Int) < 12 := by omega
      have hno : headR rem = none := by unfold headR; rw [if_neg (by rintro ⟨h, _⟩; omega)]
      have HNO := Lib.hid hno
      clear hno
      go_wp2
      go_ret2
      refine ⟨_, rem, rfl, ?_, ?_, HB.out⟩
      · rw [HE.out.2, splitB_none HNO.out, List.append_nil]
        exact HO.out
      · conv => rhs; rw [HE.out.2, splitB_none HNO.out, List.append_nil]
        exact HE.out.1
end
end Go.Proofs.YtapdnoellleimaaDoor
