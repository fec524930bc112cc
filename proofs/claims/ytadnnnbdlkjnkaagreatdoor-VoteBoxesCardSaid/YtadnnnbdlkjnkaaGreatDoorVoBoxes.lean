/-
  VoteBoxes: the walk. Written by gen_voboxes.py.
-/
import Derived.Test.YtadnnnbdlkjnkaaGreatDoorVG
namespace Go.Proofs.YtadnnnbdlkjnkaaGreatDoor
open Go.RowKit Go.Maps Go.Sort

/-! ### On plain lists -/
set_option maxRecDepth 100000 in
theorem candR_iff {us : List VtM} (ha : Apart (us.map VtM.x)) (hx : ∀ x ∈ us.map VtM.x, 1 ≤ x.frm ∧ x.frm ≤ 63) {kind q : Int} {x : VtX} : CandR us kind q x ↔ CandV (us.map VtM.x) kind q x := by
  unfold CandR CandV
  have h := (rForM_is ha hx kind x.round x.dig).len
  rw [List.length_map] at h
  rw [h]
set_option maxRecDepth 100000 in
theorem MaxP.cand {us : List VtM} (ha : Apart (us.map VtM.x)) (hx : ∀ x ∈ us.map VtM.x, 1 ≤ x.frm ∧ x.frm ≤ 63) {kind q z : Int} (h : MaxP (us.map VtM.x) (CandR us kind q) z) : MaxP (us.map VtM.x) (CandV (us.map VtM.x) kind q) z := by
  rcases h with ⟨h1, h2⟩ | ⟨x, h1, h2, h3, h4⟩
  · exact .inl ⟨h1, fun y hy hc => h2 y hy ((candR_iff ha hx).2 hc)⟩
  · exact .inr ⟨x, h1, (candR_iff ha hx).1 h2, h3, fun y hy hc => h4 y hy ((candR_iff ha hx).2 hc)⟩
set_option maxRecDepth 100000 in
theorem win_none {xs : List VtX} {kind q r z : Int} {d : List UInt8} (h : WinIs xs kind q d r false) (hm : MaxP xs (CandV xs kind q) z) : z = -1 ∧ d = zeros ∧ r = 0 := by
  rcases h with ⟨_, h1, h2, h3⟩ | ⟨h1, _⟩
  · rcases hm with ⟨k1, _⟩ | ⟨x, k1, k2, _⟩
    · exact ⟨k1, h1, h2⟩
    · exact absurd k2 (h3 x k1)
  · cases h1
set_option maxRecDepth 100000 in
theorem win_some {xs : List VtX} {kind q r z : Int} {d : List UInt8} (h : WinIs xs kind q d r true) (hm : MaxP xs (CandV xs kind q) z) (h0 : ∀ x ∈ xs, 0 ≤ x.round) : z = r ∧ 0 ≤ r ∧ d ≠ zeros ∧ q ≤ ((forF kind r d xs).length : Int) ∧ ∀ y ∈ xs, CandV xs kind q y → y.round = r → bef13 y.dig d = false := by
  rcases h with ⟨h1, _⟩ | ⟨_, ⟨x, hx, hc, h2, h3⟩, h4⟩
  · cases h1
  · refine ⟨?_, by rw [← h2]; exact h0 x hx, by rw [← h3]; exact hc.2.1, by rw [← h2, ← h3]; exact hc.2.2, fun y hy hcy => (h4 y hy hcy).2⟩
    rcases hm with ⟨_, k2⟩ | ⟨y, k1, k2, k3, k4⟩
    · exact absurd hc (k2 x hx)
    · have e1 := (h4 y k1 k2).1
      have e2 := k4 x hx hc
      omega
set_option maxRecDepth 100000 in
/-- No digest before the winner has so many votes. -/
theorem win_least {xs : List VtX} {kind q r : Int} {d e : List UInt8} (hq : 1 ≤ q) (h : ∀ y ∈ xs, CandV xs kind q y → y.round = r → bef13 y.dig d = false) (he : e ≠ zeros) (hb : bef13 e d = true) : ¬ q ≤ ((forF kind r e xs).length : Int) := by
  intro hn
  have h8 : 0 < (forF kind r e xs).length := by omega
  obtain ⟨f, hf⟩ := List.exists_mem_of_length_pos h8
  obtain ⟨x, hx, _⟩ := List.mem_map.1 hf
  obtain ⟨hx1, hx2⟩ := List.mem_filter.1 hx
  unfold isFor at hx2
  simp only [Bool.and_eq_true, decide_eq_true_eq] at hx2
  have h9 := h x hx1 ⟨hx2.1.1, by rw [hx2.2]; exact he, by rw [hx2.1.2, hx2.2]; exact hn⟩ hx2.1.2
  rw [hx2.2, hb] at h9
  cases h9
set_option maxRecDepth 100000 in
theorem reach_zero {xs : List VtX} {z : Int} (h : ReachIs xs 0 z) : z = -1 := by
  rcases h with ⟨h, _⟩ | ⟨_, _, _, h, _⟩
  · exact h
  · omega
set_option maxRecDepth 100000 in
theorem reach_nil {q z : Int} (h : ReachIs [] q z) : z = -1 := by
  rcases h with ⟨h, _⟩ | ⟨_, h, _⟩
  · exact h
  · cases h
set_option maxRecDepth 100000 in
theorem win_nil {kind q r : Int} {d : List UInt8} {fb : Bool} (h : WinIs [] kind q d r fb) : fb = false := by
  rcases h with ⟨h, _⟩ | ⟨_, ⟨_, h, _⟩, _⟩
  · exact h
  · cases h
set_option maxRecDepth 100000 in
theorem for_nil {kind round : Int} {d : List UInt8} {ms : List VtM} (h : ForIs [] kind round d (ms.map VtM.x)) : ms = [] := by
  cases ms with
  | nil => rfl
  | cons m r => exact absurd (h.2 m.x (by simp)).1 (by simp)

/-! ### Both boxes -/
set_option maxRecDepth 100000 in
theorem RBox.aside {w w' : World} {rp mb : Nat} {us : List VtM} (h : RBox w rp us) {κ : Type} {K : MKey κ} {es : List (κ × Value)} (hm : MapIs K w mb es) (hg : w.grownBy w' (some mb)) : RBox w' rp us := by
  obtain ⟨A, c, h1, h2⟩ := h.ex
  refine ⟨⟨A, c, h1.grown hg (fun e => hm.ne h1 (by injection e)), ?_⟩⟩
  exact Sees.aside13 h2 hg hm.cell_ne
def NoByte13 (cs : Array Value) : Prop := ∀ (j : Nat) (v : Value), cs[j]? = some v → ∀ b : UInt8, v ≠ bv b
set_option maxRecDepth 100000 in
theorem Digs.aside_b {w w' : World} {A : Option Addr} {ds : List (List UInt8)} (h : Digs w w.heap.size A ds) {g : Nat} {t : TypeId} {cs : Array Value} (hb : Box w g t cs) (hn : NoByte13 cs) (hg : w.grownBy w' (some g)) : Digs w' w'.heap.size A ds := by
  refine ⟨h.1, ?_⟩
  rcases h.2 with h0 | ⟨g', o, rfl, hlt, hc⟩
  · exact .inl h0
  · by_cases e : g' = g
    · subst e
      cases hds : ds with
      | nil => exact .inl rfl
      | cons d r =>
        exfalso
        rw [hds] at hc
        have hd := h.1 d (by rw [hds]; exact List.mem_cons_self ..)
        obtain ⟨b, bs, hbs⟩ : ∃ b bs, d = b :: bs := by
          cases d with
          | nil => simp at hd
          | cons b bs => exact ⟨b, bs, rfl⟩
        have h1 := hc 0 (bv b) (by rw [hbs]; rfl)
        rw [hb.cell] at h1
        exact hn _ _ h1 b rfl
    · exact .inr ⟨g', o, rfl, Nat.lt_of_lt_of_le hlt hg.size, fun j u hu => hg.cell (hc j u hu) (fun e2 => e (by injection e2))⟩
set_option maxRecDepth 100000 in
theorem VSee.aside_b {w w' : World} {m : VtM} (h : VSee w m) {g : Nat} {t : TypeId} {cs : Array Value} (hb : Box w g t cs) (hn : NoByte13 cs) (hg : w.grownBy w' (some g)) : VSee w' m := ⟨h.opn.aside_b hb hn hg, h.sht.aside_b hb hn hg, h.pth.aside_b hb hn hg⟩
set_option maxRecDepth 100000 in
theorem slice_nobyte (A : Option Addr) (n c : Nat) : NoByte13 #[.slice A n c] := by
  intro j v hv b e
  have hm := Array.mem_of_getElem? hv
  simp at hm
  rw [hm] at e
  simp [bv] at e
/-- Both boxes hold the same votes. -/
structure BothW (w0 w : World) (p mb rp : Nat) (d : List UInt8) (bs us vs : List VtM) (k : Nat) : Prop where
  box : BoxIs w p mb bs
  see : BSee w bs
  ref : RBox w rp us
  same : bs.map VtM.x = us.map VtM.x
  sub : ∀ u ∈ us, u ∈ vs
  len : us.length ≤ k
  dig : Box w w0.heap.size 24 (d.map bv).toArray
  far : Below w0.heap.size w0 w
  low : w0.heap.size < mb ∧ w0.heap.size < rp
set_option maxRecDepth 100000 in
theorem BothW.call {w0 w w' : World} {p mb rp k : Nat} {d : List UInt8} {bs us vs : List VtM} (h : BothW w0 w p mb rp d bs us vs k) (hb : Below w.heap.size w w') : BothW w0 w' p mb rp d bs us vs k :=
  ⟨h.box.call hb, h.see.call hb, h.ref.call hb, h.same, h.sub, h.len, h.dig.below hb h.dig.lt, h.far.trans (hb.mono h.far.size), h.low⟩
set_option maxRecDepth 100000 in
theorem BoxIs.aside_r {w w' : World} {p mb rp : Nat} {bs us : List VtM} (h : BoxIs w p mb bs) (hr : RBox w rp us) (hg : w.grownBy w' (some rp)) : BoxIs w' p mb bs := by
  obtain ⟨A, c, h1, _⟩ := hr.ex
  exact ⟨h.box.grown hg (fun e => h.box.apart h1 (by decide) (by injection e)), h.map.grown hg (fun e => h.map.ne h1 (by injection e with e; exact e.symm)), h.ok⟩
set_option maxRecDepth 100000 in
theorem BSee.aside_r {w w' : World} {rp : Nat} {bs us : List VtM} (h : BSee w bs) (hr : RBox w rp us) (hg : w.grownBy w' (some rp)) : BSee w' bs := by
  obtain ⟨A, c, h1, _⟩ := hr.ex
  exact fun m hm => (h m hm).aside_b h1 (slice_nobyte _ _ _) hg
set_option maxRecDepth 100000 in
theorem BothW.add {w0 w w7 w8 : World} {p mb rp k : Nat} {d : List UInt8} {bs bs' us vs : List VtM} (h : BothW w0 w p mb rp d bs us vs k) {m : VtM} (hm : m ∈ vs) (hb7 : BoxIs w7 p mb bs') (hs7 : BSee w7 bs') (hx7 : bs'.map VtM.x = addX (bs.map VtM.x) m.x) (hg7 : w.grownBy w7 (some mb)) (hr8 : RBox w8 rp (addM us m)) (hg8 : w7.grownBy w8 (some rp)) : BothW w0 w8 p mb rp d bs' (addM us m) vs (k + 1) := by
  have hr7 := h.ref.aside h.box.map hg7
  obtain ⟨A, c, h1, _⟩ := hr7.ex
  have hd7 := h.dig.grown hg7 (fun e => h.box.map.ne h.dig (by injection e))
  refine ⟨hb7.aside_r hr7 hg8, hs7.aside_r hr7 hg8, hr8, by rw [hx7, addM_x, h.same], fun u hu => ?_, Nat.le_trans (addM_len us m) (by have := h.len; omega), hd7.grown hg8 (fun e => hd7.apart h1 (by decide) (by injection e)), ?_, h.low⟩
  · rcases mem_addM hu with hu | rfl
    · exact h.sub u hu
    · exact hm
  · have l := h.low
    have s0 := h.far.size
    have s7 := hg7.size
    exact (h.far.trans (below_only hg7 (Nat.le_of_lt l.1) s0)).trans (below_only hg8 (Nat.le_of_lt l.2) (Nat.le_trans s0 s7))
set_option maxRecDepth 100000 in
theorem see_load {w : World} {A : Option Addr} {ms : List VtM} (h : VtK.See w w.heap.size A ms) {j : Nat} (hj : j < ms.length) : ∃ g o, A = some ⟨g, o, none⟩ ∧ ∀ w', Below w.heap.size w w' → (ldVt (.pointer (some ⟨g, o + j * 41, none⟩))).run Tryz.prog w' = .ok (.agg (ms[j]'hj).cells.toArray) w' := by
  obtain ⟨g, o, rfl, _, _⟩ := EK.See.range h hj
  refine ⟨g, o, rfl, fun w' hb => ?_⟩
  obtain ⟨g', o', e, _, hr⟩ := EK.See.range (EK.See.far h hb) hj
  injection e with e
  injection e with e1 e2
  subst e1
  subst e2
  exact range_vt (ms[j]'hj).x.len (hr j hj)
set_option maxRecDepth 100000 in
theorem laid_dgz (w : World) {d : List UInt8} (hd : d.length = 32) : ∃ w', (stDigest (.pointer (some ⟨w.heap.size, 0, none⟩)) (.agg (d.map bv).toArray)).run Tryz.prog (w.alloc (.cells (zeros.map bv).toArray 24)) = .ok () w' ∧ Box w' w.heap.size 24 (d.map bv).toArray ∧ Below w.heap.size w w' := by
  have hb := Box.made w 24 (zeros.map bv).toArray
  refine ⟨_, hb.store_digest rfl d hd, hb.cells_dig rfl hd, ((Below.refl _ _).alloc (Nat.le_refl _) _).trans (below_only (only_cells (g := w.heap.size) (d.map bv) 0 _) (Nat.le_refl _) (by simp))⟩
set_option maxRecDepth 100000 in
theorem votN_nil (r : Int) : votN [] r = 0 := by
  unfold votN votB
  simp
noncomputable def bdRb (parts : Array (Nat × Value)) : Sem Value := Instr.build 30 parts
set_option maxRecDepth 100000 in
theorem bdRb_def (parts : Array (Nat × Value)) : Instr.build 30 parts = bdRb parts := rfl
set_option maxRecDepth 100000 in
theorem bd_rb (w : World) : (bdRb #[]).run Tryz.prog w = .ok (.agg #[.slice none 0 0]) w := run_build w _ _ _ (by kernel_rfl)
set_option maxRecDepth 100000 in
theorem bd_vt0 (w : World) : (bdVt #[]).run Tryz.prog w = .ok (.agg zvt.cells.toArray) w := run_build w _ _ _ (by kernel_rfl)

attribute [local go_sem ↓] ldVt_def stVt_def alVt_def ldSg_def ldDigest_def stDigest_def eqDigest_def bdDg_def bdRb_def bdVt_def alDg_def
set_option maxRecDepth 100000 in
set_option maxHeartbeats 16000000 in
theorem boxes_walk (vs : List VtM) (A : Option Addr) (c : Nat) (kind round q : Int) (d : List UInt8) (hd : d.length = 32) (w : World) (hS : VtK.See w w.heap.size A vs) (hq : ∀ m ∈ vs, VtArg w m) (hn : vs.length ≤ 1099511627776) (hR : Roots w) :
    Calls Tryz.prog 3 #[.slice A vs.length c, .int .i64 kind, .int .i64 round, .agg (d.map bv).toArray, .int .i64 q] w fun e w' => e = .returned (.bool true) ∧ Below w.heap.size w w' := by
  obtain ⟨w1, hw1⟩ : ∃ w1, w1 = w.alloc (.cells (d.map bv).toArray 24) := ⟨_, rfl⟩
  have HD : Hid (Box w1 w.heap.size 24 (d.map bv).toArray) := by rw [hw1]; exact Box.made _ _ _
  have HF : Hid (Below w.heap.size w w1) := by rw [hw1]; exact (Below.refl _ _).alloc (Nat.le_refl _) _
  have HAL := Lib.hid (alive_any13 w1 (hR.of_below HF.out))
  have HS := Lib.hid hS
  have HQ := Lib.hid hq
  have HN := Lib.hid hn
  have HDL := Lib.hid hd
  clear hS hq hn hR hd
  go_enter Tryz.func3, Tryz.ntmps3
  go_upto_region 1 with fail
  change Code.wp _ _ _ _ (w.alloc (.cells (d.map bv).toArray 24))
  rw [← hw1]
  clear hw1
  go_upto_region 3 with (go_at_call 4; (with_reducible refine (HAL.out).mono ?_); rintro e w2 ⟨rfl, hb⟩; have HF2 := Lib.hid (HF.out.trans (hb.mono HF.out.size)); have HD2 := Lib.hid (HD.out.below hb HD.out.lt); clear hb)
  clear HF HD HAL
  by_cases h60 : vs.length ≤ 60
  rotate_left
  · have i1 : (60 : Int) < (vs.length : Int) := by omega
    go_wp2
    go_ret
    exact ⟨rfl, HF2.out⟩
  have i1 : ¬ (60 : Int) < (vs.length : Int) := by omega
  have H60 := Lib.hid h60
  by_cases hq1 : 1 ≤ q
  rotate_left
  · have i2 : q < 1 := by omega
    go_wp2
    go_ret
    exact ⟨rfl, HF2.out⟩
  have i2 : ¬ q < 1 := by omega
  have HQ1 := Lib.hid hq1
  have hbr := bd_rb
  go_upto_region 6 with (go_at_call 5; (with_reducible refine (newbox_any _).mono ?_); rintro e w3 ⟨p, mb, rfl, hbx, lmb, _, hb⟩; have HB3 := Lib.hid hbx; have HF3 := Lib.hid (HF2.out.trans (hb.mono HF2.out.size)); have HD3 := Lib.hid (HD2.out.below hb HD2.out.lt); have HNE : Hid (w.heap.size < mb) := Lib.hid (Nat.lt_of_lt_of_le HD2.out.lt lmb); clear hbx hb lmb)
  have HW4 : Hid (BothW w (w3.alloc (.cells #[.slice none 0 0] 30)) p mb w3.heap.size d [] [] vs 0) := Lib.hid (by
    have hbl : Below w3.heap.size w3 (w3.alloc (.cells #[.slice none 0 0] 30)) := (Below.refl _ _).alloc (Nat.le_refl _) _
    exact ⟨HB3.out.call hbl, fun m hm => (by cases hm), ⟨none, 0, Box.made _ _ _, .inl rfl⟩, rfl, fun u hu => (by cases hu), Nat.le_refl _, HD3.out.below hbl HD3.out.lt, HF3.out.trans (hbl.mono HF3.out.size), HNE.out, HD3.out.lt⟩)
  clear HF2 HD2 i1 i2 h60 hq1 hbr HB3 HF3 HD3 HNE
  generalize w3.alloc (.cells #[.slice none 0 0] 30) = w4 at *
  generalize w3.heap.size = rp at *
  go_wp2
  go_loopw [42] (fun i wr => ∃ (k : Nat) (bs us : List VtM), k ≤ vs.length ∧ i = .int .i64 (k : Int) ∧ Hid (BothW w wr p mb rp d bs us vs k)) (fun i _ => vs.length - (intOf i).toNat)
  case atStart => exact ⟨0, [], [], Nat.zero_le _, rfl, HW4⟩
  case round =>
    clear HW4
    obtain ⟨k, bs, us, hk, rfl, HB⟩ := hrel
    by_cases hlt : k < vs.length
    rotate_left
    · have i1 : ¬ (k : Int) < (vs.length : Int) := by omega
      have HKE : Hid (k ≤ 60) := Lib.hid (by have := H60.out; omega)
      clear hk hlt
      go_upto_region 14 with fail
      obtain ⟨u7, hu7⟩ : ∃ u7, u7 = wr.drew := ⟨_, rfl⟩
      have hbd : Below wr.heap.size wr u7 := by rw [hu7]; exact (Below.refl _ _).drew
      have HB8 := Lib.hid (HB.out.call hbd)
      have HBL : Hid (bs.length < 1000000 ∧ us.length < 1000000) := Lib.hid (by
        have h1 := congrArg List.length HB8.out.same
        rw [List.length_map, List.length_map] at h1
        have h2 := HB8.out.len
        have h3 := HKE.out
        omega)
      have HAP : Hid (Apart (us.map VtM.x)) := Lib.hid (by rw [← HB8.out.same]; exact HB8.out.box.apart)
      have HRG : Hid (∀ x ∈ us.map VtM.x, (1 ≤ x.frm ∧ x.frm ≤ 63) ∧ 0 ≤ x.round) := Lib.hid (by rw [← HB8.out.same]; exact HB8.out.box.rng)
      have HRF : Hid (∀ kind round d, ForIs (us.map VtM.x) kind round d ((rForM us kind round d 63).map VtM.x)) := Lib.hid (fun kind round d => rForM_is HAP.out (fun x hx => (HRG.out x hx).1) kind round d)
      have HFO : Hid (Calls Tryz.prog 10 #[.pointer (some ⟨p, 0, none⟩), .int .i64 kind, .int .i64 round, .agg (d.map bv).toArray] u7 fun e w' => ∃ v ms, e = .returned v ∧ VtK.Own w' u7.heap.size v ms ∧ ForIs (bs.map VtM.x) kind round d (ms.map VtM.x) ∧ BSee w' ms ∧ Below u7.heap.size u7 w') := Lib.hid (for_any13 (some p) (some mb) bs kind round d HDL.out HBL.out.1 u7 HB8.out.box HB8.out.see)
      clear hbd HB
      refine wp_region_held_drew (S := fun w' => Box w' w.heap.size 24 (d.map bv).toArray) (by kernel_rfl) (by rw [← hu7]; exact HB8.out.dig) (fun hS => ?_)
      rw [← hu7] at hS ⊢
      clear hu7
      (refine take_at8 (i := 0) (d := 62) (v := .pointer (some ⟨p, 0, none⟩)) rfl (by kernel_rfl) (by kernel_rfl) (by kernel_rfl) (fun _ _ _ h => h) rfl (Or.inl ⟨by kernel_rfl, fun w hSw => by go_simp⟩) hS ?_)
      (refine take_at8 (i := 1) (d := 63) (v := .int .i64 kind) rfl (by kernel_rfl) (by kernel_rfl) (by kernel_rfl) (fun _ _ _ h => h) rfl (Or.inl ⟨by kernel_rfl, fun w hSw => by go_simp⟩) hS ?_)
      (refine take_at8 (i := 2) (d := 64) (v := .int .i64 round) rfl (by kernel_rfl) (by kernel_rfl) (by kernel_rfl) (fun _ _ _ h => h) rfl (Or.inl ⟨by kernel_rfl, fun w hSw => by go_simp⟩) hS ?_)
      (refine take_at8 (i := 3) (d := 65) (v := .agg (d.map bv).toArray) rfl (by kernel_rfl) (by kernel_rfl) (by kernel_rfl) (fun _ _ _ h => h) rfl (Or.inl ⟨by kernel_rfl, fun w hSw => by have hc := hSw.load_digest HDL.out; go_simp⟩) hS ?_)
      (refine take_at8 (i := 5) (d := 67) (v := .pointer (some ⟨rp, 0, none⟩)) rfl (by kernel_rfl) (by kernel_rfl) (by kernel_rfl) (fun _ _ _ h => h) rfl (Or.inl ⟨by kernel_rfl, fun w hSw => by go_simp⟩) hS ?_)
      (refine take_at8 (i := 6) (d := 68) (v := .int .i64 kind) rfl (by kernel_rfl) (by kernel_rfl) (by kernel_rfl) (fun _ _ _ h => h) rfl (Or.inl ⟨by kernel_rfl, fun w hSw => by go_simp⟩) hS ?_)
      (refine take_at8 (i := 7) (d := 69) (v := .int .i64 round) rfl (by kernel_rfl) (by kernel_rfl) (by kernel_rfl) (fun _ _ _ h => h) rfl (Or.inl ⟨by kernel_rfl, fun w hSw => by go_simp⟩) hS ?_)
      (refine take_at8 (i := 8) (d := 70) (v := .agg (d.map bv).toArray) rfl (by kernel_rfl) (by kernel_rfl) (by kernel_rfl) (fun _ _ _ h => h) rfl (Or.inl ⟨by kernel_rfl, fun w hSw => by have hc := hSw.load_digest HDL.out; go_simp⟩) hS ?_)
      refine wpAnyH_ready (rs := [4]) (by decide +kernel) (by simp) (AllReadyH.cons rfl (fun K hK => ?_) AllReadyH.nil)
      go_simp
      (go_at_call 10; (with_reducible refine (HFO.out).mono ?_); rintro e w9 ⟨v9, ms, rfl, ho9, hf9, hs9, hb9⟩)
      obtain ⟨Ax, cx, rfl⟩ := EK.Own.slice ho9
      have HR9 := Lib.hid (rfor_any rp us kind round d HDL.out HBL.out.2 w9 (HB8.out.ref.call hb9))
      have HX9 := Lib.hid (EK.Own.see ho9)
      have HS9 := Lib.hid hs9
      have HEQ : Hid (ms.map VtM.x = (rForM us kind round d 63).map VtM.x) := Lib.hid (ForIs.uniq HAP.out (by rw [← HB8.out.same]; exact hf9) (HRF.out kind round d))
      have HB9 := Lib.hid (HB8.out.call hb9)
      clear ho9 hs9 hf9
      refine hK.out _ _ (hS.below hb9 hS.lt) (fun hS => ?_)
      clear hK K
      (try simp only [Act.put])
      clear hb9
      refine wpAnyH_ready (rs := [9]) (by decide +kernel) (by simp) (AllReadyH.cons rfl (fun K hK => ?_) AllReadyH.nil)
      go_simp
      (go_at_call 11; (with_reducible refine (HR9.out).mono ?_); rintro e w10 ⟨v10, rfl, ho10, hb10⟩)
      obtain ⟨Ay, cy, rfl⟩ := EK.Own.slice ho10
      have HY10 := Lib.hid (EK.Own.see ho10)
      have HX10 := Lib.hid (EK.See.far HX9.out hb10)
      have HS10 := Lib.hid (HS9.out.call hb10)
      have HB10 := Lib.hid (HB9.out.call hb10)
      clear ho10
      refine hK.out _ _ (hS.below hb10 hS.lt) (fun hS => ?_)
      clear hK K
      (try simp only [Act.put])
      clear hb10
      (refine take_at8 (i := 10) (d := 15) (v := .slice Ax ms.length cx) rfl (by kernel_rfl) (by kernel_rfl) (by kernel_rfl) (fun _ _ _ h => h) rfl (Or.inl ⟨by kernel_rfl, fun w hSw => by go_simp⟩) hS ?_)
      (refine take_at8 (i := 11) (d := 16) (v := .slice Ay (rForM us kind round d 63).length cy) rfl (by kernel_rfl) (by kernel_rfl) (by kernel_rfl) (fun _ _ _ h => h) rfl (Or.inl ⟨by kernel_rfl, fun w hSw => by go_simp⟩) hS ?_)
      refine wpAnyH_done (by kernel_rfl) ?_ _
      clear hS HFO HR9 HX9 HS9 HB8 HB9
      go_simp
      have HLN : Hid (ms.length = (rForM us kind round d 63).length) := Lib.hid (by have := congrArg List.length HEQ.out; rw [List.length_map, List.length_map] at this; exact this)
      have HFN : Hid ((forF kind round d (us.map VtM.x)).length = (rForM us kind round d 63).length) := Lib.hid (by have := (HRF.out kind round d).len; rw [List.length_map] at this; exact this.symm)
      have HZS : Hid (∀ z ∈ rForM us kind round d 63, z ∈ vs) := Lib.hid (fun z hz => by
        have h1 : z ∈ us := by
          unfold rForM at hz
          obtain ⟨j, _, h2⟩ := List.mem_flatMap.1 hz
          exact (List.mem_filter.1 h2).1
        exact HB10.out.sub z h1)
      have HFW : Hid (∀ m ∈ ms, VFew m.x) := Lib.hid (fun m hm => by
        have h1 : m.x ∈ bs.map VtM.x := by
          rw [HB10.out.same]
          refine ((HRF.out kind round d).2 m.x ?_).1
          rw [← HEQ.out]
          exact List.mem_map.2 ⟨m, hm, rfl⟩
        obtain ⟨b, hb, he⟩ := List.mem_map.1 h1
        rw [← he]
        exact (HB10.out.box.ok b hb).2)
      have HCT : Hid (∀ w', Below w10.heap.size w10 w' → Calls Tryz.prog 12 #[.pointer (some ⟨p, 0, none⟩), .int .i64 kind, .int .i64 round, .agg (d.map bv).toArray] w' fun e w'' => e = .returned (.int .i64 ((rForM us kind round d 63).length : Int)) ∧ Below w'.heap.size w' w'') := Lib.hid (fun w' hb => by
        have h := count_box kind round HDL.out HBL.out.1 (HB10.out.call hb).box
        rw [HB10.out.same, HFN.out] at h
        exact h)
      have HVT : Hid (∀ w', Below w10.heap.size w10 w' → Calls Tryz.prog 13 #[.pointer (some ⟨p, 0, none⟩), .int .i64 round] w' fun e w'' => e = .returned (.int .i64 (votN (us.map VtM.x) round : Int)) ∧ Below w'.heap.size w' w'') := Lib.hid (fun w' hb => by
        have h := voters_box round HBL.out.1 (HB10.out.call hb).box
        rw [HB10.out.same] at h
        exact h)
      have HVR : Hid (∀ w', Below w10.heap.size w10 w' → Calls Tryz.prog 14 #[.pointer (some ⟨rp, 0, none⟩), .int .i64 round] w' fun e w'' => e = .returned (.int .i64 (votN (us.map VtM.x) round : Int)) ∧ Below w'.heap.size w' w'') := Lib.hid (fun w' hb => rvoters_any rp us round (fun x hx => (HRG.out x hx).1) HBL.out.2 w' (HB10.out.call hb).ref)
      have HRT : Hid (∀ n w', Below w10.heap.size w10 w' → Calls Tryz.prog 15 #[.pointer (some ⟨p, 0, none⟩), .int .i64 n] w' fun e w'' => ∃ z, e = .returned (.int .i64 z) ∧ ReachIs (us.map VtM.x) n z ∧ Below w'.heap.size w' w'') := Lib.hid (fun n w' hb => by
        have h := reached_box n HBL.out.1 (HB10.out.call hb).box
        rw [HB10.out.same] at h
        exact h)
      have HRR : Hid (∀ w', Below w10.heap.size w10 w' → Calls Tryz.prog 16 #[.pointer (some ⟨rp, 0, none⟩), .int .i64 q] w' fun e w'' => ∃ z, e = .returned (.int .i64 z) ∧ ReachIs (us.map VtM.x) q z ∧ Below w'.heap.size w' w'') := Lib.hid (fun w' hb => rreached_any rp us q HRG.out HBL.out.2 w' (HB10.out.call hb).ref)
      have ld := HB10.out.dig.load_digest HDL.out
      have hln := HLN.out
      rw [hln]
      generalize votN (us.map VtM.x) round = vn at *
      clear hln
      have HNS : Hid ((rForM us kind round d 63).length ≤ 63000000) := Lib.hid (by have h1 := rForM_le us kind round d 63; have h2 := HBL.out.2; omega)
      generalize rForM us kind round d 63 = zs at *
      generalize hnz : zs.length = nz at *
      have HNZ : Hid (nz ≤ 63000000) := HNS
      go_upto_region 17 with (first
        | (go_at_call 12; (with_reducible refine (HCT.out _ (Below.refl _ _)).mono ?_); rintro e wa ⟨rfl, hb⟩; have HBa : Hid (Below w10.heap.size w10 wa) := Lib.hid hb; clear hb)
        | (go_at_call 13; (with_reducible refine (HVT.out _ HBa.out).mono ?_); rintro e wb ⟨rfl, hb⟩; have HBb : Hid (Below w10.heap.size w10 wb) := Lib.hid (HBa.out.trans (hb.mono HBa.out.size)); clear hb)
        | (go_at_call 14; (with_reducible refine (HVR.out _ HBb.out).mono ?_); rintro e wc ⟨rfl, hb⟩; have HBc : Hid (Below w10.heap.size w10 wc) := Lib.hid (HBb.out.trans (hb.mono HBb.out.size)); clear hb)
        | (go_at_call 15; (with_reducible refine (HRT.out q _ HBc.out).mono ?_); rintro e wd ⟨z, rfl, hz, hb⟩; have HZ := Lib.hid hz; have HBd : Hid (Below w10.heap.size w10 wd) := Lib.hid (HBc.out.trans (hb.mono HBc.out.size)); clear hb hz)
        | (go_at_call 16; (with_reducible refine (HRR.out _ HBd.out).mono ?_); rintro e we ⟨z', rfl, hz, hb⟩; obtain rfl := hz.uniq HZ.out; have HBe : Hid (Below w10.heap.size w10 we) := Lib.hid (HBd.out.trans (hb.mono HBd.out.size)); clear hb hz)
        | (go_at_call 15; (with_reducible refine (HRT.out 0 _ HBe.out).mono ?_); rintro e wf ⟨z0, rfl, hz, hb⟩; obtain rfl := reach_zero hz; have HBf : Hid (Below w10.heap.size w10 wf) := Lib.hid (HBe.out.trans (hb.mono HBe.out.size)); clear hb hz))
      have HBW := Lib.hid (HB10.out.call HBf.out)
      clear HCT HVT HVR HRT HRR ld HBa HBb HBc HBd HBe HZ HNS
      go_wp2
      trace_state
      go_loopw [112] (fun i wx => ∃ (j : Nat), j ≤ nz ∧ i = .int .i64 (j : Int) ∧ Hid (Below w10.heap.size w10 wx)) (fun i _ => nz - (intOf i).toNat)
      case atStart => exact ⟨0, Nat.zero_le _, rfl, HBf⟩
      case round =>
        clear HBf HBW
        obtain ⟨j, hj, rfl, HG⟩ := hrel
        by_cases hjl : j < nz
        · have HJL := Lib.hid hjl
          have hjx : j < ms.length := by rw [HLN.out]; exact hjl
          have hjz : j < zs.length := by rw [hnz]; exact hjl
          obtain ⟨gx, ox, rfl, hlx⟩ := see_load HX10.out hjx
          obtain ⟨gy, oy, rfl, hly⟩ := see_load HY10.out hjz
          have HLX := Lib.hid hlx
          have HLY := Lib.hid hly
          have HSM : Hid (∀ w', Below w10.heap.size w10 w' → Calls Tryz.prog 17 #[.agg (ms[j]'hjx).cells.toArray, .agg (zs[j]'hjz).cells.toArray] w' fun e w'' => e = .returned (.bool true) ∧ Below w'.heap.size w' w'') := Lib.hid (fun w' hb => by
            refine rsame_true _ _ ?_ (HFW.out _ (List.getElem_mem hjx)) w' ((HS10.out _ (List.getElem_mem hjx)).call hb) ((HQ.out _ (HZS.out _ (List.getElem_mem hjz))).see.call ((HB10.out.call hb).far))
            have h1 : (ms.map VtM.x)[j]? = (zs.map VtM.x)[j]? := by rw [HEQ.out]
            rw [List.getElem?_map, List.getElem?_map, List.getElem?_eq_getElem hjx, List.getElem?_eq_getElem hjz] at h1
            simp only [Option.map_some, Option.some.injEq] at h1
            exact h1.symm)
          have a1 : (j : Int) < (nz : Int) := by omega
          have a0 : (0 : Int) ≤ (j : Int) := by omega
          have wj : IntKind.i64.wrap ((j : Int) + 1) = ((j + 1 : Nat) : Int) := by rw [IntKind.wrap_i64]; have := HNZ.out; omega
          generalize ms[j]'hjx = mx at *
          generalize zs[j]'hjz = my at *
          clear hlx hly hjx hjz
          go_upto_region 20 with fail
          obtain ⟨u7, hu7⟩ : ∃ u7, u7 = wr.drew := ⟨_, rfl⟩
          have HG8 : Hid (Below w10.heap.size w10 u7) := Lib.hid (by rw [hu7]; exact HG.out.drew)
          refine wp_region_held_drew (S := fun w' => Below w10.heap.size w10 w') (by kernel_rfl) (by rw [← hu7]; exact HG8.out) (fun hS => ?_)
          rw [← hu7] at hS ⊢
          clear hu7
          (refine take_at8 (i := 0) (d := 115) (v := .slice (some ⟨gx, ox, none⟩) nz cx) rfl (by kernel_rfl) (by kernel_rfl) (by kernel_rfl) (fun _ _ _ h => h) rfl (Or.inl ⟨by kernel_rfl, fun w hSw => by go_simp⟩) hS ?_)
          (refine take_at8 (i := 1) (d := 116) (v := .int .i64 (j : Int)) rfl (by kernel_rfl) (by kernel_rfl) (by kernel_rfl) (fun _ _ _ h => h) rfl (Or.inl ⟨by kernel_rfl, fun w hSw => by go_simp⟩) hS ?_)
          (refine take_at8 (i := 2) (d := 117) (v := .pointer (some ⟨gx, ox + j * 41, none⟩)) rfl (by kernel_rfl) (by kernel_rfl) (by kernel_rfl) (fun _ _ _ h => h) rfl (Or.inl ⟨by kernel_rfl, fun w hSw => by go_simp⟩) hS ?_)
          (refine take_at8 (i := 3) (d := 118) (v := .agg mx.cells.toArray) rfl (by kernel_rfl) (by kernel_rfl) (by kernel_rfl) (fun _ _ _ h => h) rfl (Or.inl ⟨by kernel_rfl, fun w hSw => by have hc := HLX.out w hSw; go_simp⟩) hS ?_)
          (refine take_at8 (i := 4) (d := 119) (v := .slice (some ⟨gy, oy, none⟩) nz cy) rfl (by kernel_rfl) (by kernel_rfl) (by kernel_rfl) (fun _ _ _ h => h) rfl (Or.inl ⟨by kernel_rfl, fun w hSw => by go_simp⟩) hS ?_)
          (refine take_at8 (i := 5) (d := 120) (v := .int .i64 (j : Int)) rfl (by kernel_rfl) (by kernel_rfl) (by kernel_rfl) (fun _ _ _ h => h) rfl (Or.inl ⟨by kernel_rfl, fun w hSw => by go_simp⟩) hS ?_)
          (refine take_at8 (i := 6) (d := 121) (v := .pointer (some ⟨gy, oy + j * 41, none⟩)) rfl (by kernel_rfl) (by kernel_rfl) (by kernel_rfl) (fun _ _ _ h => h) rfl (Or.inl ⟨by kernel_rfl, fun w hSw => by go_simp⟩) hS ?_)
          (refine take_at8 (i := 7) (d := 122) (v := .agg my.cells.toArray) rfl (by kernel_rfl) (by kernel_rfl) (by kernel_rfl) (fun _ _ _ h => h) rfl (Or.inl ⟨by kernel_rfl, fun w hSw => by have hc := HLY.out w hSw; go_simp⟩) hS ?_)
          refine wpAnyH_ready (rs := [8]) (by decide +kernel) (by simp) (AllReadyH.cons rfl (fun K hK => ?_) AllReadyH.nil)
          go_simp
          (go_at_call 17; (with_reducible refine (HSM.out _ hS).mono ?_); rintro e w9 ⟨rfl, hb9⟩)
          have HG9 := Lib.hid (hS.trans (hb9.mono hS.size))
          refine hK.out _ _ (HG9.out) (fun hS => ?_)
          clear hK K
          (try simp only [Act.put])
          clear hb9
          (refine take_at8 (i := 9) (d := 124) (v := .bool false) rfl (by kernel_rfl) (by kernel_rfl) (by kernel_rfl) (fun _ _ _ h => h) rfl (Or.inl ⟨by kernel_rfl, fun w hSw => by go_simp⟩) hS ?_)
          refine wpAnyH_done (by kernel_rfl) ?_ _
          clear hS
          go_simp
          go_wp2
          go_roundw
          case rel => exact ⟨j + 1, HJL.out, by go_num, HG9⟩
          case measure => have := HJL.out; simp [intOf]; omega
        have HJE : Hid (nz ≤ j) := Lib.hid (by omega)
        have a1 : ¬ (j : Int) < (nz : Int) := by omega
        have HBW := Lib.hid (HB10.out.call HG.out)
        clear hj hjl HX10 HY10 HS10 HEQ HLN HZS HFW HB10 HG
        go_upto_region 23 with fail
        have HWN : Hid (Calls Tryz.prog 18 #[.pointer (some ⟨p, 0, none⟩), .int .i64 kind, .int .i64 q] wr fun e w' => ∃ d r fb, e = .returned (.tuple #[.agg (d.map bv).toArray, .int .i64 r, .bool fb]) ∧ d.length = 32 ∧ WinIs (bs.map VtM.x) kind q d r fb ∧ Below wr.heap.size wr w') := Lib.hid (winner_any (some p) (some mb) bs kind q HBL.out.1 wr HBW.out.box)
        rw [HBW.out.same] at HWN
        have hac := al_dg13
        go_upto_region 24 with (go_at_call 18; (with_reducible refine (HWN.out).mono ?_); rintro e wa ⟨dw, r, fb, rfl, hdw, hwin, hb⟩; have HBa := Lib.hid (HBW.out.call hb); have HDW := Lib.hid hdw; have HWI := Lib.hid hwin; obtain ⟨wb, hstb, hbb, hblb⟩ := laid_dgz wa hdw; have HXb := Lib.hid hbb; have HBb := Lib.hid (HBa.out.call hblb); clear hb hbb hblb hwin hdw)
        clear hstb hac HBa HWN HBW
        generalize wa.heap.size = e8 at *
        have HRW := Lib.hid (rwinner_any rp us kind q (fun x hx => (HRG.out x hx).2) HBL.out.2 wb HBb.out.ref)
        go_upto_region 25 with (go_at_call 19; (with_reducible refine (HRW.out).mono ?_); rintro e wc ⟨z, rfl, hz, hb⟩; have HZM := Lib.hid (hz.cand HAP.out (fun x hx => (HRG.out x hx).1)); have HBc := Lib.hid (HBb.out.call hb); have HXc := Lib.hid (HXb.out.below hb HXb.out.lt); clear hb hz)
        clear HRW HBb HXb
        have hbd := bd_dg0
        cases fb with
        | false =>
          obtain ⟨rfl, rfl, rfl⟩ := win_none HWI.out HZM.out
          have ld8 := HXc.out.load_digest rfl
          have hq : ∀ w', (eqDigest (.agg (zeros.map bv).toArray) (.agg (zeros.map bv).toArray)).run Tryz.prog w' = .ok true w' := fun w' => by rw [eq_digest zeros zeros rfl rfl w', decide_eq_true rfl]
          go_upto_region 27 with fail
          clear ld8 hq hbd HWI HZM
          go_upto_region 28 with fail
          go_wp2
          go_loopw [180] (fun i wx => ∃ (k2 : Nat), k2 ≤ vs.length ∧ i = .int .i64 (k2 : Int) ∧ Hid (BothW w wx p mb rp d bs us vs k ∧ Box wx e8 24 (zeros.map bv).toArray)) (fun i _ => vs.length - (intOf i).toNat)
          case atStart => exact ⟨0, Nat.zero_le _, rfl, Lib.hid ⟨HBc.out, HXc.out⟩⟩
          case round =>
            clear HBc HXc
            obtain ⟨k2, hk2, rfl, HB2⟩ := hrel
            by_cases hlt : k2 < vs.length
            rotate_left
            · have i1 : ¬ (k2 : Int) < (vs.length : Int) := by omega
              have HBE := Lib.hid HB2.out.1
              clear hk2 hlt HB2
              go_upto_region 33 with fail
              have HNW := Lib.hid (winner_any none none [] kind q (by simp) wr rfl)
              have HNW2 : Hid (Calls Tryz.prog 18 #[.pointer none, .int .i64 kind, .int .i64 q] wr fun e w' => ∃ d r fb, e = .returned (.tuple #[.agg (d.map bv).toArray, .int .i64 r, .bool fb]) ∧ d.length = 32 ∧ WinIs ([] : List VtX) kind q d r fb ∧ Below wr.heap.size wr w') := HNW
              have hac := al_dg13
              clear HNW
              go_upto_region 35 with (go_at_call 18; (with_reducible refine (HNW2.out).mono ?_); rintro e na ⟨dn, rn, fn, rfl, hdn, hwn, hb⟩; obtain rfl := win_nil hwn; obtain ⟨nb, hstn, _, hbn⟩ := laid_dgz na hdn; have HNB := Lib.hid (HBE.out.call hb); have HNC := Lib.hid (HNB.out.call hbn); clear hb hbn hwn)
              clear hstn hac HNW2 HNB
              have HA0 : Hid (∀ w', Calls Tryz.prog 8 #[.pointer none, .agg zvt.cells.toArray] w' fun e w'' => e = .returned (.bool false) ∧ Below w'.heap.size w' w'') := Lib.hid (fun w' => add_nil13 zvt w')
              have HC0 : Hid (∀ w', Calls Tryz.prog 12 #[.pointer none, .int .i64 kind, .int .i64 round, .agg (d.map bv).toArray] w' fun e w'' => e = .returned (.int .i64 0) ∧ Below w'.heap.size w' w'') := Lib.hid (fun w' => count_any13 none none [] kind round d HDL.out (by simp) w' rfl)
              have HV0 : Hid (∀ w', Calls Tryz.prog 13 #[.pointer none, .int .i64 round] w' fun e w'' => e = .returned (.int .i64 0) ∧ Below w'.heap.size w' w'') := Lib.hid (fun w' => by
                have h := voters_any none none [] round (by simp) w' rfl
                rw [List.map_nil, votN_nil] at h
                exact h)
              have HR0 : Hid (∀ w', Calls Tryz.prog 15 #[.pointer none, .int .i64 q] w' fun e w'' => ∃ z, e = .returned (.int .i64 z) ∧ ReachIs [] q z ∧ Below w'.heap.size w' w'') := Lib.hid (fun w' => reached_any none none [] q (by simp) w' rfl)
              have HF0 : Hid (∀ w', Calls Tryz.prog 10 #[.pointer none, .int .i64 kind, .int .i64 round, .agg (d.map bv).toArray] w' fun e w'' => ∃ v ms, e = .returned v ∧ VtK.Own w'' w'.heap.size v ms ∧ ForIs [] kind round d (ms.map VtM.x) ∧ BSee w'' ms ∧ Below w'.heap.size w' w'') := Lib.hid (fun w' => for_any13 none none [] kind round d HDL.out (by simp) w' rfl (fun m hm => by cases hm))
              have hbv := bd_vt0
              go_wp2_with (first
                | (go_at_call 8; (with_reducible refine (HA0.out _).mono ?_); rintro e n1 ⟨rfl, hb⟩; have HN1 := Lib.hid (HNC.out.call hb); have ln1 := HN1.out.dig.load_digest HDL.out; clear hb)
                | (go_at_call 12; (with_reducible refine (HC0.out _).mono ?_); rintro e n2 ⟨rfl, hb⟩; have HN2 := Lib.hid (HN1.out.call hb); clear hb)
                | (go_at_call 13; (with_reducible refine (HV0.out _).mono ?_); rintro e n3 ⟨rfl, hb⟩; have HN3 := Lib.hid (HN2.out.call hb); clear hb)
                | (go_at_call 15; (with_reducible refine (HR0.out _).mono ?_); rintro e n4 ⟨z0, rfl, hz, hb⟩; obtain rfl := reach_nil hz; have HN4 := Lib.hid (HN3.out.call hb); have ln4 := HN4.out.dig.load_digest HDL.out; clear hb hz)
                | (go_at_call 10; (with_reducible refine (HF0.out _).mono ?_); rintro e n5 ⟨v5, ms5, rfl, ho5, hf5, _, hb⟩; obtain rfl := for_nil hf5; obtain ⟨A5, c5, rfl⟩ := EK.Own.slice ho5; have HN5 := Lib.hid (HN4.out.call hb); clear hb ho5 hf5))
              go_ret
              exact ⟨rfl, HN5.out.far⟩
            have HLT := Lib.hid hlt
            obtain ⟨g, o, rfl, _, hr⟩ := EK.See.range (EK.See.far HS.out HB2.out.1.far) hlt
            have lk : (ldVt (.pointer (some ⟨g, o + k2 * 41, none⟩))).run Tryz.prog wr = .ok (.agg (vs[k2]'hlt).cells.toArray) wr := range_vt (vs[k2]'hlt).x.len (hr k2 hlt)
            have i1 : (k2 : Int) < (vs.length : Int) := by omega
            have i0 : (0 : Int) ≤ (k2 : Int) := by omega
            have wk : IntKind.i64.wrap ((k2 : Int) + 1) = ((k2 + 1 : Nat) : Int) := by rw [IntKind.wrap_i64]; have := HN.out; omega
            generalize vs[k2]'hlt = u at *
            obtain ⟨w5, hst5, hb5, hbl5⟩ := laid_vt wr u
            have hal := al_vt
            have HU5 := Lib.hid hb5
            have HB5 : Hid (BothW w w5 p mb rp d bs us vs k ∧ Box w5 e8 24 (zeros.map bv).toArray) := Lib.hid ⟨HB2.out.1.call hbl5, HB2.out.2.below hbl5 HB2.out.2.lt⟩
            clear hr hb5 hbl5 HB2
            go_upto_region 30 with fail
            clear lk hst5 hal
            generalize wr.heap.size = qb at *
            go_wp2
            go_roundw
            case rel => exact ⟨k2 + 1, HLT.out, by go_num, HB5⟩
            case measure => have := HLT.out; simp [intOf]; omega
        | true =>
          obtain ⟨rfl, h0, hne, hqf, hly⟩ := win_some HWI.out HZM.out (fun x hx => (HRG.out x hx).2)
          have HLY := Lib.hid hly
          have ld8 := HXc.out.load_digest HDW.out
          have hq : ∀ w', (eqDigest (.agg (dw.map bv).toArray) (.agg (zeros.map bv).toArray)).run Tryz.prog w' = .ok false w' := fun w' => by rw [eq_digest _ _ HDW.out rfl w', decide_eq_false hne]
          have hjl : ¬ ((rForM us kind z dw 63).length : Int) < q := by
            have h6 := (HRF.out kind z dw).len
            rw [List.length_map] at h6
            rw [h6]
            omega
          have HF25 := Lib.hid (rfor_any rp us kind z dw HDW.out HBL.out.2 wc HBc.out.ref)
          generalize rForM us kind z dw 63 = fm at *
          go_upto_region 27 with (go_at_call 11; (with_reducible refine (HF25.out).mono ?_); rintro e wd ⟨v7, rfl, ho7, hb⟩; obtain ⟨A7, c7, rfl⟩ := EK.Own.slice ho7; have HBd := Lib.hid (HBc.out.call hb); have HXd := Lib.hid (HXc.out.below hb HXc.out.lt); clear hb ho7)
          clear ld8 hq hbd hjl HF25 HWI HZM HBc HXc hne hqf hly h0
          go_upto_region 28 with fail
          go_wp2
          go_loopw [180] (fun i wx => ∃ (k2 : Nat), k2 ≤ vs.length ∧ i = .int .i64 (k2 : Int) ∧ Hid (BothW w wx p mb rp d bs us vs k ∧ Box wx e8 24 (dw.map bv).toArray)) (fun i _ => vs.length - (intOf i).toNat)
          case atStart => exact ⟨0, Nat.zero_le _, rfl, Lib.hid ⟨HBd.out, HXd.out⟩⟩
          case round =>
            clear HBd HXd
            obtain ⟨k2, hk2, rfl, HB2⟩ := hrel
            by_cases hlt : k2 < vs.length
            rotate_left
            · have i1 : ¬ (k2 : Int) < (vs.length : Int) := by omega
              have HBE := Lib.hid HB2.out.1
              clear hk2 hlt HB2
              go_upto_region 33 with fail
              have HNW := Lib.hid (winner_any none none [] kind q (by simp) wr rfl)
              have HNW2 : Hid (Calls Tryz.prog 18 #[.pointer none, .int .i64 kind, .int .i64 q] wr fun e w' => ∃ d r fb, e = .returned (.tuple #[.agg (d.map bv).toArray, .int .i64 r, .bool fb]) ∧ d.length = 32 ∧ WinIs ([] : List VtX) kind q d r fb ∧ Below wr.heap.size wr w') := HNW
              have hac := al_dg13
              clear HNW
              go_upto_region 35 with (go_at_call 18; (with_reducible refine (HNW2.out).mono ?_); rintro e na ⟨dn, rn, fn, rfl, hdn, hwn, hb⟩; obtain rfl := win_nil hwn; obtain ⟨nb, hstn, _, hbn⟩ := laid_dgz na hdn; have HNB := Lib.hid (HBE.out.call hb); have HNC := Lib.hid (HNB.out.call hbn); clear hb hbn hwn)
              clear hstn hac HNW2 HNB
              have HA0 : Hid (∀ w', Calls Tryz.prog 8 #[.pointer none, .agg zvt.cells.toArray] w' fun e w'' => e = .returned (.bool false) ∧ Below w'.heap.size w' w'') := Lib.hid (fun w' => add_nil13 zvt w')
              have HC0 : Hid (∀ w', Calls Tryz.prog 12 #[.pointer none, .int .i64 kind, .int .i64 round, .agg (d.map bv).toArray] w' fun e w'' => e = .returned (.int .i64 0) ∧ Below w'.heap.size w' w'') := Lib.hid (fun w' => count_any13 none none [] kind round d HDL.out (by simp) w' rfl)
              have HV0 : Hid (∀ w', Calls Tryz.prog 13 #[.pointer none, .int .i64 round] w' fun e w'' => e = .returned (.int .i64 0) ∧ Below w'.heap.size w' w'') := Lib.hid (fun w' => by
                have h := voters_any none none [] round (by simp) w' rfl
                rw [List.map_nil, votN_nil] at h
                exact h)
              have HR0 : Hid (∀ w', Calls Tryz.prog 15 #[.pointer none, .int .i64 q] w' fun e w'' => ∃ z, e = .returned (.int .i64 z) ∧ ReachIs [] q z ∧ Below w'.heap.size w' w'') := Lib.hid (fun w' => reached_any none none [] q (by simp) w' rfl)
              have HF0 : Hid (∀ w', Calls Tryz.prog 10 #[.pointer none, .int .i64 kind, .int .i64 round, .agg (d.map bv).toArray] w' fun e w'' => ∃ v ms, e = .returned v ∧ VtK.Own w'' w'.heap.size v ms ∧ ForIs [] kind round d (ms.map VtM.x) ∧ BSee w'' ms ∧ Below w'.heap.size w' w'') := Lib.hid (fun w' => for_any13 none none [] kind round d HDL.out (by simp) w' rfl (fun m hm => by cases hm))
              have hbv := bd_vt0
              go_wp2_with (first
                | (go_at_call 8; (with_reducible refine (HA0.out _).mono ?_); rintro e n1 ⟨rfl, hb⟩; have HN1 := Lib.hid (HNC.out.call hb); have ln1 := HN1.out.dig.load_digest HDL.out; clear hb)
                | (go_at_call 12; (with_reducible refine (HC0.out _).mono ?_); rintro e n2 ⟨rfl, hb⟩; have HN2 := Lib.hid (HN1.out.call hb); clear hb)
                | (go_at_call 13; (with_reducible refine (HV0.out _).mono ?_); rintro e n3 ⟨rfl, hb⟩; have HN3 := Lib.hid (HN2.out.call hb); clear hb)
                | (go_at_call 15; (with_reducible refine (HR0.out _).mono ?_); rintro e n4 ⟨z0, rfl, hz, hb⟩; obtain rfl := reach_nil hz; have HN4 := Lib.hid (HN3.out.call hb); have ln4 := HN4.out.dig.load_digest HDL.out; clear hb hz)
                | (go_at_call 10; (with_reducible refine (HF0.out _).mono ?_); rintro e n5 ⟨v5, ms5, rfl, ho5, hf5, _, hb⟩; obtain rfl := for_nil hf5; obtain ⟨A5, c5, rfl⟩ := EK.Own.slice ho5; have HN5 := Lib.hid (HN4.out.call hb); clear hb ho5 hf5))
              go_ret
              exact ⟨rfl, HN5.out.far⟩
            have HLT := Lib.hid hlt
            obtain ⟨g, o, rfl, _, hr⟩ := EK.See.range (EK.See.far HS.out HB2.out.1.far) hlt
            have lk : (ldVt (.pointer (some ⟨g, o + k2 * 41, none⟩))).run Tryz.prog wr = .ok (.agg (vs[k2]'hlt).cells.toArray) wr := range_vt (vs[k2]'hlt).x.len (hr k2 hlt)
            have i1 : (k2 : Int) < (vs.length : Int) := by omega
            have i0 : (0 : Int) ≤ (k2 : Int) := by omega
            have wk : IntKind.i64.wrap ((k2 : Int) + 1) = ((k2 + 1 : Nat) : Int) := by rw [IntKind.wrap_i64]; have := HN.out; omega
            generalize vs[k2]'hlt = u at *
            obtain ⟨w5, hst5, hb5, hbl5⟩ := laid_vt wr u
            have hal := al_vt
            have HU5 := Lib.hid hb5
            have HB5 : Hid (BothW w w5 p mb rp d bs us vs k ∧ Box w5 e8 24 (dw.map bv).toArray) := Lib.hid ⟨HB2.out.1.call hbl5, HB2.out.2.below hbl5 HB2.out.2.lt⟩
            clear hr hb5 hbl5 HB2
            go_upto_region 30 with fail
            clear lk hst5 hal
            generalize wr.heap.size = qb at *
            have u0 : w5.cell? ⟨qb, 0, none⟩ = some (.int .i64 u.x.kind) := HU5.out.vt_0
            have u3 : w5.cell? ⟨qb, 3, none⟩ = some (.int .i64 u.x.round) := HU5.out.vt_3
            have lv : (ldDigest (.pointer (some ⟨qb, 4, none⟩))).run Tryz.prog w5 = .ok (.agg (u.x.dig.map bv).toArray) w5 := range_load HU5.out.vt_dig u.x.len
            have ldw := HB5.out.2.load_digest HDW.out
            have hbd := bd_dg0
            by_cases h1 : u.x.round = z
            rotate_left
            · go_wp2
              go_roundw
              case rel => exact ⟨k2 + 1, HLT.out, by go_num, HB5⟩
              case measure => have := HLT.out; simp [intOf]; omega
            by_cases h2 : u.x.kind = kind
            rotate_left
            · go_wp2
              go_roundw
              case rel => exact ⟨k2 + 1, HLT.out, by go_num, HB5⟩
              case measure => have := HLT.out; simp [intOf]; omega
            by_cases h3 : u.x.dig = zeros
            · have hq : ∀ w', (eqDigest (.agg (zeros.map bv).toArray) (.agg (zeros.map bv).toArray)).run Tryz.prog w' = .ok true w' := fun w' => by rw [eq_digest zeros zeros rfl rfl w', decide_eq_true rfl]
              rw [h3] at lv
              go_wp2
              go_roundw
              case rel => exact ⟨k2 + 1, HLT.out, by go_num, HB5⟩
              case measure => have := HLT.out; simp [intOf]; omega
            have hq : ∀ w', (eqDigest (.agg (u.x.dig.map bv).toArray) (.agg (zeros.map bv).toArray)).run Tryz.prog w' = .ok false w' := fun w' => by rw [eq_digest _ _ u.x.len rfl w', decide_eq_false h3]
            have HBF := Lib.hid (before13_any u.x.dig dw u.x.len HDW.out w5)
            cases hbf : bef13 u.x.dig dw with
            | false =>
              rw [hbf] at HBF
              clear hbf
              go_wp2_with (go_at_call 20; (with_reducible refine (HBF.out).mono ?_); rintro e w6 ⟨rfl, hb⟩; have HB6 : Hid (BothW w w6 p mb rp d bs us vs k ∧ Box w6 e8 24 (dw.map bv).toArray) := Lib.hid ⟨HB5.out.1.call hb, HB5.out.2.below hb HB5.out.2.lt⟩; clear hb)
              go_roundw
              case rel => exact ⟨k2 + 1, HLT.out, by go_num, HB6⟩
              case measure => have := HLT.out; simp [intOf]; omega
            | true =>
              have hnl : ¬ q ≤ ((rForM us kind z u.x.dig 63).length : Int) := by
                have h5 := win_least HQ1.out HLY.out h3 hbf
                have h6 := (HRF.out kind z u.x.dig).len
                rw [List.length_map] at h6
                rw [h6]
                exact h5
              have HNL := Lib.hid hnl
              have HFR : Hid (∀ w', RBox w' rp us → Calls Tryz.prog 11 #[.pointer (some ⟨rp, 0, none⟩), .int .i64 kind, .int .i64 z, .agg (u.x.dig.map bv).toArray] w' fun e w'' => ∃ v, e = .returned v ∧ VtK.Own w'' w'.heap.size v (rForM us kind z u.x.dig 63) ∧ Below w'.heap.size w' w'') := Lib.hid (fun w' h => rfor_any rp us kind z u.x.dig u.x.len HBL.out.2 w' h)
              rw [hbf] at HBF
              clear hbf
              generalize rForM us kind z u.x.dig 63 = fm at *
              go_wp2_with (first
                | (go_at_call 20; (with_reducible refine (HBF.out).mono ?_); rintro e w6 ⟨rfl, hb⟩; have HB6 : Hid (BothW w w6 p mb rp d bs us vs k ∧ Box w6 e8 24 (dw.map bv).toArray) := Lib.hid ⟨HB5.out.1.call hb, HB5.out.2.below hb HB5.out.2.lt⟩; have lv6 : (ldDigest (.pointer (some ⟨qb, 4, none⟩))).run Tryz.prog w6 = .ok (.agg (u.x.dig.map bv).toArray) w6 := range_load (HU5.out.below hb HU5.out.lt).vt_dig u.x.len; clear hb)
                | (go_at_call 11; (with_reducible refine (HFR.out _ HB6.out.1.ref).mono ?_); rintro e w7 ⟨v7, rfl, ho7, hb⟩; obtain ⟨A7, c7, rfl⟩ := EK.Own.slice ho7; have HB7 : Hid (BothW w w7 p mb rp d bs us vs k ∧ Box w7 e8 24 (dw.map bv).toArray) := Lib.hid ⟨HB6.out.1.call hb, HB6.out.2.below hb HB6.out.2.lt⟩; clear hb ho7))
              go_roundw
              case rel => exact ⟨k2 + 1, HLT.out, by go_num, HB7⟩
              case measure => have := HLT.out; simp [intOf]; omega
    have HLT := Lib.hid hlt
    obtain ⟨g, o, rfl, _, hr⟩ := EK.See.range (EK.See.far HS.out HB.out.far) hlt
    have lk : (ldVt (.pointer (some ⟨g, o + k * 41, none⟩))).run Tryz.prog wr = .ok (.agg (vs[k]'hlt).cells.toArray) wr := range_vt (vs[k]'hlt).x.len (hr k hlt)
    have HA := Lib.hid (HQ.out _ (List.getElem_mem hlt))
    have HMV := Lib.hid (List.getElem_mem hlt)
    have i1 : (k : Int) < (vs.length : Int) := by omega
    have i0 : (0 : Int) ≤ (k : Int) := by omega
    have wk : IntKind.i64.wrap ((k : Int) + 1) = ((k + 1 : Nat) : Int) := by rw [IntKind.wrap_i64]; have := HN.out; omega
    generalize vs[k]'hlt = m at *
    obtain ⟨w5, hst5, hb5, hbl5⟩ := laid_vt wr m
    have hal := al_vt
    have HV5 := Lib.hid hb5
    have HB5 := Lib.hid (HB.out.call hbl5)
    have HQB : Hid (mb < wr.heap.size ∧ rp < wr.heap.size) := Lib.hid ⟨HB.out.box.map.lt, by obtain ⟨_, _, h1, _⟩ := HB.out.ref.ex; exact h1.lt⟩
    clear hr hb5 hbl5 HB
    go_upto_region 9 with fail
    clear lk hst5 hal
    generalize wr.heap.size = qb at *
    have lv := HV5.out.ld_vt
    have HGD := Lib.hid (rvgood_any m w5)
    cases hg : vGood m.x with
    | false =>
      rw [hg] at HGD
      go_wp2_with (go_at_call 6; (with_reducible refine (HGD.out).mono ?_); rintro e w6 ⟨rfl, hb⟩; have HF6 := Lib.hid (HB5.out.far.trans (hb.mono HB5.out.far.size)); clear hb)
      go_ret
      exact ⟨rfl, HF6.out⟩
    | true =>
      rw [hg] at HGD
      have HGR : Hid (∀ w', Calls Tryz.prog 7 #[.agg m.sg.cells] w' fun e w'' => e = .returned (.bool (decide (200 < m.x.opn.length) || decide (200 < m.x.sht.length) || decide (200 < m.x.pth.length))) ∧ Below w'.heap.size w' w'') := Lib.hid (fun w' => vgreat_any _ _ _ _ _ _ _ _ _ _ w')
      have HLG : Hid (∀ w', Box w' qb 37 m.cells.toArray → (ldSg (.pointer (some ⟨qb, 37, none⟩))).run Tryz.prog w' = .ok (.agg m.sg.cells) w') := Lib.hid (fun w' h => h.ld_vsg)
      cases hgr : (decide (200 < m.x.opn.length) || decide (200 < m.x.sht.length) || decide (200 < m.x.pth.length)) with
      | true =>
        rw [hgr] at HGR
        go_wp2_with (first
          | (go_at_call 6; (with_reducible refine (HGD.out).mono ?_); rintro e w6 ⟨rfl, hb⟩; have HF6 := Lib.hid (HB5.out.far.trans (hb.mono HB5.out.far.size)); have lg := HLG.out w6 (HV5.out.below hb HV5.out.lt); clear hb)
          | (go_at_call 7; (with_reducible refine (HGR.out _).mono ?_); rintro e w7 ⟨rfl, hb⟩; have HF7 := Lib.hid (HF6.out.trans (hb.mono HF6.out.size)); clear hb))
        go_ret
        exact ⟨rfl, HF7.out⟩
      | false =>
        rw [hgr] at HGR
        have HOK := Lib.hid (HA.out.ok hg)
        have HFW := Lib.hid (few_of hgr)
        clear hg hgr
        go_upto_region 11 with (first
          | (go_at_call 6; (with_reducible refine (HGD.out).mono ?_); rintro e w6 ⟨rfl, hb⟩; have HB6 := Lib.hid (HB5.out.call hb); have HV6 := Lib.hid (HV5.out.below hb HV5.out.lt); have lg := HLG.out w6 HV6.out; clear hb)
          | (go_at_call 7; (with_reducible refine (HGR.out _).mono ?_); rintro e w7 ⟨rfl, hb⟩; have HB7 := Lib.hid (HB6.out.call hb); have HV7 := Lib.hid (HV6.out.below hb HV6.out.lt); clear hb))
        clear lg lv HGD HGR HLG HB5 HV5 HB6 HV6
        obtain ⟨u7, hu7⟩ : ∃ u7, u7 = w7.drew := ⟨_, rfl⟩
        have hbd : Below w7.heap.size w7 u7 := by rw [hu7]; exact (Below.refl _ _).drew
        have HB8 := Lib.hid (HB7.out.call hbd)
        have HV8 := Lib.hid (HV7.out.below hbd HV7.out.lt)
        have HBL : Hid (bs.length < 1000000 ∧ us.length < 1000000) := Lib.hid (by
          have h1 := congrArg List.length HB8.out.same
          rw [List.length_map, List.length_map] at h1
          have h2 := HB8.out.len
          have h3 := HLT.out
          have h4 := H60.out
          omega)
        obtain ⟨hp, hhp⟩ : ∃ hp, hp = !hasPl (us.map VtM.x) m.x := ⟨_, rfl⟩
        have had := add_any13 p mb bs m HOK.out HFW.out HBL.out.1 u7 HB8.out.box (HA.out.see.call HB8.out.far)
        rw [HB8.out.same, ← hhp] at had
        have HAD := Lib.hid had
        have hrd := fun w' h => radd_any rp us m HBL.out.2 w' h
        rw [← hhp] at hrd
        have HRD := Lib.hid hrd
        clear hbd HB7 HV7 had hrd hhp
        refine wp_region_held_drew (S := fun w' => Box w' qb 37 m.cells.toArray) (by kernel_rfl) (by rw [← hu7]; exact HV8.out) (fun hS => ?_)
        rw [← hu7] at hS ⊢
        clear hu7
        (refine take_at8 (i := 0) (d := 54) (v := .pointer (some ⟨p, 0, none⟩)) rfl (by kernel_rfl) (by kernel_rfl) (by kernel_rfl) (fun _ _ _ h => h) rfl (Or.inl ⟨by kernel_rfl, fun w hSw => by go_simp⟩) hS ?_)
        (refine take_at8 (i := 1) (d := 55) (v := .agg m.cells.toArray) rfl (by kernel_rfl) (by kernel_rfl) (by kernel_rfl) (fun _ _ _ h => h) rfl (Or.inl ⟨by kernel_rfl, fun w hSw => by have hc := hSw.ld_vt; go_simp⟩) hS ?_)
        (refine take_at8 (i := 3) (d := 57) (v := .pointer (some ⟨rp, 0, none⟩)) rfl (by kernel_rfl) (by kernel_rfl) (by kernel_rfl) (fun _ _ _ h => h) rfl (Or.inl ⟨by kernel_rfl, fun w hSw => by go_simp⟩) hS ?_)
        (refine take_at8 (i := 4) (d := 58) (v := .agg m.cells.toArray) rfl (by kernel_rfl) (by kernel_rfl) (by kernel_rfl) (fun _ _ _ h => h) rfl (Or.inl ⟨by kernel_rfl, fun w hSw => by have hc := hSw.ld_vt; go_simp⟩) hS ?_)
        refine wpAnyH_ready (rs := [2]) (by decide +kernel) (by simp) (AllReadyH.cons rfl (fun K hK => ?_) AllReadyH.nil)
        go_simp
        (go_at_call 8; (with_reducible refine (HAD.out).mono ?_); rintro e w9 ⟨rfl, bs', hb9, hx9, hg9, hs9⟩)
        have HR9 := Lib.hid (HB8.out.ref.aside HB8.out.box.map hg9)
        have HB9 := Lib.hid hb9
        have HS9 := Lib.hid (hs9 HB8.out.see)
        have HX9 : Hid (bs'.map VtM.x = addX (bs.map VtM.x) m.x) := Lib.hid (by rw [HB8.out.same]; exact hx9)
        have HG9 := Lib.hid hg9
        clear hb9 hs9 hx9
        refine hK.out _ _ (hS.grown hg9 (fun e => by injection e with e; have := HQB.out.1; omega)) (fun hS => ?_)
        clear hK K
        (try simp only [Act.put])
        clear hg9
        refine wpAnyH_ready (rs := [5]) (by decide +kernel) (by simp) (AllReadyH.cons rfl (fun K hK => ?_) AllReadyH.nil)
        go_simp
        (go_at_call 9; (with_reducible refine (HRD.out _ HR9.out).mono ?_); rintro e w10 ⟨rfl, hr10, hg10⟩)
        have HB10 := Lib.hid (HB8.out.add HMV.out HB9.out HS9.out HX9.out HG9.out hr10 hg10)
        refine hK.out _ _ (hS.grown hg10 (fun e => by injection e with e; have := HQB.out.2; omega)) (fun hS => ?_)
        clear hK K
        (try simp only [Act.put])
        clear hr10 hg10
        (refine take_at8 (i := 6) (d := 60) (v := .bool false) rfl (by kernel_rfl) (by kernel_rfl) (by kernel_rfl) (fun _ _ _ h => h) rfl (Or.inl ⟨by kernel_rfl, fun w hSw => by go_simp⟩) hS ?_)
        refine wpAnyH_done (by kernel_rfl) ?_ _
        clear hS HAD HRD HB8 HR9 HB9 HS9 HX9 HG9 HV8
        go_simp
        go_wp2
        go_roundw
        case rel => exact ⟨k + 1, bs', addM us m, HLT.out, by go_num, HB10⟩
        case measure => have := HLT.out; simp [intOf]; omega
end Go.Proofs.YtadnnnbdlkjnkaaGreatDoor
