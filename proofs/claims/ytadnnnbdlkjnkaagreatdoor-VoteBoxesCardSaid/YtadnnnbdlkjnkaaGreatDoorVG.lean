/-
  (*vote.Box).For.
  Choices (rounds and digests) as keys of maps.
  (*vote.Box).tally: how many votes each choice has. Written by gen_votally.py.
  Which of two digests comes first; (vote.choice).beats.
  (*vote.Box).Winner. Written by gen_vowinner.py.
-/
import Derived.Test.YtadnnnbdlkjnkaaGreatDoorVF
import Derived.Maps.AppendAt
import Derived.WideKeyEntry
import Derived.Test.YtadnnnbdlkjnkaaGreatDoorRiOrder
namespace Go.Proofs.YtadnnnbdlkjnkaaGreatDoor
open Go.RowKit Go.Maps Go.Sort

/-! ### Lists that lie in blocks of their own -/
set_option maxRecDepth 100000 in
theorem DFresh.low {B B' : Nat} {A : Option Addr} {ds : List (List UInt8)} (h : DFresh B A ds) (hb : B' ≤ B) : DFresh B' A ds := by
  rcases h with h | ⟨g, h1, h2⟩
  · exact .inl h
  · exact .inr ⟨g, h1, Nat.le_trans hb h2⟩
structure FreshM (B : Nat) (m : VtM) : Prop where
  opn : DFresh B m.A m.x.opn
  sht : DFresh B m.B m.x.sht
  pth : DFresh B m.C m.x.pth
/-- Not in that block. -/
def OffD (r : Option Nat) (A : Option Addr) (ds : List (List UInt8)) : Prop := ds = [] ∨ ∀ a, A = some a → some a.block ≠ r
set_option maxRecDepth 100000 in
theorem Digs.off {w w' : World} {r : Option Nat} {A : Option Addr} {ds : List (List UInt8)} (h : Digs w w.heap.size A ds) (ho : OffD r A ds) (hg : w.grownBy w' r) : Digs w' w'.heap.size A ds := by
  refine ⟨h.1, ?_⟩
  rcases ho with rfl | ho
  · exact .inl rfl
  · rcases h.2 with h0 | ⟨g, o, rfl, hlt, hc⟩
    · exact .inl h0
    · exact .inr ⟨g, o, rfl, Nat.lt_of_lt_of_le hlt hg.size, fun j u hu => hg.cell (hc j u hu) (fun e => ho ⟨g, o, none⟩ rfl e)⟩
set_option maxRecDepth 100000 in
theorem DFresh.off {B : Nat} {r : Option Nat} {A : Option Addr} {ds : List (List UInt8)} (h : DFresh B A ds) (hr : ∀ g, r = some g → g < B) : OffD r A ds := by
  rcases h with h | ⟨g, rfl, h2⟩
  · exact .inl h
  · refine .inr fun a ha e => ?_
    injection ha with ha
    subst ha
    have := hr _ e.symm
    simp at this
    omega
set_option maxRecDepth 100000 in
theorem Digs.off_new {w : World} {A : Option Addr} {ds : List (List UInt8)} (h : Digs w w.heap.size A ds) : OffD (some w.heap.size) A ds := by
  rcases h.2 with h0 | ⟨g, o, rfl, hlt, _⟩
  · left
    cases ds with
    | nil => rfl
    | cons d r =>
      have := h.1 d (List.mem_cons_self ..)
      have h1 := congrArg List.length h0
      simp [this] at h1
  · refine .inr fun a ha e => ?_
    injection ha with ha
    subst ha
    injection e with e
    have e2 : g = w.heap.size := e
    omega
structure OffM (r : Option Nat) (m : VtM) : Prop where
  opn : OffD r m.A m.x.opn
  sht : OffD r m.B m.x.sht
  pth : OffD r m.C m.x.pth
set_option maxRecDepth 100000 in
theorem VSee.off {w w' : World} {r : Option Nat} {m : VtM} (h : VSee w m) (ho : OffM r m) (hg : w.grownBy w' r) : VSee w' m := ⟨h.opn.off ho.opn hg, h.sht.off ho.sht hg, h.pth.off ho.pth hg⟩
set_option maxRecDepth 100000 in
theorem FreshM.off {B : Nat} {r : Option Nat} {m : VtM} (h : FreshM B m) (hr : ∀ g, r = some g → g < B) : OffM r m := ⟨h.opn.off hr, h.sht.off hr, h.pth.off hr⟩
set_option maxRecDepth 100000 in
theorem VSee.off_new {w : World} {m : VtM} (h : VSee w m) : OffM (some w.heap.size) m := ⟨h.opn.off_new, h.sht.off_new, h.pth.off_new⟩
set_option maxRecDepth 100000 in
/-- One vote more onto a row whose votes' lists lie elsewhere. -/
theorem vt_push {w : World} {base n c : Nat} {A : Option Addr} {ms : List VtM} (hown : VtK.Own w base (.slice A n c) ms) (hS : BSee w ms) (hO : ∀ m ∈ ms, OffM (Value.slice A n c).ownBlock m) {m : VtM} (hm : VSee w m) (hom : OffM (Value.slice A n c).ownBlock m) (hl : ms.length < 1000000) (hbase : base ≤ w.heap.size) :
    ∃ A' c' w', (bsT 22 1 #[(0, .agg m.cells.toArray)]).run Tryz.prog w = .ok (.slice (some ⟨w.heap.size, 0, none⟩) 1 1) (w.alloc (.cells m.cells.toArray 37)) ∧
      (apAll #[22, 22] 22 #[.slice A n c, .slice (some ⟨w.heap.size, 0, none⟩) 1 1]).run Tryz.prog (w.alloc (.cells m.cells.toArray 37)) = .ok (.slice A' (ms.length + 1) c') w' ∧
      VtK.Own w' base (.slice A' (ms.length + 1) c') (ms ++ [m]) ∧ BSee w' (ms ++ [m]) ∧ (∀ u ∈ ms ++ [m], OffM (Value.slice A' (ms.length + 1) c').ownBlock u) ∧ Below base w w' := by
  obtain ⟨w1, hw1⟩ : ∃ w1, w1 = w.alloc (.cells m.cells.toArray 37) := ⟨_, rfl⟩
  have hb1 : Below w.heap.size w w1 := by rw [hw1]; exact (Below.refl _ _).alloc (Nat.le_refl _) _
  have hs1 : VtK.See w1 w1.heap.size (some ⟨w.heap.size, 0, none⟩) [m] := by rw [hw1]; exact VtK.see_one w m
  have ho1 := EK.Own.keep hown hb1
  obtain ⟨i0, hi0, hz0, hz1, hz2⟩ := info_parts VtK.info
  have hfl : (VtK.flat [m]).length = 1 * 41 := by rw [VtK.flat_len]; rfl
  obtain ⟨v', w', hr, ho, hg, _, hat⟩ := run_append_own_at (P := Tryz.prog) w1 base 22 22 37 i0 _ 41 152 VtK.und hi0 hz0 hz1 hz2 rfl (by omega) _ ms.length _ ho1 ⟨w.heap.size, 0, none⟩ 1 1 (VtK.flat [m]) hfl (EK.See.add hs1) (VtK.flat_one [m]) (by unfold maxLen; omega) (by omega) (Nat.le_trans hbase hb1.size)
  have ho2 : VtK.Own w' base v' (ms ++ [m]) := by
    show w'.ownsRow base 37 41 v' (ms ++ [m]).length (VtK.flat (ms ++ [m]))
    rw [VtK.flat_app, List.length_append]
    exact ho
  obtain ⟨A', c', e⟩ := EK.Own.slice ho2
  have hn : (ms ++ [m]).length = ms.length + 1 := by simp
  rw [hn] at e
  subst e
  have hS1 : BSee w1 (ms ++ [m]) := fun u hu => by
    rcases List.mem_append.1 hu with hu | hu
    · exact (hS u hu).call hb1
    · rw [List.mem_singleton.1 hu]
      exact hm.call hb1
  have hO1 : ∀ u ∈ ms ++ [m], OffM (Value.slice A n c).ownBlock u := fun u hu => by
    rcases List.mem_append.1 hu with hu | hu
    · exact hO u hu
    · rw [List.mem_singleton.1 hu]
      exact hom
  refine ⟨A', c', w', VtK.build1 m (.agg m.cells.toArray) rfl (by decide) w, by rw [← hw1]; exact hr, ho2, fun u hu => (hS1 u hu).off (hO1 u hu) hg, fun u hu => ?_, (hb1.mono hbase).trans (below_own ho1 hg (Nat.le_trans hbase hb1.size))⟩
  rcases hat with e | e
  · rw [e]
    exact hO1 u hu
  · rw [e]
    exact (hS1 u hu).off_new

attribute [local go_sem ↓] ldVt_def stVt_def
set_option maxRecDepth 100000 in
set_option maxHeartbeats 2000000 in
theorem clone_fresh (m : VtM) (hf : VFew m.x) (w : World) (hS : VSee w m) :
    Calls Tryz.prog 26 #[.agg m.cells.toArray] w fun e w' => ∃ m' : VtM, m'.x = m.x ∧ e = .returned (.agg m'.cells.toArray) ∧ VSee w' m' ∧ FreshM w.heap.size m' ∧ Below w.heap.size w w' := by
  obtain ⟨w1, hw1⟩ : ∃ w1, w1 = (w.alloc (.cells m.cells.toArray 37)).alloc (.cells zvtV 37) := ⟨_, rfl⟩
  have HX : Hid (Box w1 w.heap.size 37 m.cells.toArray) := by rw [hw1]; exact (Box.made w _ _).alloc _
  have HY : Hid (Box w1 (w.heap.size + 1) 37 zvtV) := by rw [hw1]; exact Box.made_at (by simp) _ _
  have HF : Hid (Below w.heap.size w w1) := by rw [hw1]; exact ((Below.refl _ _).alloc (Nat.le_refl _) _).alloc (by simp) _
  have HZ : Hid (w1.heap.size = w.heap.size + 2) := by rw [hw1]; exact Lib.hid (by simp)
  have HFW := Lib.hid hf
  obtain ⟨⟨k, e, h, r, d, f, n, O, H, Q, hd⟩, A, a, B, b, C, c⟩ := m
  have HD := Lib.hid hd
  have HX1 : Hid (Box w1 w.heap.size 37 (vtL k e h r d f n (.slice A O.length a) (.slice B H.length b) (.slice C Q.length c)).toArray) := HX
  have HSO : Hid (Digs w w.heap.size A O) := Lib.hid hS.opn
  have HSH : Hid (Digs w w.heap.size B H) := Lib.hid hS.sht
  have HSQ : Hid (Digs w w.heap.size C Q) := Lib.hid hS.pth
  have HC1 := Lib.hid (clone_d O A a hf.opn w1 (HSO.out.far HF.out))
  have c38 : w1.cell? ⟨w.heap.size, 38, none⟩ = some (.slice A O.length a) := HX1.out.vt_38 hd
  have hz := zero_vt
  clear HX hS hf
  have ent : VtM.cells ⟨⟨k, e, h, r, d, f, n, O, H, Q, hd⟩, A, a, B, b, C, c⟩ = vtL k e h r d f n (.slice A O.length a) (.slice B H.length b) (.slice C Q.length c) := rfl
  rw [ent] at hw1 ⊢
  generalize hcs : vtL k e h r d f n (.slice A O.length a) (.slice B H.length b) (.slice C Q.length c) = cs at hw1 ⊢
  go_enter Tryz.func26, Tryz.ntmps26
  go_upto_region 1 with fail
  change Code.wp _ _ _ _ ((w.alloc (.cells cs.toArray 37)).alloc (.cells zvtV 37))
  rw [← hw1]
  clear hw1 hcs hz ent
  go_upto_region 2 with (go_at_call 47; (with_reducible refine (HC1.out).mono ?_); rintro e w2 ⟨A2, a2, rfl, hd2, hf2, hb2⟩; have HD2 := Lib.hid hd2; have HE2 := Lib.hid hf2; have HB2 := Lib.hid hb2; clear hd2 hf2 hb2; have f3 := (HX1.out.below HB2.out HX1.out.lt).free 38; have c3' := (HX1.out.below HB2.out HX1.out.lt).vt_38 HD.out)
  obtain ⟨w3, hw3⟩ : ∃ w3, w3 = w2.setCell ⟨w.heap.size, 38, none⟩ (.slice A2 O.length a2) := ⟨_, rfl⟩
  have HX3 : Hid (Box w3 w.heap.size 37 (vtL k e h r d f n (.slice A2 O.length a2) (.slice B H.length b) (.slice C Q.length c)).toArray) := Lib.hid (by rw [hw3]; exact (HX1.out.below HB2.out HX1.out.lt).vt_put38 HD.out _)
  have HG3 : Hid (w2.grownBy w3 (some w.heap.size)) := Lib.hid (by rw [hw3]; exact only_put (only_refl _ _) 38 _)
  have HO3 : Hid (Digs w3 w3.heap.size A2 O) := Lib.hid (HD2.out.fresh_aside HE2.out HG3.out (by have := HZ.out; omega))
  have HY3 := Lib.hid ((HY.out.below HB2.out HY.out.lt).grown HG3.out (by simp))
  have HF3 := Lib.hid ((HF.out.trans (HB2.out.mono HF.out.size)).trans (below_only HG3.out (Nat.le_refl _) (Nat.le_trans HF.out.size HB2.out.size)))
  have HZ3 : Hid (w.heap.size + 2 ≤ w3.heap.size) := Lib.hid (by have := HZ.out; have := HB2.out.size; have := HG3.out.size; omega)
  have HC3 := Lib.hid (clone_d H B b HFW.out.sht w3 (HSH.out.far HF3.out))
  have c39 : w3.cell? ⟨w.heap.size, 39, none⟩ = some (.slice B H.length b) := HX3.out.vt_39 HD.out
  rw [← hw3]
  clear hw3 c38 f3 c3' HC1 HX1 HD2 HB2 HG3 HY HF
  go_upto_region 3 with (go_at_call 47; (with_reducible refine (HC3.out).mono ?_); rintro e w4 ⟨A4, a4, rfl, hd2, hf2, hb2⟩; have HD4 := Lib.hid hd2; have HE4 := Lib.hid hf2; have HB4 := Lib.hid hb2; clear hd2 hf2 hb2; have f3 := (HX3.out.below HB4.out HX3.out.lt).free 39; have c3' := (HX3.out.below HB4.out HX3.out.lt).vt_39 HD.out)
  obtain ⟨w5, hw5⟩ : ∃ w5, w5 = w4.setCell ⟨w.heap.size, 39, none⟩ (.slice A4 H.length a4) := ⟨_, rfl⟩
  have HX5 : Hid (Box w5 w.heap.size 37 (vtL k e h r d f n (.slice A2 O.length a2) (.slice A4 H.length a4) (.slice C Q.length c)).toArray) := Lib.hid (by rw [hw5]; exact (HX3.out.below HB4.out HX3.out.lt).vt_put39 HD.out _)
  have HG5 : Hid (w4.grownBy w5 (some w.heap.size)) := Lib.hid (by rw [hw5]; exact only_put (only_refl _ _) 39 _)
  have HO5 : Hid (Digs w5 w5.heap.size A2 O) := Lib.hid ((HO3.out.far HB4.out).fresh_aside HE2.out HG5.out (by have := HZ.out; omega))
  have HH5 : Hid (Digs w5 w5.heap.size A4 H) := Lib.hid (HD4.out.fresh_aside HE4.out HG5.out (by have := HZ3.out; omega))
  have HY5 := Lib.hid ((HY3.out.below HB4.out HY3.out.lt).grown HG5.out (by simp))
  have HF5 := Lib.hid ((HF3.out.trans (HB4.out.mono HF3.out.size)).trans (below_only HG5.out (Nat.le_refl _) (Nat.le_trans HF3.out.size HB4.out.size)))
  have HZ5 : Hid (w.heap.size + 2 ≤ w5.heap.size) := Lib.hid (by have := HZ3.out; have := HB4.out.size; have := HG5.out.size; omega)
  have HC5 := Lib.hid (clone_d Q C c HFW.out.pth w5 (HSQ.out.far HF5.out))
  have c40 : w5.cell? ⟨w.heap.size, 40, none⟩ = some (.slice C Q.length c) := HX5.out.vt_40 HD.out
  rw [← hw5]
  clear hw5 c39 f3 c3' HC3 HX3 HD4 HB4 HG5 HY3 HF3 HO3
  go_upto_region 4 with (go_at_call 47; (with_reducible refine (HC5.out).mono ?_); rintro e w6 ⟨A6, a6, rfl, hd2, hf2, hb2⟩; have HD6 := Lib.hid hd2; have HE6 := Lib.hid hf2; have HB6 := Lib.hid hb2; clear hd2 hf2 hb2; have f3 := (HX5.out.below HB6.out HX5.out.lt).free 40; have c3' := (HX5.out.below HB6.out HX5.out.lt).vt_40 HD.out)
  obtain ⟨w7, hw7⟩ : ∃ w7, w7 = w6.setCell ⟨w.heap.size, 40, none⟩ (.slice A6 Q.length a6) := ⟨_, rfl⟩
  have HX7 : Hid (Box w7 w.heap.size 37 (vtL k e h r d f n (.slice A2 O.length a2) (.slice A4 H.length a4) (.slice A6 Q.length a6)).toArray) := Lib.hid (by rw [hw7]; exact (HX5.out.below HB6.out HX5.out.lt).vt_put40 HD.out _)
  have HG7 : Hid (w6.grownBy w7 (some w.heap.size)) := Lib.hid (by rw [hw7]; exact only_put (only_refl _ _) 40 _)
  have HO7 : Hid (Digs w7 w7.heap.size A2 O) := Lib.hid ((HO5.out.far HB6.out).fresh_aside HE2.out HG7.out (by have := HZ.out; omega))
  have HH7 : Hid (Digs w7 w7.heap.size A4 H) := Lib.hid ((HH5.out.far HB6.out).fresh_aside HE4.out HG7.out (by have := HZ3.out; omega))
  have HQ7 : Hid (Digs w7 w7.heap.size A6 Q) := Lib.hid (HD6.out.fresh_aside HE6.out HG7.out (by have := HZ5.out; omega))
  have HY7 := Lib.hid ((HY5.out.below HB6.out HY5.out.lt).grown HG7.out (by simp))
  have HF7 := Lib.hid ((HF5.out.trans (HB6.out.mono HF5.out.size)).trans (below_only HG7.out (Nat.le_refl _) (Nat.le_trans HF5.out.size HB6.out.size)))
  rw [← hw7]
  clear hw7 c40 f3 c3' HC5 HX5 HD6 HB6 HG7 HY5 HF5 HO5 HH5
  obtain ⟨m', hm'⟩ : ∃ m' : VtM, m' = ⟨⟨k, e, h, r, d, f, n, O, H, Q, hd⟩, A2, a2, A4, a4, A6, a6⟩ := ⟨_, rfl⟩
  have HX8 : Hid (Box w7 w.heap.size 37 m'.cells.toArray) := by rw [hm']; exact HX7
  have hx : m'.x = ⟨k, e, h, r, d, f, n, O, H, Q, hd⟩ := by rw [hm']
  have l7 := HX8.out.ld_vt
  obtain ⟨w8, hst, hb8, hg8⟩ := HY7.out.st_vt zvtV_size m'
  have HB8 := Lib.hid hb8
  have HF8 := Lib.hid (HF7.out.trans (below_only hg8 (by omega) HF7.out.size))
  have HS8 : Hid (VSee w8 m') := Lib.hid (by
    rw [hm']
    exact ⟨HO7.out.fresh_aside HE2.out hg8 (by have := HZ.out; omega), HH7.out.fresh_aside HE4.out hg8 (by have := HZ3.out; omega), HQ7.out.fresh_aside HE6.out hg8 (by have := HZ5.out; omega)⟩)
  have HFM : Hid (FreshM w.heap.size m') := Lib.hid (by
    rw [hm']
    exact ⟨HE2.out.low (by have := HZ.out; omega), HE4.out.low (by have := HZ3.out; omega), HE6.out.low (by have := HZ5.out; omega)⟩)
  clear hb8 hg8 hm' HX7 HX8 HY7 HO7 HH7 HQ7 HE2 HE4 HE6
  go_wp2
  exact ret_vt rfl rfl rfl HB8.out ⟨m', hx, rfl, HS8.out, HFM.out, HF8.out⟩


/-! ### On plain lists -/
/-- The votes for a digest, by rising members. -/
def ForIs (xs : List VtX) (kind round : Int) (d : List UInt8) (ys : List VtX) : Prop := ys.map VtX.frm = srt (forF kind round d xs) ∧ ∀ y ∈ ys, y ∈ xs ∧ y.kind = kind ∧ y.round = round
set_option maxRecDepth 100000 in
theorem apart_eq {xs : List VtX} (ha : Apart xs) {x y : VtX} (hx : x ∈ xs) (hy : y ∈ xs) (h : samePl x y = true) : x = y := by
  have hs : ∀ a b : VtX, samePl a b = samePl b a := fun a b => by
    unfold samePl
    rw [decide_eq_decide.2 (show a.kind = b.kind ↔ b.kind = a.kind from eq_comm), decide_eq_decide.2 (show a.round = b.round ↔ b.round = a.round from eq_comm), decide_eq_decide.2 (show a.frm = b.frm ↔ b.frm = a.frm from eq_comm)]
  unfold Apart at ha
  induction xs with
  | nil => cases hx
  | cons z r ih =>
    rw [List.pairwise_cons] at ha
    rcases List.mem_cons.1 hx with rfl | hx2 <;> rcases List.mem_cons.1 hy with rfl | hy2
    · rfl
    · rw [ha.1 y hy2] at h
      cases h
    · rw [hs, ha.1 x hx2] at h
      cases h
    · exact ih ha.2 hx2 hy2
set_option maxRecDepth 100000 in
theorem ForIs.uniq {xs ys zs : List VtX} {kind round : Int} {d : List UInt8} (ha : Apart xs) (h : ForIs xs kind round d ys) (h' : ForIs xs kind round d zs) : ys = zs := by
  have hf : ys.map VtX.frm = zs.map VtX.frm := h.1.trans h'.1.symm
  have hl : ys.length = zs.length := by
    have := congrArg List.length hf
    simpa using this
  apply List.ext_getElem hl
  intro i h1 h2
  obtain ⟨a1, a2, a3⟩ := h.2 _ (List.getElem_mem h1)
  obtain ⟨b1, b2, b3⟩ := h'.2 _ (List.getElem_mem h2)
  refine apart_eq ha a1 b1 (samePl_iff.2 ⟨a2.trans b2.symm, a3.trans b3.symm, ?_⟩)
  have h3 : (ys.map VtX.frm)[i]? = (zs.map VtX.frm)[i]? := by rw [hf]
  rw [List.getElem?_map, List.getElem?_map, List.getElem?_eq_getElem h1, List.getElem?_eq_getElem h2] at h3
  simpa using h3
set_option maxRecDepth 100000 in
/-- What the document's For has. -/
theorem rForM_is {us : List VtM} (ha : Apart (us.map VtM.x)) (hx : ∀ x ∈ us.map VtM.x, 1 ≤ x.frm ∧ x.frm ≤ 63) (kind round : Int) (d : List UInt8) : ForIs (us.map VtM.x) kind round d ((rForM us kind round d 63).map VtM.x) := by
  have hmem : ∀ i m, m ∈ rForM us kind round d i ↔ m ∈ us ∧ isFor kind round d m.x = true ∧ ∃ j : Nat, j < i ∧ m.x.frm = (j : Int) + 1 := fun i m => by
    unfold rForM
    rw [List.mem_flatMap]
    constructor
    · rintro ⟨j, hj, hm⟩
      rw [List.mem_filter] at hm
      have h1 := hm.2
      unfold selF at h1
      rw [Bool.and_eq_true, decide_eq_true_eq] at h1
      exact ⟨hm.1, h1.1, j, List.mem_range.1 hj, h1.2⟩
    · rintro ⟨h1, h2, j, h3, h4⟩
      exact ⟨j, List.mem_range.2 h3, List.mem_filter.2 ⟨h1, by unfold selF; rw [h2, h4]; simp⟩⟩
  have hpw : us.Pairwise fun a b => samePl a.x b.x = false := by
    unfold Apart at ha
    rw [List.pairwise_map] at ha
    exact ha
  have hs : ∀ i, (rForM us kind round d i).Pairwise fun a b => a.x.frm < b.x.frm := fun i => by
    induction i with
    | zero => exact List.Pairwise.nil
    | succ i ih =>
      rw [rForM_succ, List.pairwise_append]
      refine ⟨ih, ?_, fun a h1 b h2 => ?_⟩
      · refine List.Pairwise.imp_of_mem (fun {a b} h1 h2 h3 => ?_) (hpw.filter _)
        obtain ⟨_, h1⟩ := List.mem_filter.1 h1
        obtain ⟨_, h2⟩ := List.mem_filter.1 h2
        obtain ⟨a1, a2, _, a4⟩ := selF_iff.1 h1
        obtain ⟨b1, b2, _, b4⟩ := selF_iff.1 h2
        rw [samePl_iff.2 ⟨a1.trans b1.symm, a2.trans b2.symm, a4.trans b4.symm⟩] at h3
        cases h3
      · obtain ⟨_, _, j, h3, h4⟩ := (hmem i a).1 h1
        obtain ⟨_, h5⟩ := List.mem_filter.1 h2
        obtain ⟨_, _, _, h6⟩ := selF_iff.1 h5
        omega
  have hforF : ∀ m ∈ us, isFor kind round d m.x = true → m.x.frm ∈ forF kind round d (us.map VtM.x) := fun m hm h => List.mem_map.2 ⟨m.x, List.mem_filter.2 ⟨List.mem_map.2 ⟨m, hm, rfl⟩, h⟩, rfl⟩
  refine ⟨?_, fun y hy => ?_⟩
  · have h1 : (((rForM us kind round d 63).map VtM.x).map VtX.frm).Pairwise (· < ·) := by
      rw [List.pairwise_map, List.pairwise_map]
      exact hs 63
    have h2 : (((rForM us kind round d 63).map VtM.x).map VtX.frm).Nodup := h1.imp fun h => by omega
    have h3 : (forF kind round d (us.map VtM.x)).Nodup := by
      unfold forF List.Nodup
      rw [List.pairwise_map]
      refine List.Pairwise.imp_of_mem (fun {a b} h1 h2 h3 e => ?_) (ha.filter _)
      obtain ⟨_, h1⟩ := List.mem_filter.1 h1
      obtain ⟨_, h2⟩ := List.mem_filter.1 h2
      unfold isFor at h1 h2
      simp only [Bool.and_eq_true, decide_eq_true_eq] at h1 h2
      rw [samePl_iff.2 ⟨h1.1.1.trans h2.1.1.symm, h1.1.2.trans h2.1.2.symm, e⟩] at h3
      cases h3
    have hp : (((rForM us kind round d 63).map VtM.x).map VtX.frm).Perm (forF kind round d (us.map VtM.x)) := by
      refine (List.perm_ext_iff_of_nodup h2 h3).2 fun f => ?_
      constructor
      · intro hf
        obtain ⟨x, hx1, rfl⟩ := List.mem_map.1 hf
        obtain ⟨m, hm, rfl⟩ := List.mem_map.1 hx1
        obtain ⟨h4, h5, _⟩ := (hmem 63 m).1 hm
        exact hforF m h4 h5
      · intro hf
        obtain ⟨x, hx1, rfl⟩ := List.mem_map.1 hf
        obtain ⟨hx2, hx3⟩ := List.mem_filter.1 hx1
        obtain ⟨m, hm, rfl⟩ := List.mem_map.1 hx2
        have hr := hx _ hx2
        exact List.mem_map.2 ⟨m.x, List.mem_map.2 ⟨m, (hmem 63 m).2 ⟨hm, hx3, (m.x.frm - 1).toNat, by omega, by omega⟩, rfl⟩, rfl⟩
    exact List.Perm.eq_of_pairwise (fun a b _ _ h1 h2 => by omega) (h1.imp fun h => Int.le_of_lt h) (srt_sorted _) (hp.trans (srt_perm _).symm)
  · obtain ⟨m, hm, rfl⟩ := List.mem_map.1 hy
    obtain ⟨h4, h5, _⟩ := (hmem 63 m).1 hm
    unfold isFor at h5
    simp only [Bool.and_eq_true, decide_eq_true_eq] at h5
    exact ⟨List.mem_map.2 ⟨m, h4, rfl⟩, h5.1.1, h5.1.2⟩
set_option maxRecDepth 100000 in
theorem ForIs.len {xs ys : List VtX} {kind round : Int} {d : List UInt8} (h : ForIs xs kind round d ys) : ys.length = (forF kind round d xs).length := by
  have := congrArg List.length h.1
  rw [List.length_map, srt_len] at this
  exact this

noncomputable def lkVt (m k : Value) : Sem Value := Instr.lookup 65 m k false
set_option maxRecDepth 100000 in
theorem lkVt_def (m k : Value) : Instr.lookup 65 m k false = lkVt m k := rfl
set_option maxRecDepth 100000 in
/-- The vote of a place that has one. -/
theorem look_vote {w : World} {p mb : Nat} {vs : List VtM} (h : BoxIs w p mb vs) {kind round f : Int} {d : List UInt8} (hf : f ∈ forF kind round d (vs.map VtM.x)) : ∃ m ∈ vs, m.x.kind = kind ∧ m.x.round = round ∧ m.x.frm = f ∧
    ∀ w', Below w.heap.size w w' → (lkVt (.map (some mb)) (.agg (plV kind round f))).run Tryz.prog w' = .ok (.agg m.cells.toArray) w' := by
  obtain ⟨x, hx, rfl⟩ := List.mem_map.1 hf
  obtain ⟨hx1, hx2⟩ := List.mem_filter.1 hx
  obtain ⟨m0, hm0, rfl⟩ := List.mem_map.1 hx1
  unfold isFor at hx2
  simp only [Bool.and_eq_true, decide_eq_true_eq] at hx2
  have hok := (h.ok m0 hm0).1
  obtain ⟨m, hm, h2, h3⟩ := look_some13 h.ok hok (by
    unfold hasPl
    rw [List.any_eq_true]
    exact ⟨m0.x, hx1, samePl_iff.2 ⟨rfl, rfl, rfl⟩⟩)
  obtain ⟨e1, e2, e3⟩ := samePl_iff.1 h3
  refine ⟨m, hm, e1.trans hx2.1.1, e2.trans hx2.1.2, e3, fun w' hw' => ?_⟩
  have h1 := (h.call hw').map.look Tryz.underlying65 (zero_vt w') m0.x.at_
  rw [hok.at_enc, h2, hx2.1.1, hx2.1.2] at h1
  exact h1
set_option maxRecDepth 100000 in
theorem BoxOr.some_of {w : World} {pv mv : Option Nat} {vs : List VtM} (h : BoxOr w pv mv vs) {m : VtM} (hm : m ∈ vs) : ∃ p mb, pv = some p ∧ mv = some mb ∧ BoxIs w p mb vs := by
  cases pv <;> cases mv
  · rw [show vs = [] from h] at hm
    cases hm
  · exact h.elim
  · exact h.elim
  · exact ⟨_, _, rfl, rfl, h⟩

attribute [local go_sem ↓] ldDigest_def stDigest_def bsT_def apAll_def lkVt_def
set_option maxRecDepth 100000 in
set_option maxHeartbeats 4000000 in
theorem for_any13 (pv mv : Option Nat) (vs : List VtM) (kind round : Int) (d : List UInt8) (hd : d.length = 32) (hl : vs.length < 1000000) (w : World) (hB : BoxOr w pv mv vs) (hS : BSee w vs) :
    Calls Tryz.prog 10 #[ptrO pv, .int .i64 kind, .int .i64 round, .agg (d.map bv).toArray] w fun e w' => ∃ v ms, e = .returned v ∧ VtK.Own w' w.heap.size v ms ∧ ForIs (vs.map VtM.x) kind round d (ms.map VtM.x) ∧ BSee w' ms ∧ Below w.heap.size w w' := by
  obtain ⟨w1, hw1⟩ : ∃ w1, w1 = w.alloc (.cells (d.map bv).toArray 24) := ⟨_, rfl⟩
  have hD : Box w1 w.heap.size 24 (d.map bv).toArray := by rw [hw1]; exact Box.made w _ _
  have HF : Hid (Below w.heap.size w w1) := by rw [hw1]; exact (Below.refl _ _).alloc (Nat.le_refl _) _
  have HB := Lib.hid (hB.call HF.out)
  have HS := Lib.hid (hS.call HF.out)
  have HM := Lib.hid (members_any pv mv vs kind round d hd hl w1 HB.out)
  have HL := Lib.hid hl
  have ld : (ldDigest (.pointer (some ⟨w.heap.size, 0, none⟩))).run Tryz.prog w1 = .ok (.agg (d.map bv).toArray) w1 := range_load hD.range hd
  obtain ⟨pp, hpp⟩ : ∃ pp, pp = ptrO pv := ⟨_, rfl⟩
  have HPP := Lib.hid hpp
  rw [← hpp] at HM ⊢
  clear hpp hd hl hB hS hD
  go_enter Tryz.func10, Tryz.ntmps10
  go_upto_region 1 with fail
  change Code.wp _ _ _ _ (w.alloc (.cells (d.map bv).toArray 24))
  rw [← hw1]
  clear hw1
  go_upto_region 3 with (go_at_call 27; (with_reducible refine (HM.out).mono ?_); rintro e w2 ⟨v, rfl, ho, hb⟩; obtain ⟨A, c, rfl⟩ := ho.slice; have HO2 := Lib.hid (EK.Own.see ho); have HB2 := Lib.hid (HB.out.call hb); have HS2 := Lib.hid (HS.out.call hb); have HF2 := Lib.hid (HF.out.trans (hb.mono HF.out.size)); clear ho hb)
  have HFL : Hid ((srt (forF kind round d (vs.map VtM.x))).length < 1000000) := Lib.hid (by rw [srt_len]; have h1 := forF_le kind round d (vs.map VtM.x); rw [List.length_map] at h1; have := HL.out; omega)
  have HFM : Hid (∀ f ∈ srt (forF kind round d (vs.map VtM.x)), f ∈ forF kind round d (vs.map VtM.x)) := Lib.hid (fun f hf => (srt_perm _).mem_iff.1 hf)
  have HFI : Hid (∀ ys : List VtX, ys.map VtX.frm = srt (forF kind round d (vs.map VtM.x)) → (∀ y ∈ ys, y ∈ vs.map VtM.x ∧ y.kind = kind ∧ y.round = round) → ForIs (vs.map VtM.x) kind round d ys) := Lib.hid (fun ys h1 h2 => ⟨h1, h2⟩)
  generalize srt (forF kind round d (vs.map VtM.x)) = fs at *
  clear HM HB HS HF ld
  go_wp2
  go_loopw [9, 18] (fun s j wr => ∃ (k n3 c3 : Nat) (A3 : Option Addr) (ms : List VtM), k ≤ fs.length ∧ s = .slice A3 n3 c3 ∧ j = .int .i64 (k : Int) ∧ Hid (VtK.Own wr w2.heap.size (.slice A3 n3 c3) ms ∧ ms.length = k) ∧ Hid (BSee wr ms ∧ ∀ m ∈ ms, OffM (Value.slice A3 n3 c3).ownBlock m) ∧ Hid ((ms.map VtM.x).map VtX.frm = fs.take k ∧ ∀ y ∈ ms.map VtM.x, y ∈ vs.map VtM.x ∧ y.kind = kind ∧ y.round = round) ∧ Hid (Below w2.heap.size w2 wr)) (fun _ j _ => fs.length - (intOf j).toNat)
  case atStart => exact ⟨0, 0, 0, none, [], Nat.zero_le _, rfl, rfl, Lib.hid ⟨EK.own_nil _ _ _, rfl⟩, Lib.hid ⟨fun m hm => (by cases hm), fun m hm => (by cases hm)⟩, Lib.hid ⟨rfl, fun y hy => (by cases hy)⟩, Lib.hid (Below.refl _ _)⟩
  case round =>
    obtain ⟨k, n3, c3, A3, ms, hk, rfl, rfl, HO, HU, HY, HW⟩ := hrel
    by_cases hkl : k < fs.length
    rotate_left
    · have a1 : ¬ (k : Int) < (fs.length : Int) := by omega
      have HYE : Hid ((ms.map VtM.x).map VtX.frm = fs) := Lib.hid (by
        have h := HY.out.1
        rw [List.take_of_length_le (by omega)] at h
        exact h)
      go_wp2
      go_ret
      exact ⟨_, rfl, ms, EK.Own.base HO.out.1 HF2.out.size, HFI.out _ HYE.out HY.out.2, HU.out.1, HF2.out.trans (HW.out.mono HF2.out.size)⟩
    · have HKL := Lib.hid hkl
      obtain ⟨g, o, rfl, _, hr⟩ := EK.See.range (EK.See.far HO2.out HW.out) hkl
      obtain ⟨m, hm, e1, e2, e3, hlk⟩ : ∃ m ∈ vs, m.x.kind = kind ∧ m.x.round = round ∧ m.x.frm = fs[k]'hkl ∧ ∃ p mb, pv = some p ∧ mv = some mb ∧ BoxIs wr p mb vs ∧ ∀ w', Below wr.heap.size wr w' → (lkVt (.map (some mb)) (.agg (plV kind round (fs[k]'hkl)))).run Tryz.prog w' = .ok (.agg m.cells.toArray) w' := by
        have hf := HFM.out _ (List.getElem_mem hkl)
        obtain ⟨x, hx, _⟩ := List.mem_map.1 hf
        obtain ⟨m0, hm0, _⟩ := List.mem_map.1 (List.mem_filter.1 hx).1
        obtain ⟨p, mb, h1, h2, h3⟩ := (HB2.out.call HW.out).some_of hm0
        obtain ⟨m, hm, k1, k2, k3, k4⟩ := look_vote h3 hf
        exact ⟨m, hm, k1, k2, k3, p, mb, h1, h2, h3, k4⟩
      obtain ⟨p, mb, hpv, hmv, hbx, hlk⟩ := hlk
      obtain rfl : pp = .pointer (some ⟨p, 0, none⟩) := by rw [HPP.out, hpv]; rfl
      have hc : wr.cell? ⟨g, o + k, none⟩ = some (.int .i64 (fs[k]'hkl)) := by
        have h2 : wr.cell? ⟨g, o + k * 1 + 0, none⟩ = some (.int .i64 (fs[k]'hkl)) := hr k hkl 0 (.int .i64 (fs[k]'hkl)) rfl
        rw [Nat.mul_one] at h2
        exact h2
      have cb : wr.cell? ⟨p, 0, none⟩ = some (.map (some mb)) := hbx.box.cell 0
      have lk := hlk wr (Below.refl _ _)
      have HTK : Hid (fs.take (k + 1) = fs.take k ++ [fs[k]'hkl]) := Lib.hid (List.take_succ_eq_append_getElem hkl)
      have HCL := Lib.hid (clone_fresh m (hbx.ok m hm).2 wr ((HS2.out.call HW.out) m hm))
      have HME : Hid (m ∈ vs ∧ m.x.kind = kind ∧ m.x.round = round ∧ m.x.frm = fs[k]'hkl) := Lib.hid ⟨hm, e1, e2, e3⟩
      have a1 : (k : Int) < (fs.length : Int) := by omega
      have a0 : (0 : Int) ≤ (k : Int) := by omega
      have wk : IntKind.i64.wrap ((k : Int) + 1) = ((k + 1 : Nat) : Int) := by rw [IntKind.wrap_i64]; have := HFL.out; omega
      have HWS : Hid (w2.heap.size ≤ wr.heap.size) := Lib.hid HW.out.size
      have bdp := fun w' => run_build (P := Tryz.prog) w' _ _ _ (pl_built kind round (fs[k]'hkl))
      clear hr hlk hm e1 e2 e3 hbx hpv hmv
      generalize fs[k]'hkl = f at *
      go_upto_region 6 with (go_at_call 26; (with_reducible refine (HCL.out).mono ?_); rintro e w6 ⟨m6, hx6, rfl, hs6, hf6, hb6⟩; obtain ⟨A9, c9, w9, hbs, hap, ho9, hs9, hu9, hb9⟩ := vt_push (EK.Own.keep HO.out.1 hb6) (fun u hu => (HU.out.1 u hu).call hb6) HU.out.2 hs6 (hf6.off (fun g hg => own_lt13 HO.out.1 g hg)) (by have := HO.out.2; have := HFL.out; omega) (Nat.le_trans HWS.out hb6.size); have HO9 := Lib.hid ho9; have HS9 := Lib.hid hs9; have HU9 := Lib.hid hu9; have HX6 := Lib.hid hx6; have HB9 := Lib.hid (HW.out.trans ((hb6.mono HWS.out).trans hb9)); clear ho9 hs9 hu9 hb9 hs6 hf6 hb6 hx6)
      have HY9 : Hid (((ms ++ [m6]).map VtM.x).map VtX.frm = fs.take (k + 1) ∧ ∀ y ∈ (ms ++ [m6]).map VtM.x, y ∈ vs.map VtM.x ∧ y.kind = kind ∧ y.round = round) := Lib.hid (by
        obtain ⟨h1, h2, h3, h4⟩ := HME.out
        refine ⟨?_, fun y hy => ?_⟩
        · rw [HTK.out, ← HY.out.1, List.map_append, List.map_append, List.map_singleton, List.map_singleton, HX6.out, h4]
        · rw [List.map_append, List.map_singleton] at hy
          rcases List.mem_append.1 hy with hy | hy
          · exact HY.out.2 y hy
          · rw [List.mem_singleton.1 hy, HX6.out]
            exact ⟨List.mem_map.2 ⟨m, h1, rfl⟩, h2, h3⟩)
      clear hbs hap
      go_wp2
      go_roundw
      case rel => exact ⟨k + 1, _, _, _, _, HKL.out, rfl, by go_num, Lib.hid ⟨HO9.out, by rw [List.length_append, List.length_singleton, HO.out.2]⟩, Lib.hid ⟨HS9.out, HU9.out⟩, HY9, HB9⟩
      case measure => have := HKL.out; simp [intOf]; omega
end Go.Proofs.YtadnnnbdlkjnkaaGreatDoor

namespace Go.Proofs.YtadnnnbdlkjnkaaGreatDoor
open Go.RowKit Go.Maps

abbrev chL (h : Int) (d : List UInt8) : List Value := .int .i64 h :: d.map bv
abbrev chV (h : Int) (d : List UInt8) : Array Value := (chL h d).toArray
set_option maxRecDepth 100000 in
theorem chL_len {d : List UInt8} (hd : d.length = 32) (h : Int) : (chL h d).length = 33 := by simp [hd]
set_option maxRecDepth 100000 in
theorem ch_row : (83 : TypeId) < Tryz.prog.types.size := of_decide_eq_true (by kernel_rfl)
set_option maxRecDepth 100000 in
theorem ch_struct : Tryz.prog.underlying 83 = some (.struct (Tryz.prog.fieldsOf 83)) := by kernel_rfl
set_option maxRecDepth 100000 in
theorem ch_wide : (match Tryz.prog.underlying 83 with | some (.array _ _) | some (.struct _) => true | _ => false) = true := by
  rw [ch_struct]
set_option maxRecDepth 100000 in
theorem chkeyed : Keyed Tryz.prog 83 := Keyed.of_law (deep_law_laid key_laidOut (m := 3) (by omega) ch_row (by kernel_rfl) ch_wide)
set_option maxRecDepth 100000 in
theorem ch_cells : Tryz.prog.cellsOf 83 = 33 := by kernel_rfl
set_option maxRecDepth 100000 in
theorem ch_lits (d : Nat) (r : List UInt8) (h : Int) (hr : r.length = 32) (hw : (Lit.int .i64 h).wf = true) : ∃ L, Tryz.prog.keyLits (d + 3) 83 (chL h r) = some L := by
  have hfs : (Tryz.prog.fieldsOf 83).toList.map (fun f => (f.type, f.offset)) = [(3, 0), (24, 1)] := by kernel_rfl
  have hall : (Tryz.prog.fieldsOf 83).all (·.name != "_") = true := by kernel_rfl
  unfold Program.keyLits
  rw [ch_struct]
  simp only [ch_cells, chL_len hr, hall, and_self, if_true]
  obtain ⟨ys, hm⟩ := mapM_some (fun f : Field => Tryz.prog.keyLits (d + 2) f.type (((chL h r).drop f.offset).take (Tryz.prog.cellsOf f.type))) (Tryz.prog.fieldsOf 83).toList (fun f hf => by
    have hm : (f.type, f.offset) ∈ (Tryz.prog.fieldsOf 83).toList.map (fun f => (f.type, f.offset)) := List.mem_map.2 ⟨f, hf, rfl⟩
    rw [hfs] at hm
    simp only [List.mem_cons, Prod.mk.injEq, List.not_mem_nil, or_false] at hm
    rcases hm with ⟨e1, e2⟩ | ⟨e1, e2⟩
    · rw [e1, e2, int_cells]
      exact int_lits13 (d + 1) h hw
    · rw [e1, e2, dig_cells]
      have e : ((chL h r).drop 1).take 32 = r.map bv := by
        show (r.map bv).take 32 = _
        rw [List.take_of_length_le (by simp [hr])]
      rw [e]
      exact dig_lits d r hr)
  rw [hm]
  exact ⟨_, rfl⟩
set_option maxRecDepth 100000 in
theorem keyOf_ch (r : List UInt8) (h : Int) (hr : r.length = 32) (hw : (Lit.int .i64 h).wf = true) : ∃ l, keyOf Tryz.prog 83 (.agg (chV h r)) = some l := by
  obtain ⟨d, hd⟩ : ∃ d, Tryz.prog.types.size + 1 = d + 3 := ⟨Tryz.prog.types.size - 2, by
    have h2 : 2 ≤ Tryz.prog.types.size := of_decide_eq_true (by kernel_rfl)
    omega⟩
  obtain ⟨L, hL⟩ := ch_lits d r h hr hw
  have hf : (Value.agg (chV h r)).formed Tryz.prog 83 = true := by
    unfold Value.formed
    rw [ch_struct]
    simp only [ch_cells]
    rw [List.size_toArray, chL_len hr]
    rfl
  have hk : Tryz.prog.keyType 83 = true := by kernel_rfl
  unfold keyOf
  rw [ch_struct]
  simp only [hk, hf, Bool.and_self, if_true, hd]
  change ∃ l, Option.map _ (Tryz.prog.keyLits (d + 3) 83 (chL h r).toArray.toList) = some l
  rw [List.toList_toArray, hL]
  exact ⟨_, rfl⟩
noncomputable def clit (h : Int) (r : List UInt8) : Lit := (keyOf Tryz.prog 83 (.agg (chV h r))).getD .nil
set_option maxRecDepth 100000 in
theorem clit_is {r : List UInt8} {h : Int} (hr : r.length = 32) (hw : (Lit.int .i64 h).wf = true) : keyOf Tryz.prog 83 (.agg (chV h r)) = some (clit h r) := by
  obtain ⟨l, hl⟩ := keyOf_ch r h hr hw
  unfold clit
  rw [hl]
  rfl
set_option maxRecDepth 100000 in
theorem chV_inj {r s : List UInt8} {h k : Int} (e : chV h r = chV k s) : h = k ∧ r = s := by
  have e' : chL h r = chL k s := by simpa using congrArg Array.toList e
  injection e' with e1 e2
  injection e1 with _ e1
  exact ⟨e1, (List.map_inj_right fun a b => bv_inj).1 e2⟩
set_option maxRecDepth 100000 in
theorem ch_inv {v : Value} {l : Lit} (h : keyOf Tryz.prog 83 v = some l) : ∃ (k : Int) (r : List UInt8), (Lit.int .i64 k).wf = true ∧ r.length = 32 ∧ v = .agg (chV k r) := by
  obtain ⟨d, hd⟩ : ∃ d, Tryz.prog.types.size + 1 = d + 3 := ⟨Tryz.prog.types.size - 2, by
    have h2 : 2 ≤ Tryz.prog.types.size := of_decide_eq_true (by kernel_rfl)
    omega⟩
  have hwide := ch_wide
  obtain ⟨xs, L, rfl, h1, _⟩ := keyOf_top hwide h
  rw [hd] at h1
  unfold Program.keyLits at h1
  rw [ch_struct] at h1
  simp only [ch_cells] at h1
  have hfs : (Tryz.prog.fieldsOf 83).toList.map (fun f => (f.type, f.offset)) = [(3, 0), (24, 1)] := by kernel_rfl
  generalize (Tryz.prog.fieldsOf 83) = fs at hfs h1
  by_cases hl : xs.toList.length = 33 ∧ fs.all (·.name != "_") = true
  · rw [if_pos hl] at h1
    cases hm : fs.toList.mapM fun f => Tryz.prog.keyLits (d + 2) f.type ((xs.toList.drop f.offset).take (Tryz.prog.cellsOf f.type)) with
    | none => rw [hm] at h1; cases h1
    | some ys =>
      have hg := mapM_get _ _ _ hm
      have at_ : ∀ t o, (t, o) ∈ [(3, 0), (24, 1)] → ∃ y, Tryz.prog.keyLits (d + 2) t ((xs.toList.drop o).take (Tryz.prog.cellsOf t)) = some y := fun t o hto => by
        rw [← hfs] at hto
        obtain ⟨f, hf, he⟩ := List.mem_map.1 hto
        obtain ⟨y, hy⟩ := hg f hf
        simp only [Prod.mk.injEq] at he
        rw [he.1, he.2] at hy
        exact ⟨y, hy⟩
      obtain ⟨y0, h0⟩ := at_ 3 0 (by simp)
      obtain ⟨y1, h2⟩ := at_ 24 1 (by simp)
      rw [dig_cells] at h2
      rw [int_cells] at h0
      obtain ⟨r, hr, er⟩ := dig_inv h2
      have hl33 := hl.1
      obtain ⟨z, zs, e⟩ : ∃ z zs, xs.toList = z :: zs := by
        cases hx : xs.toList with
        | nil => rw [hx] at hl33; simp at hl33
        | cons z zs => exact ⟨z, zs, rfl⟩
      rw [e] at h0 er hl33
      obtain ⟨k, rfl, hw⟩ := int_inv13 h0
      refine ⟨k, r, hw, hr, ?_⟩
      congr 1
      apply Array.ext'
      rw [List.toList_toArray, e]
      have e2 : (Value.int .i64 k :: zs).drop 1 = zs := rfl
      rw [e2, List.take_of_length_le (by simp at hl33; omega)] at er
      rw [er]
  · rw [if_neg hl] at h1
    cases h1
abbrev ChX := {p : Int × List UInt8 // (Lit.int .i64 p.1).wf = true ∧ p.2.length = 32}
noncomputable def chKey : MKey ChX where
  t := 83
  enc := fun p => .agg (chV p.1.1 p.1.2)
  lit := fun p => clit p.1.1 p.1.2
  keyed := chkeyed
  of := fun p => clit_is p.2.2 p.2.1
  inv := fun key kl h => by
    obtain ⟨k, r, h1, h2, rfl⟩ := ch_inv h
    exact ⟨⟨(k, r), h1, h2⟩, rfl⟩
  encinj := fun x y h => by
    simp only [Value.agg.injEq] at h
    obtain ⟨h1, h2⟩ := chV_inj h
    exact Subtype.ext (Prod.ext h1 h2)

/-! ### m[k]++: an entry, then a store -/
set_option maxRecDepth 100000 in
theorem chlaw : Go.WideMaps.KeyLaw Tryz.prog 83 := deep_law_laid key_laidOut (m := 3) (by omega) ch_row (by kernel_rfl) ch_wide
set_option maxRecDepth 100000 in
theorem MapIs.entry {κ : Type} {K : MKey κ} [DecidableEq κ] {w : World} {mb : Nat} {es : List (κ × Value)} (h : MapIs K w mb es) (KL : Go.WideMaps.KeyLaw Tryz.prog K.t) {t e : TypeId} (ht : Tryz.prog.underlying t = some (.map K.t e)) {z : Value} (hz : ∀ u : World, (zeroValue e).run Tryz.prog u = .ok z u) (hl : es.length < maxLen) (x : κ) (val : Value) :
    ∃ (v0 : Value) (st : Value) (w1 w2 : World), (Instr.mapEntry t (.map (some mb)) (K.enc x)).run Tryz.prog w = .ok (.tuple #[v0, st]) w1 ∧ w.grownBy w1 (some mb) ∧
      (Instr.entryStore t (.map (some mb)) st val).run Tryz.prog w1 = .ok () w2 ∧ MapIs K w2 mb (setL es x val) ∧ w.grownBy w2 (some mb) := by
  obtain ⟨w2, hup, hM2, hg2⟩ := h.put ht hl x val
  obtain ⟨D, n, h1, h2⟩ := h.own
  obtain ⟨es', clock, hb, F, hs, rfl⟩ := h1
  obtain ⟨v0, st, es1, clock1, hme, _, hst⟩ := Go.WideElems.entry_then_store KL ht hz hb F (K.of x)
  obtain ⟨es2, clock2, hes, hup2⟩ := hst (Go.ChangeMaps.setBlock w mb (.map es1 clock1)) val (Go.ChangeMaps.heap_setBlock_same hb _)
  rw [hup] at hup2
  have e2 : w2 = Go.ChangeMaps.setBlock w mb (.map es2 clock2) := by injection hup2
  have e3 : Go.ChangeMaps.setBlock (Go.ChangeMaps.setBlock w mb (.map es1 clock1)) mb (.map es2 clock2) = w2 := by
    rw [e2]
    unfold Go.ChangeMaps.setBlock
    simp
  refine ⟨v0, _, _, w2, hme, World.mapTurned.grown ⟨es', clock, es1, clock1, hb, rfl⟩, ?_, hM2, hg2⟩
  rw [← e3]
  exact hes

/-! ### (*vote.Box).tally -/
def cntT (kind r : Int) (d : List UInt8) (ps : List (Int × Int × List UInt8)) : Nat := (ps.filter fun p => decide (p = (kind, r, d))).length
def trX (x : VtX) : Int × Int × List UInt8 := (x.kind, x.round, x.dig)
set_option maxRecDepth 100000 in
theorem cnt_for (kind r : Int) (d : List UInt8) (xs : List VtX) : cntT kind r d (xs.map trX) = (forF kind r d xs).length := by
  unfold cntT forF
  rw [List.filter_map, List.length_map, List.length_map]
  congr 1
  apply List.filter_congr
  intro x _
  unfold isFor trX
  simp only [Function.comp, Prod.mk.injEq, Bool.decide_and]
  cases decide (x.kind = kind) <;> rfl
set_option maxRecDepth 100000 in
theorem cnt_app (kind r : Int) (d : List UInt8) (ps : List (Int × Int × List UInt8)) (p : Int × Int × List UInt8) : cntT kind r d (ps ++ [p]) = cntT kind r d ps + (if p = (kind, r, d) then 1 else 0) := by
  unfold cntT
  rw [List.filter_append, List.length_append, List.filter_cons]
  by_cases h : p = (kind, r, d)
  · rw [if_pos (by simpa using h), if_pos h]; rfl
  · rw [if_neg (by simpa using h), if_neg h]; rfl
/-- How many votes of a kind each choice has. -/
structure TalQ (kind : Int) (ps : List (Int × Int × List UInt8)) (ls : List (ChX × Value)) : Prop where
  val : ∀ e ∈ ls, e.2 = .int .i64 (cntT kind e.1.1.1 e.1.1.2 ps : Int) ∧ 0 < cntT kind e.1.1.1 e.1.1.2 ps ∧ e.1.1.2 ≠ zeros
  all : ∀ p ∈ ps, p.1 = kind → p.2.2 ≠ zeros → ∃ e ∈ ls, e.1.1 = p.2
  len : ls.length ≤ ps.length
set_option maxRecDepth 100000 in
theorem TalQ.start (kind : Int) : TalQ kind [] [] := ⟨fun e he => (by cases he), fun p hp => (by cases hp), Nat.le_refl _⟩
set_option maxRecDepth 100000 in
theorem TalQ.perm {kind : Int} {ps qs : List (Int × Int × List UInt8)} {ls : List (ChX × Value)} (h : TalQ kind ps ls) (hp : ps.Perm qs) : TalQ kind qs ls := by
  have hc : ∀ r d, cntT kind r d ps = cntT kind r d qs := fun r d => (hp.filter _).length_eq
  refine ⟨fun e he => ?_, fun p hq => h.all p (hp.mem_iff.2 hq), by rw [← hp.length_eq]; exact h.len⟩
  rw [← hc]
  exact h.val e he
set_option maxRecDepth 100000 in
theorem TalQ.look {kind : Int} {ps : List (Int × Int × List UInt8)} {ls : List (ChX × Value)} (h : TalQ kind ps ls) (i : ChX) (hi : i.1.2 ≠ zeros) : (lookL ls i).getD (.int .i64 0) = .int .i64 (cntT kind i.1.1 i.1.2 ps : Int) := by
  cases e : lookL ls i with
  | some v => exact (h.val _ (lookL_mem e)).1
  | none =>
    have h0 : cntT kind i.1.1 i.1.2 ps = 0 := by
      unfold cntT
      rw [List.length_eq_zero_iff, List.filter_eq_nil_iff]
      intro p hp hd
      have hp2 : p = (kind, i.1.1, i.1.2) := by simpa using hd
      obtain ⟨e', he, h1⟩ := h.all p hp (by rw [hp2]) (by rw [hp2]; exact hi)
      exact lookL_none e e' he (Subtype.ext (by rw [h1, hp2]))
    rw [h0]
    rfl
set_option maxRecDepth 100000 in
theorem TalQ.hit {kind : Int} {ps : List (Int × Int × List UInt8)} {ls : List (ChX × Value)} (h : TalQ kind ps ls) (i : ChX) (hi : i.1.2 ≠ zeros) : TalQ kind (ps ++ [(kind, i.1.1, i.1.2)]) (setL ls i (.int .i64 (cntT kind i.1.1 i.1.2 ps + 1 : Nat))) := by
  refine ⟨fun e he => ?_, fun p hp h1 h2 => ?_, ?_⟩
  · rw [cnt_app]
    rcases (mem_setL e).1 he with rfl | ⟨he, hne⟩
    · rw [if_pos rfl]
      exact ⟨rfl, by omega, hi⟩
    · have hn : ¬ (kind, i.1.1, i.1.2) = (kind, e.1.1.1, e.1.1.2) := fun e2 => hne (Subtype.ext (by
        simp only [Prod.mk.injEq, true_and] at e2
        exact Prod.ext e2.1.symm e2.2.symm))
      rw [if_neg hn, Nat.add_zero]
      exact h.val e he
  · rcases List.mem_append.1 hp with hp | hp
    · obtain ⟨e, he, h3⟩ := h.all p hp h1 h2
      by_cases h4 : e.1 = i
      · exact ⟨(i, _), (mem_setL _).2 (.inl rfl), by rw [← h4]; exact h3⟩
      · exact ⟨e, (mem_setL e).2 (.inr ⟨he, h4⟩), h3⟩
    · rw [List.mem_singleton.1 hp]
      exact ⟨(i, _), (mem_setL _).2 (.inl rfl), rfl⟩
  · have := setL_le ls i (.int .i64 (cntT kind i.1.1 i.1.2 ps + 1 : Nat))
    have := h.len
    rw [List.length_append, List.length_singleton]
    omega
set_option maxRecDepth 100000 in
theorem TalQ.skip {kind : Int} {ps : List (Int × Int × List UInt8)} {ls : List (ChX × Value)} (h : TalQ kind ps ls) {p : Int × Int × List UInt8} (hp : ¬ (p.1 = kind ∧ p.2.2 ≠ zeros)) : TalQ kind (ps ++ [p]) ls := by
  refine ⟨fun e he => ?_, fun q hq h1 h2 => ?_, ?_⟩
  · have hv := h.val e he
    rw [cnt_app, if_neg (fun e2 => hp (by rw [e2]; exact ⟨rfl, hv.2.2⟩)), Nat.add_zero]
    exact hv
  · rcases List.mem_append.1 hq with hq | hq
    · exact h.all q hq h1 h2
    · rw [List.mem_singleton.1 hq] at h1 h2
      exact absurd ⟨h1, h2⟩ hp
  · have := h.len
    rw [List.length_append, List.length_singleton]
    omega
def entTr (e : PlX × Value) : Int × Int × List UInt8 := (e.1.1.1, e.1.1.2.1, digOf e.2)
set_option maxRecDepth 100000 in
theorem entTr_ent {m : VtM} (h : VOk m.x) : entTr m.ent = trX m.x := by
  unfold entTr VtM.ent trX
  simp only [h.at_val, digOf_cells]
set_option maxRecDepth 100000 in
theorem entTr_all {vs : List VtM} (h : ∀ m ∈ vs, VOk m.x ∧ VFew m.x) : (vs.map VtM.ent).map entTr = (vs.map VtM.x).map trX := by
  rw [List.map_map, List.map_map]
  exact List.map_congr_left fun m hm => entTr_ent (h m hm).1

noncomputable def lkC (m k : Value) : Sem Value := Instr.lookup 84 m k false
set_option maxRecDepth 100000 in
theorem lkC_def (m k : Value) : Instr.lookup 84 m k false = lkC m k := rfl
noncomputable def meC (m k : Value) : Sem Value := Instr.mapEntry 84 m k
set_option maxRecDepth 100000 in
theorem meC_def (m k : Value) : Instr.mapEntry 84 m k = meC m k := rfl
noncomputable def esC (m s v : Value) : Sem Unit := Instr.entryStore 84 m s v
set_option maxRecDepth 100000 in
theorem esC_def (m s v : Value) : Instr.entryStore 84 m s v = esC m s v := rfl
noncomputable def bdCh (parts : Array (Nat × Value)) : Sem Value := Instr.build 83 parts
set_option maxRecDepth 100000 in
theorem bdCh_def (parts : Array (Nat × Value)) : Instr.build 83 parts = bdCh parts := rfl
set_option maxRecDepth 100000 in
theorem built_ch {d : List UInt8} (hd : d.length = 32) (h : Int) (w : World) : (bdCh #[(0, .int .i64 h), (1, .agg (d.map bv).toArray)]).run Tryz.prog w = .ok (.agg (chV h d)) w := by
  refine run_build w _ _ _ ?_
  have e : Tryz.prog.built 83 [(0, .int .i64 h), (1, .agg (d.map bv).toArray)] = Instr.fill (#[(0, 1), (1, 32)][·]?) ([] ++ ([Value.int .i64 0] ++ List.replicate 32 (Value.int .u8 0))).toArray [(0, .int .i64 h), (1, .agg (d.map bv).toArray)] := by kernel_rfl
  refine e.trans ?_
  rw [fill_step (off := 0) (size := 1) (vs := [.int .i64 h]) rfl rfl rfl rfl rfl]
  have e2 : ([] ++ ([.int .i64 h] ++ List.replicate 32 (Value.int .u8 0)) : List Value) = [.int .i64 h] ++ (List.replicate 32 (Value.int .u8 0) ++ []) := by simp
  rw [e2, fill_step (off := 1) (size := 32) (vs := d.map bv) rfl rfl (by simp) rfl (by simp [hd])]
  unfold Instr.fill
  simp
end Go.Proofs.YtadnnnbdlkjnkaaGreatDoor

namespace Go.Proofs.YtadnnnbdlkjnkaaGreatDoor
open Go.RowKit Go.Maps Go.Sort

/-! ### m[k]++, whose entry may be laid ahead of the look-up -/
section
variable {κ : Type} {K : MKey κ} [DecidableEq κ] {w : World} {mb : Nat} {es : List (κ × Value)}
set_option maxRecDepth 100000 in
theorem lookL_set (es : List (κ × Value)) (x : κ) (v : Value) : lookL (setL es x v) x = some v := by
  cases e : lookL (setL es x v) x with
  | none => exact absurd rfl (lookL_none e (x, v) ((mem_setL _).2 (.inl rfl)))
  | some u =>
    rcases (mem_setL _).1 (lookL_mem e) with h1 | ⟨_, h1⟩
    · injection h1 with _ h1
      rw [h1]
    · exact absurd rfl h1
set_option maxRecDepth 100000 in
theorem MapIs.half (h : MapIs K w mb es) (KL : Go.WideMaps.KeyLaw Tryz.prog K.t) {t e : TypeId} (ht : Tryz.prog.underlying t = some (.map K.t e)) {z : Value} (hz : ∀ u : World, (zeroValue e).run Tryz.prog u = .ok z u) (hl : es.length < maxLen) (x : κ) (val : Value) :
    ∃ (st : Value) (w1 w2 : World), (Instr.mapEntry t (.map (some mb)) (K.enc x)).run Tryz.prog w = .ok (.tuple #[(lookL es x).getD z, st]) w1 ∧ w.grownBy w1 (some mb) ∧
      (Instr.lookup t (.map (some mb)) (K.enc x) false).run Tryz.prog w = .ok ((lookL es x).getD z) w ∧ (Instr.lookup t (.map (some mb)) (K.enc x) false).run Tryz.prog w1 = .ok ((lookL es x).getD z) w1 ∧
      (Instr.entryStore t (.map (some mb)) st val).run Tryz.prog w1 = .ok () w2 ∧ MapIs K w2 mb (setL es x val) ∧ w.grownBy w2 (some mb) := by
  obtain ⟨v0, st, w1, w2, hme, hg1, hes, hM2, hg2⟩ := h.entry KL ht hz hl x val
  have hlk := h.look ht (hz w) x
  obtain ⟨D, n, ⟨es', clock, hb, F, hs, rfl⟩, h2⟩ := h.own
  have half : ∃ w1', (Instr.mapEntry t (.map (some mb)) (K.enc x)).run Tryz.prog w = .ok (.tuple #[(lookL es x).getD z, st]) w1' ∧ (Instr.mapUpdate t (.map (some mb)) (K.enc x) ((lookL es x).getD z)).run Tryz.prog w = .ok () w1' := by
    rcases KL.find w (K.of x) es'.toList F.keys with ⟨f1, _⟩ | ⟨j, e0, f1, f2, f3⟩
    · have e1 : (lookL es x).getD z = z := by
        have h3 : (Instr.lookup t (.map (some mb)) (K.enc x) false).run Tryz.prog w = .ok z w := by
          simp [Instr.lookup, run_underlying ht, MapKept.run_getObj_map hb, KL.check w _ (K.of x), f1, hz, Result.andThen]
        rw [hlk] at h3
        injection h3
      rw [e1]
      have h4 : (Instr.mapEntry t (.map (some mb)) (K.enc x)).run Tryz.prog w = .ok (.tuple #[z, goInt clock]) (Go.ChangeMaps.setBlock w mb (.map (es'.push ⟨K.enc x, z, clock⟩) (clock + 1))) := by
        simp [Instr.mapEntry, run_underlying ht, MapKept.run_getObj_map hb, KL.check w false (K.of x), f1, hz, MapKept.run_setObj_map _ hb, Result.andThen, Go.ChangeMaps.setBlock]
      have h5 := hme.symm.trans h4
      injection h5 with h5 h6
      injection h5 with h5
      have h7 := congrArg Array.toList h5
      simp only [List.cons.injEq, and_true] at h7
      refine ⟨w1, by rw [hme, h7.1], ?_⟩
      rw [h6]
      simp [Instr.mapUpdate, run_underlying ht, MapKept.run_getObj_map hb, KL.check w false (K.of x), f1, MapKept.run_setObj_map _ hb, Result.andThen, Go.ChangeMaps.setBlock]
    · have hj : es'[j]? = some e0 := by simpa using f2
      have e1 : (lookL es x).getD z = e0.val := by
        have h3 : (Instr.lookup t (.map (some mb)) (K.enc x) false).run Tryz.prog w = .ok e0.val w := by
          simp [Instr.lookup, run_underlying ht, MapKept.run_getObj_map hb, KL.check w _ (K.of x), f1, Result.andThen]
        rw [hlk] at h3
        injection h3
      rw [e1]
      have hsame : es'.modify j (fun e => { e with key := K.enc x }) = es' := by
        apply Array.ext'
        rw [Array.toList_modify, Go.ChangeMaps.modify_eq_set _ _ _ _ f2, show ({ e0 with key := K.enc x } : MapEntry) = e0 from by rw [← f3]]
        exact Go.WideElems.set_self _ _ _ f2
      have hsame2 : es'.modify j (fun e => { e with key := K.enc x, val := e0.val }) = es' := by
        apply Array.ext'
        rw [Array.toList_modify, Go.ChangeMaps.modify_eq_set _ _ _ _ f2, show ({ e0 with key := K.enc x, val := e0.val } : MapEntry) = e0 from by rw [← f3]]
        exact Go.WideElems.set_self _ _ _ f2
      have h4 : (Instr.mapEntry t (.map (some mb)) (K.enc x)).run Tryz.prog w = .ok (.tuple #[e0.val, goInt e0.born]) (Go.ChangeMaps.setBlock w mb (.map es' clock)) := by
        simp [Instr.mapEntry, run_underlying ht, MapKept.run_getObj_map hb, KL.check w false (K.of x), f1, hj, f3, KL.stays w (K.of x), hsame, MapKept.run_setObj_map _ hb, Result.andThen, Go.ChangeMaps.setBlock]
      have h5 := hme.symm.trans h4
      injection h5 with h5 h6
      injection h5 with h5
      have h7 := congrArg Array.toList h5
      simp only [List.cons.injEq, and_true] at h7
      refine ⟨w1, by rw [hme, h7.1], ?_⟩
      rw [h6]
      simp [Instr.mapUpdate, run_underlying ht, MapKept.run_getObj_map hb, KL.check w false (K.of x), f1, hj, f3, KL.stays w (K.of x), hsame2, MapKept.run_setObj_map _ hb, Result.andThen, Go.ChangeMaps.setBlock]
  obtain ⟨w1', h5, h6⟩ := half
  have h7 := hme.symm.trans h5
  injection h7 with h7 h8
  subst h8
  obtain ⟨w3, h9, hM3, _⟩ := h.put ht hl x ((lookL es x).getD z)
  rw [h6] at h9
  injection h9 with _ h9
  subst h9
  have hl3 := hM3.look ht (hz _) x
  rw [lookL_set, Option.getD_some] at hl3
  exact ⟨st, w1, w2, h5, hg1, hlk, hl3, hes, hM2, hg2⟩
end

structure TlS (q : Nat) (m : VtM) (w : World) : Prop where
  place : Box w q 69 (plV m.x.kind m.x.round m.x.frm)
  vote : Box w (q + 1) 37 m.cells.toArray
attribute [local go_sem ↓] ldVt_def stVt_def ldPl_def stPl_def alVt_def ldDigest_def stDigest_def eqDigest_def bdDg_def lkC_def meC_def esC_def bdCh_def
set_option maxRecDepth 100000 in
set_option maxHeartbeats 4000000 in
theorem tally_any (pv mv : Option Nat) (vs : List VtM) (kind : Int) (hl : vs.length < 1000000) (w : World) (hB : BoxOr w pv mv vs) :
    Calls Tryz.prog 33 #[ptrO pv, .int .i64 kind] w fun e w' => ∃ mb2 ls, e = .returned (.map (some mb2)) ∧ MapIs chKey w' mb2 ls ∧ TalQ kind ((vs.map VtM.x).map trX) ls ∧ Below w.heap.size w w' := by
  obtain ⟨w1, hw1⟩ : ∃ w1, w1 = w.alloc (.map #[] 0) := ⟨_, rfl⟩
  have HF : Hid (Below w.heap.size w w1) := by rw [hw1]; exact (Below.refl _ _).alloc (Nat.le_refl _) _
  have HM : Hid (MapIs chKey w1 w.heap.size []) := by rw [hw1]; exact Lib.hid (MapIs.made chKey w)
  have HB := Lib.hid (hB.call HF.out)
  have HAL := Lib.hid (all_or pv mv vs w1 HB.out)
  have HL := Lib.hid hl
  have HOK := Lib.hid hB.ok
  have HML : Hid (∀ mb, mv = some mb → mb < w.heap.size) := Lib.hid hB.lt
  have HZ : Hid (w.heap.size < w1.heap.size) := by rw [hw1]; exact Lib.hid (by simp)
  have hmm := @run_makeMap Tryz.prog
  obtain ⟨pp, hpp⟩ : ∃ pp, pp = ptrO pv := ⟨_, rfl⟩
  rw [← hpp] at HAL ⊢
  clear hpp hl hB
  go_enter Tryz.func33, Tryz.ntmps33
  go_upto_region 2 with fail
  change Code.wp _ _ _ _ (w.alloc (.map #[] 0))
  rw [← hw1]
  clear hw1 hmm
  go_wp2_with (first
    | (go_at_call 48; (with_reducible refine (HAL.out).mono ?_); rintro e w2 ⟨rfl, hb2⟩; have HB2 := Lib.hid (HB.out.call hb2); have HF2 := Lib.hid (HF.out.trans (hb2.mono HF.out.size)); have HM2 := Lib.hid (HM.out.call hb2); have HZ2 := Lib.hid (Nat.lt_of_lt_of_le HZ.out hb2.size); clear hb2)
    | (at_range; refine wpList_range_is plKey _ rfl _ 65 rfl 37 Tryz.underlying65 mv _ rfl HB2.out.map ?_; intro w3 cnt hit hg3 hs3))
  go_frame
  have HI3 := Lib.hid hit
  have hb3 : Below w2.heap.size w2 w3 := ⟨hg3.os, hg3.tape, hg3.output, hg3.size, fun i hi => hg3.block i hi (by simp)⟩
  have HF3 := Lib.hid (HF2.out.trans (hb3.mono HF2.out.size))
  have HM3 := Lib.hid (HM2.out.call hb3)
  have HES : Hid ((vs.map VtM.ent).map entTr = (vs.map VtM.x).map trX) := Lib.hid (entTr_all HOK.out)
  have HEM : Hid (∀ e ∈ vs.map VtM.ent, ∃ m ∈ vs, e = m.ent) := Lib.hid (fun e he => by obtain ⟨m, hm, rfl⟩ := List.mem_map.1 he; exact ⟨m, hm, rfl⟩)
  have HEL : Hid ((vs.map VtM.ent).length = vs.length) := Lib.hid (by rw [List.length_map])
  generalize vs.map VtM.ent = es at *
  have HRZ : Hid (w.heap.size < w2.heap.size) := HZ2
  clear hit hg3 hs3 hb3 HB2 HB HAL HF HM HM2 HF2 HZ HZ2
  generalize w2.heap.size = r at *
  go_loopw [] (fun wr => ∃ cnt done ls, Hid (IterIs plKey wr mv r es done cnt) ∧ Hid (MapIs chKey wr w.heap.size ls) ∧ Hid (TalQ kind (done.map entTr) ls) ∧ Hid (Below w.heap.size w wr)) (fun wr => wr.rangeLeft (mv.getD r) r)
  case atStart => exact ⟨_, [], [], HI3, HM3, Lib.hid (TalQ.start kind), HF3⟩
  case round =>
    obtain ⟨cnt2, done, ls, HI, HM, HQ, HW⟩ := hrel
    clear HI3 HM3
    go_upto_region 4 with (at_next; refine wpList_next_is plKey _ rfl _ rfl mv r _ _ _ rfl HI.out (fun hperm => ?_) (fun x v w4 cnt4 hmem hnot hit4 hlt4 hg4 hs4 hen => ?_))
    · have HQ2 : Hid (TalQ kind ((vs.map VtM.x).map trX) ls) := Lib.hid (HQ.out.perm (by rw [← HES.out]; exact hperm.map _))
      clear hperm
      go_wp2
      go_ret
      exact ⟨_, ls, rfl, HM.out, HQ2.out, HW.out⟩
    · obtain ⟨m, hm, hxv⟩ := HEM.out _ hmem
      obtain ⟨rfl, rfl⟩ : x = m.x.at_ ∧ v = .agg m.cells.toArray := by
        unfold VtM.ent at hxv
        exact Prod.mk.injEq .. ▸ hxv
      have HXE := Lib.hid (HOK.out m hm).1
      rw [HXE.out.at_enc] at hen ⊢
      have hz2 := HRZ.out
      have hdl : (done ++ [(m.x.at_, Value.agg m.cells.toArray)]).length ≤ es.length := List.Nodup.length_le_of_subset hit4.sub.1 (fun e he => hit4.sub.2 e he)
      have HDL : Hid ((done.map entTr).length < 1000000) := Lib.hid (by
        have h2 := HEL.out
        have h3 := HL.out
        rw [List.length_append, List.length_singleton] at hdl
        rw [List.length_map]
        omega)
      have hM4 : MapIs chKey w4 w.heap.size ls := HM.out.grown hg4 (by intro e; injection e with e; omega)
      have hW4 : Below w.heap.size w w4 := HW.out.trans (below_only hg4 (by omega) HW.out.size)
      obtain ⟨w5, w6, hst5, hst6, hp6, hv6, hb6⟩ := laid_both w4 m.x.kind m.x.round m.x.frm m
      have hal := al_vt
      have HP6 := Lib.hid hp6
      have HV6 := Lib.hid hv6
      have HM6 := Lib.hid (hM4.call hb6)
      have HI6 := Lib.hid (hit4.call hb6)
      have HF6 := Lib.hid (hW4.trans (hb6.mono hW4.size))
      have HQ4 : Hid (w.heap.size < w4.heap.size ∧ r ≠ w.heap.size) := Lib.hid ⟨by have := hM4.lt; omega, by omega⟩
      have HLT : Hid (w6.rangeLeft (mv.getD r) r < wr.rangeLeft (mv.getD r) r) := Lib.hid (by rw [HI6.out.left_eq, HI.out.left_eq]; exact hlt4)
      have HTE : Hid ((done ++ [(m.x.at_, Value.agg m.cells.toArray)]).map entTr = done.map entTr ++ [trX m.x]) := Lib.hid (by
        rw [List.map_append, List.map_singleton]
        have h := entTr_ent HXE.out
        unfold VtM.ent at h
        rw [h])
      have HRE : Hid (r < w4.heap.size) := Lib.hid hit4.lt
      clear hmem hnot hit4 hlt4 hg4 hs4 hxv hM4 hW4 hp6 hv6 hb6 hdl hz2 HI HM HW
      go_upto_region 5 with fail
      clear hst5 hst6 hal hen
      have c0 : w6.cell? ⟨w4.heap.size, 0, none⟩ = some (.int .i64 m.x.kind) := HP6.out.cell 0
      have lv : (ldDigest (.pointer (some ⟨w4.heap.size + 1, 4, none⟩))).run Tryz.prog w6 = .ok (.agg (m.x.dig.map bv).toArray) w6 := range_load HV6.out.vt_dig m.x.len
      have hbd := bd_dg0
      generalize w4.heap.size = q at *
      by_cases h1 : m.x.kind = kind
      rotate_left
      · have HQN := Lib.hid (HQ.out.skip (p := trX m.x) (fun e => h1 e.1))
        go_wp2
        go_roundw
        case rel => exact ⟨cnt4, _, ls, HI6, HM6, Lib.hid (by rw [HTE.out]; exact HQN.out), HF6⟩
        case measure => exact HLT.out
      by_cases h2 : m.x.dig = zeros
      · have HQN := Lib.hid (HQ.out.skip (p := trX m.x) (fun e => e.2 h2))
        have hq : ∀ w', (eqDigest (.agg (zeros.map bv).toArray) (.agg (zeros.map bv).toArray)).run Tryz.prog w' = .ok true w' := fun w' => by rw [eq_digest zeros zeros rfl rfl w', decide_eq_true rfl]
        rw [h2] at lv
        go_wp2
        go_roundw
        case rel => exact ⟨cnt4, _, ls, HI6, HM6, Lib.hid (by rw [HTE.out]; exact HQN.out), HF6⟩
        case measure => exact HLT.out
      have hq : ∀ w', (eqDigest (.agg (m.x.dig.map bv).toArray) (.agg (zeros.map bv).toArray)).run Tryz.prog w' = .ok false w' := fun w' => by rw [eq_digest _ _ m.x.len rfl w', decide_eq_false h2]
      go_upto_region 6 with fail
      obtain ⟨u6, hu6⟩ : ∃ u6, u6 = w6.drew := ⟨_, rfl⟩
      have hbd6 : Below w6.heap.size w6 u6 := by rw [hu6]; exact (Below.refl _ _).drew
      have HP7 := Lib.hid (HP6.out.below hbd6 HP6.out.lt)
      have HV7 := Lib.hid (HV6.out.below hbd6 HV6.out.lt)
      have HM7 := Lib.hid (HM6.out.call hbd6)
      have HI7 := Lib.hid (HI6.out.call hbd6)
      have HF7 := Lib.hid (HF6.out.trans (hbd6.mono HF6.out.size))
      have HLT7 : Hid (u6.rangeLeft (mv.getD r) r < wr.rangeLeft (mv.getD r) r) := Lib.hid (by rw [HI7.out.left_eq, ← HI6.out.left_eq]; exact HLT.out)
      obtain ⟨cn, hcn⟩ : ∃ cn, cn = cntT kind m.x.round m.x.dig (done.map entTr) := ⟨_, rfl⟩
      have hcl : cn ≤ (done.map entTr).length := by rw [hcn]; unfold cntT; exact List.length_filter_le _ _
      have hlt1 : ls.length < maxLen := by have h1 := HQ.out.len; have h2 := HDL.out; unfold maxLen; omega
      obtain ⟨st, x1, x2, hme, hg1, hlk0, hlk1, hes2, hM2, hg2⟩ := HM7.out.half chlaw Tryz.underlying84 (z := .int .i64 0) (fun u => by kernel_rfl) hlt1 ⟨(m.x.round, m.x.dig), HXE.out.round, m.x.len⟩ (.int .i64 ((cn + 1 : Nat) : Int))
      rw [HQ.out.look ⟨(m.x.round, m.x.dig), HXE.out.round, m.x.len⟩ h2] at hme hlk0 hlk1
      have HQN : Hid (TalQ kind (done.map entTr ++ [trX m.x]) (setL ls ⟨(m.x.round, m.x.dig), HXE.out.round, m.x.len⟩ (.int .i64 ((cn + 1 : Nat) : Int)))) := Lib.hid (by
        have h := HQ.out.hit ⟨(m.x.round, m.x.dig), HXE.out.round, m.x.len⟩ h2
        rw [show trX m.x = (kind, m.x.round, m.x.dig) from by unfold trX; rw [h1], hcn]
        exact h)
      have HM9 := Lib.hid hM2
      have HI9 := Lib.hid (HI7.out.grown hg2 (fun mb hmb e => by have := HML.out mb hmb; injection e with e; omega) (by intro e; injection e with e; exact HQ4.out.2 e))
      have HF9 := Lib.hid (HF7.out.trans (below_only hg2 (Nat.le_refl _) HF7.out.size))
      have HL9 : Hid (x2.rangeLeft (mv.getD r) r < wr.rangeLeft (mv.getD r) r) := Lib.hid (by rw [HI9.out.left_eq, ← HI7.out.left_eq]; exact HLT7.out)
      have me0 : (meC (.map (some w.heap.size)) (.agg (chV m.x.round m.x.dig))).run Tryz.prog u6 = .ok (.tuple #[.int .i64 (cn : Int), st]) x1 := by rw [hcn]; exact hme
      have lk0 : (lkC (.map (some w.heap.size)) (.agg (chV m.x.round m.x.dig))).run Tryz.prog u6 = .ok (.int .i64 (cn : Int)) u6 := by rw [hcn]; exact hlk0
      have lk1 : (lkC (.map (some w.heap.size)) (.agg (chV m.x.round m.x.dig))).run Tryz.prog x1 = .ok (.int .i64 (cn : Int)) x1 := by rw [hcn]; exact hlk1
      have ecn : ((cn + 1 : Nat) : Int) = (cn : Int) + 1 := by omega
      have es1 : (esC (.map (some w.heap.size)) st (.int .i64 ((cn : Int) + 1))).run Tryz.prog x1 = .ok () x2 := by rw [← ecn]; exact hes2
      have wcn : IntKind.i64.wrap ((cn : Int) + 1) = ((cn + 1 : Nat) : Int) := by rw [IntKind.wrap_i64]; have := HDL.out; omega
      have HS0 : Hid (TlS q m u6) := Lib.hid ⟨HP7.out, HV7.out⟩
      have HS1 : Hid (TlS q m x1) := Lib.hid ⟨HP7.out.grown hg1 (by intro e; injection e with e; have := HQ4.out.1; omega), HV7.out.grown hg1 (by intro e; injection e with e; have := HQ4.out.1; omega)⟩
      have HS2 : Hid (TlS q m x2) := Lib.hid ⟨HP7.out.grown hg2 (by intro e; injection e with e; have := HQ4.out.1; omega), HV7.out.grown hg2 (by intro e; injection e with e; have := HQ4.out.1; omega)⟩
      have HT2 : Hid (∀ w', TlS q m w' → w'.cell? ⟨q, 1, none⟩ = some (.int .i64 m.x.round)) := Lib.hid (fun w' h => h.place.cell 1)
      have HT4 : Hid (∀ w', TlS q m w' → (ldDigest (.pointer (some ⟨q + 1, 4, none⟩))).run Tryz.prog w' = .ok (.agg (m.x.dig.map bv).toArray) w') := Lib.hid (fun w' h => range_load h.vote.vt_dig m.x.len)
      have HT5 : Hid (∀ w', (bdCh #[(0, .int .i64 m.x.round), (1, .agg (m.x.dig.map bv).toArray)]).run Tryz.prog w' = .ok (.agg (chV m.x.round m.x.dig)) w') := Lib.hid (fun w' => built_ch m.x.len m.x.round w')
      clear ecn hme hlk0 hlk1 hes2 hM2 hg2 hg1 hbd6 HP6 HV6 HM6 HI6 HF6 HLT HP7 HV7 HM7 HI7 HF7 HLT7 hlt1 hcl hcn HQ hq hbd c0 lv
      refine wp_region_held_drew (S := TlS q m) (by kernel_rfl) (by rw [← hu6]; exact HS0.out) (fun hS => ?_)
      rw [← hu6] at hS ⊢
      clear hu6
      (refine take_at8 (i := 0) (d := 27) (v := .map (some w.heap.size)) rfl (by kernel_rfl) (by kernel_rfl) (by kernel_rfl) (fun _ _ _ h => h) rfl (Or.inl ⟨by kernel_rfl, fun w hSw => by go_simp⟩) hS ?_)
      (refine take_at8 (i := 1) (d := 28) (v := .pointer (some ⟨q, 1, none⟩)) rfl (by kernel_rfl) (by kernel_rfl) (by kernel_rfl) (fun _ _ _ h => h) rfl (Or.inl ⟨by kernel_rfl, fun w hSw => by go_simp⟩) hS ?_)
      (refine take_at8 (i := 2) (d := 29) (v := .int .i64 m.x.round) rfl (by kernel_rfl) (by kernel_rfl) (by kernel_rfl) (fun _ _ _ h => h) rfl (Or.inl ⟨by kernel_rfl, fun w hSw => by have hc := HT2.out w hSw; go_simp⟩) hS ?_)
      (refine take_at8 (i := 3) (d := 30) (v := .pointer (some ⟨q + 1, 4, none⟩)) rfl (by kernel_rfl) (by kernel_rfl) (by kernel_rfl) (fun _ _ _ h => h) rfl (Or.inl ⟨by kernel_rfl, fun w hSw => by go_simp⟩) hS ?_)
      (refine take_at8 (i := 4) (d := 31) (v := .agg (m.x.dig.map bv).toArray) rfl (by kernel_rfl) (by kernel_rfl) (by kernel_rfl) (fun _ _ _ h => h) rfl (Or.inl ⟨by kernel_rfl, fun w hSw => by have hc := HT4.out w hSw; go_simp⟩) hS ?_)
      (refine take_at8 (i := 5) (d := 32) (v := .agg (chV m.x.round m.x.dig)) rfl (by kernel_rfl) (by kernel_rfl) (by kernel_rfl) (fun _ _ _ h => h) rfl (Or.inl ⟨by kernel_rfl, fun w hSw => by have hc := HT5.out w; go_simp⟩) hS ?_)
      refine wpAnyH_ready (rs := [6, 8]) (by decide +kernel) (by simp) (AllReadyH.cons rfl (fun K hK => ?_) (AllReadyH.cons rfl (fun K hK => ?_) AllReadyH.nil))
      · go_simp
        refine hK.out _ _ (HS0.out) (fun hS => ?_)
        clear hK K
        (try simp only [Act.put])
        (refine take_at8 (i := 7) (d := 34) (v := .int .i64 ((cn + 1 : Nat) : Int)) rfl (by kernel_rfl) (by kernel_rfl) (by kernel_rfl) (fun _ _ _ h => h) rfl (Or.inl ⟨by kernel_rfl, fun w hSw => by go_simp⟩) hS ?_)
        refine wpAnyH_ready (rs := [8]) (by decide +kernel) (by simp) (AllReadyH.cons rfl (fun K hK => ?_) AllReadyH.nil)
        go_simp
        refine hK.out _ _ (HS1.out) (fun hS => ?_)
        clear hK K
        (try simp only [Act.put])
        (refine take_at8 (i := 9) (d := 36) (v := st) rfl (by kernel_rfl) (by kernel_rfl) (by kernel_rfl) (fun _ _ _ h => h) rfl (Or.inl ⟨by kernel_rfl, fun w hSw => by go_simp⟩) hS ?_)
        refine wpAnyH_ready (rs := [10]) (by decide +kernel) (by simp) (AllReadyH.cons rfl (fun K hK => ?_) AllReadyH.nil)
        go_simp
        refine hK.out _ _ (HS2.out) (fun hS => ?_)
        clear hK K
        (try simp only [Act.put])
        refine wpAnyH_done (by kernel_rfl) ?_ _
        clear me0 lk0 lk1 es1
        go_wp2
        go_roundw
        case rel => exact ⟨cnt4, _, _, HI9, HM9, Lib.hid (by rw [HTE.out]; exact HQN.out), HF9⟩
        case measure => exact HL9.out
      · go_simp
        refine hK.out _ _ (HS1.out) (fun hS => ?_)
        clear hK K
        (try simp only [Act.put])
        (refine take_at8 (i := 9) (d := 36) (v := st) rfl (by kernel_rfl) (by kernel_rfl) (by kernel_rfl) (fun _ _ _ h => h) rfl (Or.inl ⟨by kernel_rfl, fun w hSw => by go_simp⟩) hS ?_)
        refine wpAnyH_ready (rs := [6]) (by decide +kernel) (by simp) (AllReadyH.cons rfl (fun K hK => ?_) AllReadyH.nil)
        go_simp
        refine hK.out _ _ (HS1.out) (fun hS => ?_)
        clear hK K
        (try simp only [Act.put])
        (refine take_at8 (i := 7) (d := 34) (v := .int .i64 ((cn + 1 : Nat) : Int)) rfl (by kernel_rfl) (by kernel_rfl) (by kernel_rfl) (fun _ _ _ h => h) rfl (Or.inl ⟨by kernel_rfl, fun w hSw => by go_simp⟩) hS ?_)
        refine wpAnyH_ready (rs := [10]) (by decide +kernel) (by simp) (AllReadyH.cons rfl (fun K hK => ?_) AllReadyH.nil)
        go_simp
        refine hK.out _ _ (HS2.out) (fun hS => ?_)
        clear hK K
        (try simp only [Act.put])
        refine wpAnyH_done (by kernel_rfl) ?_ _
        clear me0 lk0 lk1 es1
        go_wp2
        go_roundw
        case rel => exact ⟨cnt4, _, _, HI9, HM9, Lib.hid (by rw [HTE.out]; exact HQN.out), HF9⟩
        case measure => exact HL9.out
end Go.Proofs.YtadnnnbdlkjnkaaGreatDoor

namespace Go.Proofs.YtadnnnbdlkjnkaaGreatDoor
open Go.RowKit Go.Maps Go.Sort

def bef13 (a b : List UInt8) : Bool := decide (Lib.compareBytes a b < 0)
set_option maxRecDepth 100000 in
theorem bef13_at : ∀ (k : Nat) {a b : List UInt8} (ha : k < a.length) (hb : k < b.length), a.take k = b.take k → a[k]'ha ≠ b[k]'hb → bef13 a b = decide (a[k]'ha < b[k]'hb)
  | 0, x :: r, y :: s, _, _, _, hne => by
    simp only [List.getElem_cons_zero] at hne ⊢
    unfold bef13 Lib.compareBytes
    by_cases h1 : x < y
    · simp [h1]
    · have h2 : y < x := by
        rcases UInt8.lt_or_lt_of_ne hne with h | h
        · exact absurd h h1
        · exact h
      simp [h1, h2]
  | k + 1, x :: r, y :: s, ha, hb, ht, hne => by
    simp only [List.take_succ_cons, List.cons.injEq] at ht
    obtain ⟨rfl, ht⟩ := ht
    have h := bef13_at k (a := r) (b := s) (by simpa using ha) (by simpa using hb) ht (by simpa using hne)
    have e : bef13 (x :: r) (x :: s) = bef13 r s := by
      unfold bef13
      rw [show Lib.compareBytes (x :: r) (x :: s) = Lib.compareBytes r s from by
        conv => lhs; unfold Lib.compareBytes
        rw [if_neg (UInt8.lt_irrefl x), if_neg (UInt8.lt_irrefl x)]]
    rw [e, h]
    rfl
  | _, [], _, ha, _, _, _ => by simp at ha
  | _, _ :: _, [], _, hb, _, _ => by simp at hb
set_option maxRecDepth 100000 in
theorem bef13_same (a : List UInt8) : bef13 a a = false := by
  unfold bef13
  rw [compareBytes_self]
  decide

set_option maxRecDepth 100000 in
set_option maxHeartbeats 2000000 in
theorem before13_any (a b : List UInt8) (ha : a.length = 32) (hb : b.length = 32) (w : World) :
    Calls Tryz.prog 20 #[.agg (a.map bv).toArray, .agg (b.map bv).toArray] w fun e w' => e = .returned (.bool (bef13 a b)) ∧ Below w.heap.size w w' := by
  obtain ⟨w1, hw1⟩ : ∃ w1, w1 = (w.alloc (.cells (a.map bv).toArray 24)).alloc (.cells (b.map bv).toArray 24) := ⟨_, rfl⟩
  have HA : Hid (Box w1 w.heap.size 24 (a.map bv).toArray) := by
    rw [hw1]
    exact (Box.made w _ _).alloc _
  have HB : Hid (Box w1 (w.heap.size + 1) 24 (b.map bv).toArray) := by
    rw [hw1]
    exact Box.made_at (by simp) _ _
  have HF : Hid (Below w.heap.size w w1) := by
    rw [hw1]
    exact ((Below.refl _ _).alloc (Nat.le_refl _) _).alloc (by simp) _
  have HLA := Lib.hid ha
  have HLB := Lib.hid hb
  clear ha hb
  go_enter Tryz.func20, Tryz.ntmps20
  go_upto_region 1 with fail
  change Code.wp _ _ _ _ ((w.alloc (.cells (a.map bv).toArray 24)).alloc (.cells (b.map bv).toArray 24))
  rw [← hw1]
  clear hw1
  go_wp2
  go_loopw [4, 5, 6] (fun z _ i wr => ∃ k : Nat, k ≤ 32 ∧ i = .int .i64 (k : Int) ∧ z = .bool false ∧ Hid (a.take k = b.take k) ∧ Hid (Below w1.heap.size w1 wr)) (fun _ _ i _ => 32 - (intOf i).toNat)
  case atStart => exact ⟨0, Nat.zero_le _, rfl, rfl, Lib.hid (by simp), Lib.hid (Below.refl _ _)⟩
  case round =>
    obtain ⟨k, hk, rfl, rfl, HT, HW⟩ := hrel
    by_cases hlt : k < 32
    · have la : k < a.length := by rw [HLA.out]; exact hlt
      have lb : k < b.length := by rw [HLB.out]; exact hlt
      have hA : wr.cell? ⟨w.heap.size, k, none⟩ = some (.int .u8 ((a[k]'la).toNat : Int)) := by
        rw [(HA.out.below HW.out HA.out.lt).cell, List.getElem?_toArray, List.getElem?_map, List.getElem?_eq_getElem la]
        rfl
      have hB : wr.cell? ⟨w.heap.size + 1, k, none⟩ = some (.int .u8 ((b[k]'lb).toNat : Int)) := by
        rw [(HB.out.below HW.out HB.out.lt).cell, List.getElem?_toArray, List.getElem?_map, List.getElem?_eq_getElem lb]
        rfl
      have hk2 : (k : Int) < 32 := by omega
      by_cases hne : a[k]'la = b[k]'lb
      · have HT2 : Hid (a.take (k + 1) = b.take (k + 1)) := Lib.hid (by
          rw [List.take_succ_eq_append_getElem la, List.take_succ_eq_append_getElem lb, HT.out, hne])
        have e1 : (((a[k]'la).toNat : Int) != ((b[k]'lb).toNat : Int)) = false := by simp [hne]
        generalize (a[k]'la).toNat = x at *
        generalize (b[k]'lb).toNat = y at *
        clear hne
        go_wp2
        go_quiet (fail)
        have HW2 := Lib.hid (below_drewN HW.out nq)
        clear hA hB
        generalize wr.drewN nq = wn at *
        go_wp2
        go_roundw
        case rel => exact ⟨k + 1, hlt, by go_num, rfl, HT2, HW2⟩
        case measure => simp [intOf]; omega
      · have HBF := Lib.hid (bef13_at k la lb HT.out hne)
        have hnn : (a[k]'la).toNat ≠ (b[k]'lb).toNat := fun e => hne (UInt8.toNat_inj.1 e)
        have e1 : (((a[k]'la).toNat : Int) != ((b[k]'lb).toNat : Int)) = true := by
          have : ¬ (((a[k]'la).toNat : Int) = ((b[k]'lb).toNat : Int)) := by omega
          simpa using this
        have HRS : Hid (decide (a[k]'la < b[k]'lb) = decide ((a[k]'la).toNat < (b[k]'lb).toNat)) := Lib.hid (by
          rw [decide_eq_decide]
          exact UInt8.lt_iff_toNat_lt)
        rw [HRS.out] at HBF
        generalize (a[k]'la).toNat = x at *
        generalize (b[k]'lb).toNat = y at *
        clear hne HRS hnn
        go_wp2
        go_quiet (fail)
        go_wp2
        go_quiet (fail)
        go_wp2
        go_ret
        rw [HBF.out]
        exact ⟨rfl, below_drewN (below_drewN (HF.out.trans (HW.out.mono HF.out.size)) _) _⟩
    · have HE : Hid (bef13 a b = false) := Lib.hid (by
        have : k = 32 := by omega
        subst this
        have h := HT.out
        rw [List.take_of_length_le (by rw [HLA.out]; exact Nat.le_refl _), List.take_of_length_le (by rw [HLB.out]; exact Nat.le_refl _)] at h
        rw [h]
        exact bef13_same b)
      go_wp2
      go_ret
      rw [HE.out]
      exact ⟨rfl, HF.out.trans (HW.out.mono HF.out.size)⟩

set_option maxRecDepth 100000 in
theorem bef13_trans {a b c : List UInt8} (h1 : bef13 a b = true) (h2 : bef13 b c = true) : bef13 a c = true := by
  unfold bef13 at *
  rw [decide_eq_true_eq] at *
  exact compareBytes_trans h1 h2
/-- Is a choice the one to tell? -/
def beatB (r : Int) (d : List UInt8) (r' : Int) (d' : List UInt8) : Bool := if r = r' then bef13 d d' else decide (r' < r)
set_option maxRecDepth 100000 in
theorem beatB_self (r : Int) (d : List UInt8) : beatB r d r d = false := by
  unfold beatB
  rw [if_pos rfl]
  exact bef13_same d
set_option maxRecDepth 100000 in
theorem beatB_trans {r1 r2 r3 : Int} {d1 d2 d3 : List UInt8} (h1 : beatB r1 d1 r2 d2 = true) (h2 : beatB r2 d2 r3 d3 = true) : beatB r1 d1 r3 d3 = true := by
  unfold beatB at *
  by_cases e1 : r1 = r2
  · subst e1
    rw [if_pos rfl] at h1
    by_cases e2 : r1 = r3
    · rw [if_pos e2] at h2 ⊢
      exact bef13_trans h1 h2
    · rw [if_neg e2] at h2 ⊢
      exact h2
  · rw [if_neg e1, decide_eq_true_eq] at h1
    by_cases e2 : r2 = r3
    · subst e2
      rw [if_neg e1]
      exact decide_eq_true h1
    · rw [if_neg e2, decide_eq_true_eq] at h2
      rw [if_neg (by omega)]
      exact decide_eq_true (by omega)

set_option maxRecDepth 100000 in
set_option maxHeartbeats 4000000 in
theorem beats_any (r r' : Int) (d d' : List UInt8) (hd : d.length = 32) (hd' : d'.length = 32) (w : World) :
    Calls Tryz.prog 34 #[.agg (chV r d), .agg (chV r' d')] w fun e w' => e = .returned (.bool (beatB r d r' d')) ∧ Below w.heap.size w w' := by
  obtain ⟨w1, hw1⟩ : ∃ w1, w1 = (w.alloc (.cells (chV r d) 83)).alloc (.cells (chV r' d') 83) := ⟨_, rfl⟩
  have HX : Hid (Box w1 w.heap.size 83 (chV r d)) := by rw [hw1]; exact (Box.made w _ _).alloc _
  have HY : Hid (Box w1 (w.heap.size + 1) 83 (chV r' d')) := by rw [hw1]; exact Box.made_at (by simp) _ _
  have HF : Hid (Below w.heap.size w w1) := by rw [hw1]; exact ((Below.refl _ _).alloc (Nat.le_refl _) _).alloc (by simp) _
  have x0 : w1.cell? ⟨w.heap.size, 0, none⟩ = some (.int .i64 r) := HX.out.cell 0
  have y0 : w1.cell? ⟨w.heap.size + 1, 0, none⟩ = some (.int .i64 r') := HY.out.cell 0
  have HB : Hid (∀ w', Box w' w.heap.size 83 (chV r d) → Box w' (w.heap.size + 1) 83 (chV r' d') → Calls Tryz.prog 54 #[.slice (some ⟨w.heap.size, 1, none⟩) 32 32, .slice (some ⟨w.heap.size + 1, 1, none⟩) 32 32] w' fun e w'' => e = .returned (.int .i64 (Lib.compareBytes d d')) ∧ w'' = w') := fun w' hx hy => by
    have hb := bcompare_any w.heap.size 1 (w.heap.size + 1) 1 32 32 d d' w' (fun j u hu => by
      rw [hx.cell, List.getElem?_toArray, Nat.add_comm 1 j, List.getElem?_cons_succ]
      exact hu) (fun j u hu => by
      rw [hy.cell, List.getElem?_toArray, Nat.add_comm 1 j, List.getElem?_cons_succ]
      exact hu)
    rw [hd, hd'] at hb
    exact hb
  obtain ⟨bt, hbt⟩ : ∃ bt, beatB r d r' d' = bt := ⟨_, rfl⟩
  rw [hbt]
  have HBT := Lib.hid hbt
  clear hbt
  go_enter Tryz.func34, Tryz.ntmps34
  go_upto_region 1 with fail
  change Code.wp _ _ _ _ ((w.alloc (.cells (chV r d) 83)).alloc (.cells (chV r' d') 83))
  rw [← hw1]
  clear hw1 hd hd'
  by_cases h : r = r'
  rotate_left
  · have hbt : bt = decide (r' < r) := by rw [← HBT.out]; unfold beatB; rw [if_neg h]
    have HBE := Lib.hid hbt
    clear hbt HBT
    generalize chV r d = ca at *
    generalize chV r' d' = cb at *
    go_wp2
    go_ret
    exact ⟨by rw [HBE.out]; rfl, HF.out⟩
  have hbt : bt = decide (Lib.compareBytes d d' < 0) := by rw [← HBT.out]; unfold beatB; rw [if_pos h]; rfl
  have HBE := Lib.hid hbt
  rw [← h] at y0
  clear hbt h HBT
  generalize chV r d = ca at *
  generalize chV r' d' = cb at *
  go_upto_region 3 with fail
  obtain ⟨u2, hu2⟩ : ∃ u2, u2 = w1.drew := ⟨_, rfl⟩
  have hbd : Below w1.heap.size w1 u2 := by rw [hu2]; exact (Below.refl _ _).drew
  have HS0 : Hid (Box u2 w.heap.size 83 ca ∧ Box u2 (w.heap.size + 1) 83 cb) := Lib.hid ⟨HX.out.below hbd HX.out.lt, HY.out.below hbd HY.out.lt⟩
  have HF2 := Lib.hid (HF.out.trans (hbd.mono HF.out.size))
  clear hbd HX HY HF x0 y0
  refine wp_region_held_drew (S := fun w' => Box w' w.heap.size 83 ca ∧ Box w' (w.heap.size + 1) 83 cb) (by kernel_rfl) (by rw [← hu2]; exact HS0.out) (fun hS => ?_)
  rw [← hu2] at hS ⊢
  clear hu2
  (refine take_at8 (i := 0) (d := 15) (v := .pointer (some ⟨w.heap.size, 1, none⟩)) rfl (by kernel_rfl) (by kernel_rfl) (by kernel_rfl) (fun _ _ _ h => h) rfl (Or.inl ⟨by kernel_rfl, fun w hSw => by go_simp⟩) hS ?_)
  (refine take_at8 (i := 1) (d := 16) (v := .slice (some ⟨w.heap.size, 1, none⟩) 32 32) rfl (by kernel_rfl) (by kernel_rfl) (by kernel_rfl) (fun _ _ _ h => h) rfl (Or.inl ⟨by kernel_rfl, fun w hSw => by go_simp⟩) hS ?_)
  (refine take_at8 (i := 2) (d := 17) (v := .pointer (some ⟨w.heap.size + 1, 1, none⟩)) rfl (by kernel_rfl) (by kernel_rfl) (by kernel_rfl) (fun _ _ _ h => h) rfl (Or.inl ⟨by kernel_rfl, fun w hSw => by go_simp⟩) hS ?_)
  (refine take_at8 (i := 3) (d := 18) (v := .slice (some ⟨w.heap.size + 1, 1, none⟩) 32 32) rfl (by kernel_rfl) (by kernel_rfl) (by kernel_rfl) (fun _ _ _ h => h) rfl (Or.inl ⟨by kernel_rfl, fun w hSw => by go_simp⟩) hS ?_)
  refine wpAnyH_ready (rs := [4]) (by decide +kernel) (by simp) (AllReadyH.cons rfl (fun K hK => ?_) AllReadyH.nil)
  go_simp
  (go_at_call 54; (with_reducible refine (HB.out _ hS.1 hS.2).mono ?_); rintro e w3 ⟨rfl, rfl⟩)
  refine hK.out _ _ (hS) (fun hS => ?_)
  clear hK K
  (try simp only [Act.put])
  (refine take_at8 (i := 5) (d := 20) (v := .bool (decide (Lib.compareBytes d d' < 0))) rfl (by kernel_rfl) (by kernel_rfl) (by kernel_rfl) (fun _ _ _ h => h) rfl (Or.inl ⟨by kernel_rfl, fun w hSw => by go_simp⟩) hS ?_)
  (refine take_at8 (i := 6) (d := 4) (v := .bool (decide (Lib.compareBytes d d' < 0))) rfl (by kernel_rfl) (by kernel_rfl) (by kernel_rfl) (fun _ _ _ h => h) rfl (Or.inl ⟨by kernel_rfl, fun w hSw => by go_simp⟩) hS ?_)
  refine wpAnyH_done (by kernel_rfl) ?_ _
  go_simp
  go_wp2
  go_ret
  exact ⟨by rw [HBE.out]; rfl, HF2.out⟩
end Go.Proofs.YtadnnnbdlkjnkaaGreatDoor

namespace Go.Proofs.YtadnnnbdlkjnkaaGreatDoor
open Go.RowKit Go.Maps Go.Sort

/-! ### Choices in memory -/
noncomputable def ldCh (v : Value) : Sem Value := Instr.loadAt 83 v
set_option maxRecDepth 100000 in
theorem ldCh_def (v : Value) : Instr.loadAt 83 v = ldCh v := rfl
noncomputable def stCh (p v : Value) : Sem Unit := Instr.storeAt 83 p v
set_option maxRecDepth 100000 in
theorem stCh_def (p v : Value) : Instr.storeAt 83 p v = stCh p v := rfl
noncomputable def alCh (b : Bool) (v : Value) : Sem Value := Instr.alloc 83 b v
set_option maxRecDepth 100000 in
theorem alCh_def (b : Bool) (v : Value) : Instr.alloc 83 b v = alCh b v := rfl
noncomputable def alDg (b : Bool) (v : Value) : Sem Value := Instr.alloc 24 b v
set_option maxRecDepth 100000 in
theorem alDg_def (b : Bool) (v : Value) : Instr.alloc 24 b v = alDg b v := rfl
set_option maxRecDepth 100000 in
theorem zero_ch (w : World) : (zeroValue 83).run Tryz.prog w = .ok (.agg (chV 0 zeros)) w := by kernel_rfl
set_option maxRecDepth 100000 in
theorem zero_dg13 (w : World) : (zeroValue 24).run Tryz.prog w = .ok (.agg (zeros.map bv).toArray) w := by kernel_rfl
set_option maxRecDepth 100000 in
theorem al_ch (w : World) : (alCh true (.tuple #[])).run Tryz.prog w = .ok (.pointer (some ⟨w.heap.size, 0, none⟩)) (w.alloc (.cells (chV 0 zeros) 83)) := by
  have h := zero_ch w
  unfold alCh Instr.alloc
  simp [Sem.run_bind, h, newVar, newRow, Value.cells]
set_option maxRecDepth 100000 in
theorem al_dg13 (w : World) : (alDg true (.tuple #[])).run Tryz.prog w = .ok (.pointer (some ⟨w.heap.size, 0, none⟩)) (w.alloc (.cells (zeros.map bv).toArray 24)) := by
  have h := zero_dg13 w
  unfold alDg Instr.alloc
  simp [Sem.run_bind, h, newVar, newRow, Value.cells]
set_option maxRecDepth 100000 in
theorem bd_ch0 (w : World) : (bdCh #[]).run Tryz.prog w = .ok (.agg (chV 0 zeros)) w := run_build w _ _ _ (by kernel_rfl)
set_option maxRecDepth 100000 in
theorem ch_list {d : List UInt8} (hd : d.length = 32) (r : Int) : (Tryz.prog.info? 83).map (·.size) = some (chL r d).length := by
  rw [chL_len hd]
  kernel_rfl
set_option maxRecDepth 100000 in
theorem chL_one (r : Int) (d : List UInt8) : ∀ v ∈ chL r d, v.oneCell' = true := by
  intro v hv
  rcases List.mem_cons.1 hv with rfl | hv
  · rfl
  · exact bv_one _ v hv
section
variable {w : World} {g : Nat} {t : TypeId} {r : Int} {d : List UInt8}
set_option maxRecDepth 100000 in
theorem Box.ld_ch (hb : Box w g t (chV r d)) (hd : d.length = 32) : (ldCh (.pointer (some ⟨g, 0, none⟩))).run Tryz.prog w = .ok (.agg (chV r d)) w :=
  run_loadAt_mid (P := Tryz.prog) w g 0 83 (chL r d) _ hb.range Tryz.underlying83 rfl (ch_list hd r)
set_option maxRecDepth 100000 in
theorem Box.ch_dig (hb : Box w g t (chV r d)) : w.rangeAt g 1 (d.map bv) := Box.range_mid (pre := [.int .i64 r]) (post := []) (by rw [List.append_nil]; exact hb) rfl
set_option maxRecDepth 100000 in
theorem Box.st_ch {cs : Array Value} (hb : Box w g t cs) (hc : cs.size = 33) (r : Int) {d : List UInt8} (hd : d.length = 32) :
    ∃ w', (stCh (.pointer (some ⟨g, 0, none⟩)) (.agg (chV r d))).run Tryz.prog w = .ok () w' ∧ Box w' g t (chV r d) ∧ w.grownBy w' (some g) := by
  refine ⟨w.setCells g 0 (chL r d), ?_, hb.cells_all (chV r d) (by rw [List.size_toArray, chL_len hd, hc]), only_cells (g := g) _ 0 _⟩
  exact run_storeAt_mid (P := Tryz.prog) _ g 0 83 (chV r d) (fun j hj => by
    rw [List.size_toArray, chL_len hd] at hj
    rw [hb.cell, hb.free, Array.getElem?_eq_getElem (by omega)]
    exact ⟨rfl, rfl⟩) (by rw [List.size_toArray]; exact ch_list hd r) (by have := all_oneCell_toArray (chL_one r d); simpa using this)
set_option maxRecDepth 100000 in
theorem laid_ch (w : World) (r : Int) {d : List UInt8} (hd : d.length = 32) : ∃ w', (stCh (.pointer (some ⟨w.heap.size, 0, none⟩)) (.agg (chV r d))).run Tryz.prog (w.alloc (.cells (chV 0 zeros) 83)) = .ok () w' ∧ Box w' w.heap.size 83 (chV r d) ∧ Below w.heap.size w w' := by
  obtain ⟨w', h1, h2, h3⟩ := (Box.made w 83 (chV 0 zeros)).st_ch (by rfl) r hd
  exact ⟨w', h1, h2, ((Below.refl _ _).alloc (Nat.le_refl _) _).trans (below_only h3 (Nat.le_refl _) (by simp))⟩
end
set_option maxRecDepth 100000 in
theorem ret_dg3 {fn : Func} {p q r : Tmp} (hf : fn.results = #[.cell p 24, .tmp q, .tmp r]) {a : Act} {w : World} {g : Nat} (hp : a.tmps.getD p undef = .pointer (some ⟨g, 0, none⟩)) {b c : Value} (hq : a.tmps.getD q undef = b) (hr : a.tmps.getD r undef = c) (hdf : a.defers = []) {t : TypeId} {d : List UInt8} (hb : Box w g t (d.map bv).toArray) (hd : d.length = 32)
    {R : Ending → World → Prop} (hR : R (.returned (.tuple #[.agg (d.map bv).toArray, b, c])) w) : bodyPost Tryz.prog fn R .ret a w := by
  have hp' : a.tmps[p]?.getD undef = .pointer (some ⟨g, 0, none⟩) := by simpa using hp
  have hq' : a.tmps[q]?.getD undef = b := by simpa using hq
  have hr' : a.tmps[r]?.getD undef = c := by simpa using hr
  refine bodyPost_ret (v := .tuple #[.agg (d.map bv).toArray, b, c]) ?_ hdf hR
  simp [results, hf, hp', hq', hr', asAddr, run_loadVar_row w g t 24 (d.map bv).toArray (0, 0) _ hb Tryz.underlying24 rfl (dig_size d hd)]

/-! ### On plain lists -/
/-- The best choice of those that have come. -/
def BestQ (q : Int) (es : List (ChX × Value)) (fb : Bool) (r : Int) (d : List UInt8) : Prop :=
  (fb = false ∧ r = 0 ∧ d = zeros ∧ ∀ e ∈ es, ¬ q ≤ valOf e.2) ∨
  (fb = true ∧ (∃ e ∈ es, q ≤ valOf e.2 ∧ e.1.1 = (r, d)) ∧ ∀ e ∈ es, q ≤ valOf e.2 → beatB e.1.1.1 e.1.1.2 r d = false)
section
variable {q : Int} {es : List (ChX × Value)} {fb : Bool} {r : Int} {d : List UInt8}
set_option maxRecDepth 100000 in
theorem BestQ.perm {es' : List (ChX × Value)} (h : BestQ q es fb r d) (hp : es.Perm es') : BestQ q es' fb r d := by
  rcases h with ⟨h1, h2, h3, h4⟩ | ⟨h1, ⟨e, he, h2⟩, h3⟩
  · exact .inl ⟨h1, h2, h3, fun e he => h4 e (hp.mem_iff.2 he)⟩
  · exact .inr ⟨h1, ⟨e, hp.mem_iff.1 he, h2⟩, fun e he => h3 e (hp.mem_iff.2 he)⟩
set_option maxRecDepth 100000 in
theorem BestQ.skip (h : BestQ q es fb r d) {e : ChX × Value} (hn : ¬ q ≤ valOf e.2) : BestQ q (es ++ [e]) fb r d := by
  rcases h with ⟨h1, h2, h3, h4⟩ | ⟨h1, ⟨e0, he, h2⟩, h3⟩
  · refine .inl ⟨h1, h2, h3, fun e' he => ?_⟩
    rcases List.mem_append.1 he with he | he
    · exact h4 e' he
    · rw [List.mem_singleton.1 he]; exact hn
  · refine .inr ⟨h1, ⟨e0, List.mem_append.2 (.inl he), h2⟩, fun e' he' hq => ?_⟩
    rcases List.mem_append.1 he' with he' | he'
    · exact h3 e' he' hq
    · rw [List.mem_singleton.1 he'] at hq; exact absurd hq hn
set_option maxRecDepth 100000 in
theorem BestQ.first (h : BestQ q es false r d) {e : ChX × Value} (hq : q ≤ valOf e.2) : BestQ q (es ++ [e]) true e.1.1.1 e.1.1.2 := by
  rcases h with ⟨_, _, _, h4⟩ | ⟨h1, _⟩
  · refine .inr ⟨rfl, ⟨e, List.mem_append.2 (.inr (List.mem_singleton.2 rfl)), hq, rfl⟩, fun e' he hq' => ?_⟩
    rcases List.mem_append.1 he with he | he
    · exact absurd hq' (h4 e' he)
    · rw [List.mem_singleton.1 he]; exact beatB_self _ _
  · cases h1
set_option maxRecDepth 100000 in
theorem BestQ.better (h : BestQ q es true r d) {e : ChX × Value} (hq : q ≤ valOf e.2) (hb : beatB e.1.1.1 e.1.1.2 r d = true) : BestQ q (es ++ [e]) true e.1.1.1 e.1.1.2 := by
  rcases h with ⟨h1, _⟩ | ⟨_, _, h3⟩
  · cases h1
  · refine .inr ⟨rfl, ⟨e, List.mem_append.2 (.inr (List.mem_singleton.2 rfl)), hq, rfl⟩, fun e' he hq' => ?_⟩
    rcases List.mem_append.1 he with he | he
    · cases hc : beatB e'.1.1.1 e'.1.1.2 e.1.1.1 e.1.1.2 with
      | false => rfl
      | true =>
        have := h3 e' he hq'
        rw [beatB_trans hc hb] at this
        cases this
    · rw [List.mem_singleton.1 he]; exact beatB_self _ _
set_option maxRecDepth 100000 in
theorem BestQ.worse (h : BestQ q es true r d) {e : ChX × Value} (hb : beatB e.1.1.1 e.1.1.2 r d = false) : BestQ q (es ++ [e]) true r d := by
  rcases h with ⟨h1, _⟩ | ⟨_, ⟨e0, he, h2⟩, h3⟩
  · cases h1
  · refine .inr ⟨rfl, ⟨e0, List.mem_append.2 (.inl he), h2⟩, fun e' he' hq => ?_⟩
    rcases List.mem_append.1 he' with he' | he'
    · exact h3 e' he' hq
    · rw [List.mem_singleton.1 he']; exact hb
end
/-- Did so many vote for a vote's digest? -/
def CandV (xs : List VtX) (kind q : Int) (x : VtX) : Prop := x.kind = kind ∧ x.dig ≠ zeros ∧ q ≤ ((forF kind x.round x.dig xs).length : Int)
/-- The winner. -/
def WinIs (xs : List VtX) (kind q : Int) (d : List UInt8) (r : Int) (fb : Bool) : Prop :=
  (fb = false ∧ d = zeros ∧ r = 0 ∧ ∀ x ∈ xs, ¬ CandV xs kind q x) ∨
  (fb = true ∧ (∃ x ∈ xs, CandV xs kind q x ∧ x.round = r ∧ x.dig = d) ∧ ∀ y ∈ xs, CandV xs kind q y → y.round ≤ r ∧ (y.round = r → bef13 y.dig d = false))
set_option maxRecDepth 100000 in
theorem win_of {xs : List VtX} {kind q r : Int} {d : List UInt8} {fb : Bool} {ls : List (ChX × Value)} (ht : TalQ kind (xs.map trX) ls) (hb : BestQ q ls fb r d) : WinIs xs kind q d r fb := by
  have entry : ∀ x ∈ xs, CandV xs kind q x → ∃ e ∈ ls, q ≤ valOf e.2 ∧ e.1.1 = (x.round, x.dig) := fun x hx hc => by
    obtain ⟨e, he, h1⟩ := ht.all (trX x) (List.mem_map.2 ⟨x, hx, rfl⟩) hc.1 hc.2.1
    have h2 : e.1.1 = (x.round, x.dig) := h1
    obtain ⟨h3, _⟩ := ht.val e he
    refine ⟨e, he, ?_, h2⟩
    rw [h3, h2, cnt_for]
    exact hc.2.2
  rcases hb with ⟨h1, h2, h3, h4⟩ | ⟨h1, ⟨e, he, h2, h3⟩, h4⟩
  · refine .inl ⟨h1, h3, h2, fun x hx hc => ?_⟩
    obtain ⟨e, he, h5, _⟩ := entry x hx hc
    exact h4 e he h5
  · refine .inr ⟨h1, ?_, fun y hy hc => ?_⟩
    · obtain ⟨h5, h6, h7⟩ := ht.val e he
      rw [h3] at h5 h6 h7
      rw [h5] at h2
      have h8 : 0 < (forF kind r d xs).length := by rw [← cnt_for]; exact h6
      obtain ⟨f, hf⟩ := List.exists_mem_of_length_pos h8
      obtain ⟨x, hx, _⟩ := List.mem_map.1 hf
      obtain ⟨hx1, hx2⟩ := List.mem_filter.1 hx
      unfold isFor at hx2
      simp only [Bool.and_eq_true, decide_eq_true_eq] at hx2
      refine ⟨x, hx1, ⟨hx2.1.1, by rw [hx2.2]; exact h7, ?_⟩, hx2.1.2, hx2.2⟩
      rw [hx2.1.2, hx2.2, ← cnt_for]
      exact h2
    · obtain ⟨e', he', h5, h6⟩ := entry y hy hc
      have h7 := h4 e' he' h5
      rw [h6] at h7
      unfold beatB at h7
      by_cases e1 : y.round = r
      · rw [if_pos e1] at h7
        exact ⟨by omega, fun _ => h7⟩
      · rw [if_neg e1, decide_eq_false_iff_not] at h7
        exact ⟨by omega, fun e2 => absurd e2 e1⟩

attribute [local go_sem ↓] ldDigest_def stDigest_def bdCh_def ldCh_def stCh_def alCh_def alDg_def
set_option maxRecDepth 100000 in
set_option maxHeartbeats 4000000 in
theorem winner_any (pv mv : Option Nat) (vs : List VtM) (kind q : Int) (hl : vs.length < 1000000) (w : World) (hB : BoxOr w pv mv vs) :
    Calls Tryz.prog 18 #[ptrO pv, .int .i64 kind, .int .i64 q] w fun e w' => ∃ d r fb, e = .returned (.tuple #[.agg (d.map bv).toArray, .int .i64 r, .bool fb]) ∧ d.length = 32 ∧ WinIs (vs.map VtM.x) kind q d r fb ∧ Below w.heap.size w w' := by
  obtain ⟨w1, hw1⟩ : ∃ w1, w1 = w.alloc (.cells (zeros.map bv).toArray 24) := ⟨_, rfl⟩
  have HD1 : Hid (Box w1 w.heap.size 24 (zeros.map bv).toArray) := by rw [hw1]; exact Box.made w _ _
  have HZ : Hid (w1.heap.size = w.heap.size + 1) := by rw [hw1]; exact Lib.hid (by simp)
  have HF1 : Hid (Below w.heap.size w w1) := by rw [hw1]; exact (Below.refl _ _).alloc (Nat.le_refl _) _
  obtain ⟨w2, hst2, hb2, hbl2⟩ := laid_ch w1 0 (d := zeros) rfl
  rw [HZ.out] at hst2 hb2
  have HC2 := Lib.hid hb2
  have HD2 := Lib.hid (HD1.out.below hbl2 HD1.out.lt)
  have HF2 := Lib.hid (HF1.out.trans (hbl2.mono HF1.out.size))
  have HTL := Lib.hid (tally_any pv mv vs kind hl w2 (hB.call HF2.out))
  have hal := al_dg13
  have hac := al_ch
  have hbc := bd_ch0
  have hz1 := HZ.out
  obtain ⟨pp, hpp⟩ : ∃ pp, pp = ptrO pv := ⟨_, rfl⟩
  rw [← hpp] at HTL ⊢
  clear hpp hl hB hb2 hbl2
  go_enter Tryz.func18, Tryz.ntmps18
  go_upto_region 1 with fail
  change Code.wp _ _ _ _ (w.alloc (.cells (zeros.map bv).toArray 24))
  rw [← hw1]
  clear hw1 hal HD1 HF1
  go_upto_region 2 with fail
  clear hst2 hac hbc hz1
  go_wp2_with (first
    | (go_at_call 33; (with_reducible refine (HTL.out).mono ?_); rintro e w3 ⟨mb2, ls, rfl, hm3, hq3, hb3⟩; have HM3 := Lib.hid hm3; have HQ3 := Lib.hid hq3; have HC3 := Lib.hid (HC2.out.below hb3 HC2.out.lt); have HD3 := Lib.hid (HD2.out.below hb3 HD2.out.lt); have HF3 := Lib.hid (HF2.out.trans (hb3.mono HF2.out.size)); clear hm3 hq3 hb3)
    | (at_range; refine wpList_range_is chKey _ rfl _ 84 rfl 3 Tryz.underlying84 (some mb2) _ rfl HM3.out ?_; intro w4 cnt hit hg4 hs4))
  go_frame
  have HI4 := Lib.hid hit
  have hb4 : Below w3.heap.size w3 w4 := ⟨hg4.os, hg4.tape, hg4.output, hg4.size, fun i hi => hg4.block i hi (by simp)⟩
  have HF4 := Lib.hid (HF3.out.trans (hb4.mono HF3.out.size))
  have HC4 := Lib.hid (HC3.out.below hb4 HC3.out.lt)
  have HD4 := Lib.hid (HD3.out.below hb4 HD3.out.lt)
  have HNE : Hid (w.heap.size + 1 < w3.heap.size) := Lib.hid HC3.out.lt
  have HMN : Hid (w.heap.size ≠ mb2 ∧ w.heap.size + 1 ≠ mb2) := Lib.hid ⟨HM3.out.ne HD3.out, HM3.out.ne HC3.out⟩
  clear hit hg4 hs4 hb4 HM3 HC3 HD3 HF3 HTL HC2 HD2 HF2 HZ
  generalize w3.heap.size = r at *
  go_loopw [10] (fun f wr => ∃ cnt done fb z d, f = .bool fb ∧ d.length = 32 ∧ Hid (IterIs chKey wr (some mb2) r ls done cnt) ∧ Hid (Box wr (w.heap.size + 1) 83 (chV z d)) ∧ Hid (Box wr w.heap.size 24 (zeros.map bv).toArray) ∧ Hid (BestQ q done fb z d) ∧ Hid (Below w.heap.size w wr)) (fun _ wr => wr.rangeLeft mb2 r)
  case atStart => exact ⟨_, [], false, 0, zeros, rfl, rfl, HI4, HC4, HD4, Lib.hid (.inl ⟨rfl, rfl, rfl, fun e he => (by cases he)⟩), HF4⟩
  case round =>
    obtain ⟨cnt2, done, fb, z, d, rfl, hd, HI, HC, HD, HQ, HW⟩ := hrel
    have HDL := Lib.hid hd
    clear HI4 HC4 HD4 HF4 hd
    go_upto_region 4 with (at_next; refine wpList_next_is chKey _ rfl _ rfl (some mb2) r _ _ _ rfl HI.out (fun hperm => ?_) (fun x v w4 cnt4 hmem hnot hit4 hlt4 hg4 hs4 hen => ?_))
    · have HWI := Lib.hid (win_of HQ3.out (HQ.out.perm hperm))
      clear hperm
      go_upto_region 7 with fail
      obtain ⟨u7, hu7⟩ : ∃ u7, u7 = wr.drew := ⟨_, rfl⟩
      have hbd : Below wr.heap.size wr u7 := by rw [hu7]; exact (Below.refl _ _).drew
      have HC7 := Lib.hid (HC.out.below hbd HC.out.lt)
      have HD7 := Lib.hid (HD.out.below hbd HD.out.lt)
      have HW7 := Lib.hid (HW.out.trans (hbd.mono HW.out.size))
      have HCC : Hid (∀ w', Box w' (w.heap.size + 1) 83 (chV z d) → (ldDigest (.pointer (some ⟨w.heap.size + 1, 1, none⟩))).run Tryz.prog w' = .ok (.agg (d.map bv).toArray) w') := Lib.hid (fun w' h => range_load h.ch_dig HDL.out)
      have HCZ : Hid (∀ w', Box w' (w.heap.size + 1) 83 (chV z d) → w'.cell? ⟨w.heap.size + 1, 0, none⟩ = some (.int .i64 z)) := Lib.hid (fun w' h => h.cell 0)
      have hst9 := HD7.out.store_digest rfl d HDL.out
      have HD9 := Lib.hid (HD7.out.cells_dig rfl HDL.out)
      have HG9 : Hid (u7.grownBy (u7.setCells w.heap.size 0 (d.map bv)) (some w.heap.size)) := Lib.hid (only_cells (g := w.heap.size) (d.map bv) 0 u7)
      have HC9 := Lib.hid (HC7.out.grown HG9.out (by intro e; injection e with e; omega))
      have HW9 := Lib.hid (HW7.out.trans (below_only HG9.out (Nat.le_refl _) HW7.out.size))
      clear hbd HC HD HW HI HQ
      refine wp_region_held_drew (S := fun w' => Box w' (w.heap.size + 1) 83 (chV z d)) (by kernel_rfl) (by rw [← hu7]; exact HC7.out) (fun hS => ?_)
      rw [← hu7] at hS ⊢
      clear hu7
      (refine take_at8 (i := 0) (d := 36) (v := .pointer (some ⟨w.heap.size + 1, 1, none⟩)) rfl (by kernel_rfl) (by kernel_rfl) (by kernel_rfl) (fun _ _ _ h => h) rfl (Or.inl ⟨by kernel_rfl, fun w hSw => by go_simp⟩) hS ?_)
      (refine take_at8 (i := 1) (d := 37) (v := .agg (d.map bv).toArray) rfl (by kernel_rfl) (by kernel_rfl) (by kernel_rfl) (fun _ _ _ h => h) rfl (Or.inl ⟨by kernel_rfl, fun w hSw => by have hc := HCC.out w hSw; go_simp⟩) hS ?_)
      (refine take_at8 (i := 2) (d := 38) (v := .pointer (some ⟨w.heap.size + 1, 0, none⟩)) rfl (by kernel_rfl) (by kernel_rfl) (by kernel_rfl) (fun _ _ _ h => h) rfl (Or.inl ⟨by kernel_rfl, fun w hSw => by go_simp⟩) hS ?_)
      (refine take_at8 (i := 3) (d := 39) (v := .int .i64 z) rfl (by kernel_rfl) (by kernel_rfl) (by kernel_rfl) (fun _ _ _ h => h) rfl (Or.inl ⟨by kernel_rfl, fun w hSw => by have hc := HCZ.out w hSw; go_simp⟩) hS ?_)
      (refine take_at8 (i := 4) (d := 40) (v := .bool fb) rfl (by kernel_rfl) (by kernel_rfl) (by kernel_rfl) (fun _ _ _ h => h) rfl (Or.inl ⟨by kernel_rfl, fun w hSw => by go_simp⟩) hS ?_)
      refine wpAnyH_ready (rs := [5]) (by decide +kernel) (by simp) (AllReadyH.cons rfl (fun K hK => ?_) AllReadyH.nil)
      go_simp
      refine hK.out _ _ (HC9.out) (fun hS => ?_)
      clear hK K
      (try simp only [Act.put])
      (refine take_at8 (i := 6) (d := 7) (v := .int .i64 z) rfl (by kernel_rfl) (by kernel_rfl) (by kernel_rfl) (fun _ _ _ h => h) rfl (Or.inl ⟨by kernel_rfl, fun w hSw => by go_simp⟩) hS ?_)
      (refine take_at8 (i := 7) (d := 8) (v := .bool fb) rfl (by kernel_rfl) (by kernel_rfl) (by kernel_rfl) (fun _ _ _ h => h) rfl (Or.inl ⟨by kernel_rfl, fun w hSw => by go_simp⟩) hS ?_)
      refine wpAnyH_done (by kernel_rfl) ?_ _
      clear hst9
      go_simp
      go_wp2
      exact ret_dg3 rfl rfl rfl rfl rfl HD9.out HDL.out ⟨d, z, fb, rfl, HDL.out, HWI.out, HW9.out⟩
    · have hv := (HQ3.out.val _ hmem).1
      obtain ⟨n, hn⟩ : ∃ n, n = (cntT kind x.1.1 x.1.2 ((vs.map VtM.x).map trX) : Int) := ⟨_, rfl⟩
      have hv2 : v = .int .i64 n := by rw [hn]; exact hv
      clear hn hv
      subst hv2
      obtain ⟨⟨x1, x2⟩, hxw, hxl⟩ := x
      have he : chKey.enc ⟨(x1, x2), hxw, hxl⟩ = .agg (chV x1 x2) := rfl
      rw [he] at hen ⊢
      have HXL : Hid (x2.length = 32) := Lib.hid hxl
      have HI4 := Lib.hid hit4
      have HC4 := Lib.hid (HC.out.grown hg4 (by intro e; injection e with e; have := HNE.out; omega))
      have HD4 := Lib.hid (HD.out.grown hg4 (by intro e; injection e with e; have := HNE.out; omega))
      have HW4 : Hid (Below w.heap.size w w4) := Lib.hid (HW.out.trans (below_only hg4 (by have := HNE.out; omega) HW.out.size))
      have HLT : Hid (w4.rangeLeft mb2 r < wr.rangeLeft mb2 r) := Lib.hid (by
        have h1 := hit4.left_eq
        have h2 := HI.out.left_eq
        simp only [Option.getD_some] at h1 h2
        rw [h1, h2]
        exact hlt4)
      have HSK : Hid (¬ q ≤ n → BestQ q (done ++ [(⟨(x1, x2), hxw, hxl⟩, .int .i64 n)]) fb z d) := Lib.hid (fun h => HQ.out.skip h)
      have HFI : Hid (q ≤ n → fb = false → BestQ q (done ++ [(⟨(x1, x2), hxw, hxl⟩, .int .i64 n)]) true x1 x2) := Lib.hid (fun h1 h2 => by subst h2; exact HQ.out.first (e := (⟨(x1, x2), hxw, hxl⟩, .int .i64 n)) h1)
      have HBE : Hid (q ≤ n → fb = true → beatB x1 x2 z d = true → BestQ q (done ++ [(⟨(x1, x2), hxw, hxl⟩, .int .i64 n)]) true x1 x2) := Lib.hid (fun h1 h2 h3 => by subst h2; exact HQ.out.better (e := (⟨(x1, x2), hxw, hxl⟩, .int .i64 n)) h1 h3)
      have HWO : Hid (fb = true → beatB x1 x2 z d = false → BestQ q (done ++ [(⟨(x1, x2), hxw, hxl⟩, .int .i64 n)]) true z d) := Lib.hid (fun h2 h3 => by subst h2; exact HQ.out.worse (e := (⟨(x1, x2), hxw, hxl⟩, .int .i64 n)) h3)
      clear hmem hnot hit4 hlt4 hg4 hs4 HI HC HD HQ HW
      generalize done ++ [((⟨(x1, x2), hxw, hxl⟩ : ChX), Value.int .i64 n)] = done2 at *
      clear he hxw
      obtain ⟨w5, hst5, hb5, hbl5⟩ := laid_ch w4 x1 hxl
      have hac := al_ch
      have HB5 := Lib.hid hb5
      have HI5 := Lib.hid (HI4.out.call hbl5)
      have HC5 := Lib.hid (HC4.out.below hbl5 HC4.out.lt)
      have HD5 := Lib.hid (HD4.out.below hbl5 HD4.out.lt)
      have HW5 := Lib.hid (HW4.out.trans (hbl5.mono HW4.out.size))
      have HL5 : Hid (w5.rangeLeft mb2 r < wr.rangeLeft mb2 r) := Lib.hid (by
        have h1 := HI5.out.left_eq
        have h2 := HI4.out.left_eq
        simp only [Option.getD_some] at h1 h2
        rw [h1, ← h2]
        exact HLT.out)
      clear hb5 hbl5 HI4 HC4 HD4 HW4 HLT
      go_upto_region 5 with fail
      clear hst5 hac hen hxl
      generalize w4.heap.size = qb at *
      by_cases h1 : q ≤ n
      rotate_left
      · have HQN := Lib.hid (HSK.out h1)
        go_wp2
        go_roundw
        case rel => exact ⟨cnt4, _, fb, z, d, rfl, HDL.out, HI5, HC5, HD5, HQN, HW5⟩
        case measure => exact HL5.out
      cases fb with
      | false =>
        have HQN := Lib.hid (HFI.out h1 rfl)
        obtain ⟨w7, hst7, hb7, hg7⟩ := HC5.out.st_ch (by rw [List.size_toArray, chL_len HDL.out]) x1 HXL.out
        have l5 := HB5.out.ld_ch HXL.out
        have HI7 := Lib.hid (HI5.out.grown hg7 (fun mb hmb e => by injection hmb with hmb; injection e with e; exact HMN.out.2 (by rw [hmb, e])) (by intro e; injection e with e; have := HNE.out; omega))
        have HC7 := Lib.hid hb7
        have HD7 := Lib.hid (HD5.out.grown hg7 (by intro e; injection e with e; omega))
        have HW7 := Lib.hid (HW5.out.trans (below_only hg7 (by omega) HW5.out.size))
        have HL7 : Hid (w7.rangeLeft mb2 r < wr.rangeLeft mb2 r) := Lib.hid (by
          have h1 := HI7.out.left_eq
          have h2 := HI5.out.left_eq
          simp only [Option.getD_some] at h1 h2
          rw [h1, ← h2]
          exact HL5.out)
        clear hb7 hg7
        go_wp2
        go_roundw
        case rel => exact ⟨cnt4, _, true, x1, x2, rfl, HXL.out, HI7, HC7, HD7, HQN, HW7⟩
        case measure => exact HL7.out
      | true =>
        have l5 := HB5.out.ld_ch HXL.out
        have l9 := HC5.out.ld_ch HDL.out
        have HBT := Lib.hid (beats_any x1 z x2 d HXL.out HDL.out w5)
        cases hbt : beatB x1 x2 z d with
        | false =>
          have HQN := Lib.hid (HWO.out rfl hbt)
          rw [hbt] at HBT
          clear hbt
          go_wp2_with (go_at_call 34; (with_reducible refine (HBT.out).mono ?_); rintro e w6 ⟨rfl, hb⟩; have HI6 := Lib.hid (HI5.out.call hb); have HC6 := Lib.hid (HC5.out.below hb HC5.out.lt); have HD6 := Lib.hid (HD5.out.below hb HD5.out.lt); have HW6 := Lib.hid (HW5.out.trans (hb.mono HW5.out.size)); clear hb)
          have HL6 : Hid (w6.rangeLeft mb2 r < wr.rangeLeft mb2 r) := Lib.hid (by
            have h1 := HI6.out.left_eq
            have h2 := HI5.out.left_eq
            simp only [Option.getD_some] at h1 h2
            rw [h1, ← h2]
            exact HL5.out)
          go_roundw
          case rel => exact ⟨cnt4, _, true, z, d, rfl, HDL.out, HI6, HC6, HD6, HQN, HW6⟩
          case measure => exact HL6.out
        | true =>
          have HQN := Lib.hid (HBE.out h1 rfl hbt)
          rw [hbt] at HBT
          clear hbt
          go_upto_region 6 with (go_at_call 34; (with_reducible refine (HBT.out).mono ?_); rintro e w6 ⟨rfl, hb⟩; have HI6 := Lib.hid (HI5.out.call hb); have HB6 := Lib.hid (HB5.out.below hb HB5.out.lt); have HC6 := Lib.hid (HC5.out.below hb HC5.out.lt); have HD6 := Lib.hid (HD5.out.below hb HD5.out.lt); have HW6 := Lib.hid (HW5.out.trans (hb.mono HW5.out.size)); clear hb)
          clear l5 l9
          obtain ⟨w7, hst7, hb7, hg7⟩ := HC6.out.st_ch (by rw [List.size_toArray, chL_len HDL.out]) x1 HXL.out
          have l6 := HB6.out.ld_ch HXL.out
          have HI7 := Lib.hid (HI6.out.grown hg7 (fun mb hmb e => by injection hmb with hmb; injection e with e; exact HMN.out.2 (by rw [hmb, e])) (by intro e; injection e with e; have := HNE.out; omega))
          have HC7 := Lib.hid hb7
          have HD7 := Lib.hid (HD6.out.grown hg7 (by intro e; injection e with e; omega))
          have HW7 := Lib.hid (HW6.out.trans (below_only hg7 (by omega) HW6.out.size))
          have HL7 : Hid (w7.rangeLeft mb2 r < wr.rangeLeft mb2 r) := Lib.hid (by
            have h1 := HI7.out.left_eq
            have h2 := HI5.out.left_eq
            simp only [Option.getD_some] at h1 h2
            rw [h1, ← h2]
            exact HL5.out)
          clear hb7 hg7
          go_wp2
          go_roundw
          case rel => exact ⟨cnt4, _, true, x1, x2, rfl, HXL.out, HI7, HC7, HD7, HQN, HW7⟩
          case measure => exact HL7.out
end Go.Proofs.YtadnnnbdlkjnkaaGreatDoor
