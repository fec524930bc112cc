/-
  state.Get, state.Last, state.New, state.All.
  state.All.
-/
import Derived.Test.YtbgbidgggjkmmaaGreatDoorND
import Derived.Laws.MakeOwn
namespace Go.Proofs.YtbgbidgggjkmmaaGreatDoor
open Go.RowKit Go.Sort

attribute [local go_sem ↓] ldRp_def stRp_def ldSt_def stSt_def ldReq_def stReq_def ldCf_def stCf_def ldPr_def apAll_def bsT_def

/-! ### Get -/
def getV (k : ByteArray) (l : List PairX) : ByteArray := match pLook k l with
  | some p => p.val
  | none => ⟨#[]⟩
def getB (k : ByteArray) (l : List PairX) : Bool := (pLook k l).isSome
set_option maxRecDepth 100000 in
set_option maxHeartbeats 2000000 in
theorem get_any (s : StM) (hn : s.ps.length ≤ 1000000) (hps : PS s.ps) (k : ByteArray) (w : World) (hS : s.See w w.heap.size) :
    Calls Tryz.prog 7 #[.agg s.cells, .string k] w fun e w' => e = .returned (.tuple #[.string (getV k s.ps), .bool (getB k s.ps)]) ∧ Below w.heap.size w w' := by
  obtain ⟨w1, hw1⟩ : ∃ w1, w1 = w.alloc (.cells s.cells 28) := ⟨_, rfl⟩
  have HX : Hid (Box w1 w.heap.size 28 s.cells) := by rw [hw1]; exact Box.made w _ _
  have HF : Hid (Below w.heap.size w w1) := by rw [hw1]; exact (Below.refl _ _).alloc (Nat.le_refl _) _
  have HS1 := Lib.hid (EK.See.far hS.ps HF.out)
  have HFC := Lib.hid (pfind_any s.ps s.pA s.pc (by omega) k w1 HS1.out)
  have HFN : Hid (Fnd sLt PairX.key s.ps k (pFindI s.ps k) (pFindB s.ps k)) := Lib.hid (find_fnd sLt PairX.key s.ps k)
  have HPS := Lib.hid hps
  have c0 : w1.cell? ⟨w.heap.size, 0, none⟩ = some (.slice s.pA s.ps.length s.pc) := HX.out.cell 0
  generalize pFindI s.ps k = J at *
  generalize pFindB s.ps k = B at *
  clear hS hps hn
  cases B
  · have HV : Hid (getV k s.ps = ⟨#[]⟩ ∧ getB k s.ps = false) := Lib.hid (by
      unfold getV getB
      have : pLook k s.ps = none := HFN.out.look_no sLt3 HPS.out
      rw [this]
      exact ⟨rfl, rfl⟩)
    go_enter Tryz.func7, Tryz.ntmps7
    go_upto_region 1 with fail
    change Code.wp _ _ _ _ (w.alloc (.cells s.cells 28))
    rw [← hw1]
    clear hw1
    go_wp2_with (go_at_call 21; (with_reducible refine (HFC.out).mono ?_); rintro e w2 ⟨rfl, hb2⟩; have HB2 := Lib.hid hb2; clear hb2)
    refine bodyPost_ret (v := .tuple #[.string ⟨#[]⟩, .bool false]) (results_tmp2 (t := 4) (u := 5) rfl _ _ _) rfl ?_
    rw [HV.out.1, HV.out.2]
    exact ⟨rfl, HF.out.trans (HB2.out.mono HF.out.size)⟩
  · obtain ⟨hJ, hlk⟩ := HFN.out.look_yes sLt3 HPS.out
    have HV : Hid (getV k s.ps = (s.ps[J]'hJ).val ∧ getB k s.ps = true) := Lib.hid (by
      unfold getV getB
      have : pLook k s.ps = some (s.ps[J]'hJ) := hlk
      rw [this]
      exact ⟨rfl, rfl⟩)
    obtain ⟨g, o, hA, _, hr⟩ := EK.See.range HS1.out hJ
    have HC2 : Hid (∀ w', Below w1.heap.size w1 w' → w'.cell? ⟨w.heap.size, 0, none⟩ = some (.slice (some ⟨g, o, none⟩) s.ps.length s.pc) ∧ w'.cell? ⟨g, o + J * 2 + 1, none⟩ = some (.string (s.ps[J]'hJ).val)) := Lib.hid (fun w' hb => ⟨by rw [← hA]; exact (HX.out.below hb HX.out.lt).cell 0, by
      have h1 := PairX.range_val (hr J hJ)
      exact (hb.cell (block_lt_of_cell h1)).trans h1⟩)
    have i0 : (0 : Int) ≤ (J : Int) := by omega
    have i1 : (J : Int) < (s.ps.length : Int) := by omega
    rw [hA] at c0 HFC
    clear hr hlk hA
    generalize (s.ps[J]'hJ).val = vv at *
    go_enter Tryz.func7, Tryz.ntmps7
    go_upto_region 1 with fail
    change Code.wp _ _ _ _ (w.alloc (.cells s.cells 28))
    rw [← hw1]
    clear hw1
    go_wp2_with (go_at_call 21; (with_reducible refine (HFC.out).mono ?_); rintro e w2 ⟨rfl, hb2⟩; have HB2 := Lib.hid hb2; have c2 := (HC2.out w2 hb2).1; have c3 := (HC2.out w2 hb2).2; clear hb2)
    refine bodyPost_ret (v := .tuple #[.string vv, .bool true]) (results_tmp2 (t := 4) (u := 5) rfl _ _ _) rfl ?_
    rw [HV.out.1, HV.out.2]
    exact ⟨rfl, HF.out.trans (HB2.out.mono HF.out.size)⟩

/-! ### Last -/
def LastPost (s : StM) (c : Int) (w : World) (e : Ending) (w' : World) : Prop :=
  ∃ (r : RepX) (b : Bool) (A : Option Addr) (z : Nat), e = .returned (.tuple #[.agg (repv r.client r.num r.code A r.vals.length z), .bool b]) ∧ (b = true ∧ (∃ m ∈ s.rs, m.x = r) ∧ r.client = c ∨ b = false ∧ r = ⟨0, 0, 0, []⟩) ∧ (RS (s.rs.map RepM.x) → rLook c s.pl.rs = if b = true then some r else none) ∧ SK.Own w' w.heap.size (.slice A r.vals.length z) r.vals ∧ Below w.heap.size w w'
set_option maxRecDepth 100000 in
set_option maxHeartbeats 2000000 in
theorem last_any (s : StM) (hn : s.rs.length ≤ 140737488351232) (hv : ∀ r ∈ s.rs, r.x.vals.length ≤ 8796093022000) (c : Int) (w : World) (hS : s.See w w.heap.size) :
    Calls Tryz.prog 8 #[.agg s.cells, .int .i64 c] w (LastPost s c w) := by
  obtain ⟨w1, hw1⟩ : ∃ w1, w1 = (w.alloc (.cells s.cells 28)).alloc (.cells (repv 0 0 0 none 0 0) 36) := ⟨_, rfl⟩
  have HX : Hid (Box w1 w.heap.size 28 s.cells) := by rw [hw1]; exact (Box.made w _ _).alloc _
  have HY : Hid (Box w1 (w.heap.size + 1) 36 (repv 0 0 0 none 0 0)) := by rw [hw1]; exact Box.made_at (by simp) _ _
  have HF : Hid (Below w.heap.size w w1) := by rw [hw1]; exact ((Below.refl _ _).alloc (Nat.le_refl _) _).alloc (by simp) _
  have HS1 := Lib.hid (EK.See.far hS.rs HF.out)
  have HFC := Lib.hid (rfind_any s.rs s.rA s.rc hn c w1 HS1.out)
  have HFN : Hid (Fnd iLt (fun r : RepM => r.x.client) s.rs c (rFindI s.rs c) (rFindB s.rs c)) := Lib.hid (find_fnd iLt (fun r : RepM => r.x.client) s.rs c)
  have c0 : w1.cell? ⟨w.heap.size, 1, none⟩ = some (.slice s.rA s.rs.length s.rc) := HX.out.cell 1
  generalize rFindI s.rs c = J at *
  generalize rFindB s.rs c = B at *
  cases B
  · have HP : Hid (RS (s.rs.map RepM.x) → rLook c s.pl.rs = none) := Lib.hid (fun h => rlook_no h HFN.out)
    have hbz := bd_rp00
    have HST : Hid (∀ w', Below w1.heap.size w1 w' → ∃ w'', (stRp (.pointer (some ⟨w.heap.size + 1, 0, none⟩)) (.agg (repv 0 0 0 none 0 0))).run Tryz.prog w' = .ok () w'' ∧ Box w'' (w.heap.size + 1) 36 (repv 0 0 0 none 0 0) ∧ Below w.heap.size w w'') := Lib.hid (fun w' hb => by
      obtain ⟨w'', h1, h2, h3⟩ := (HY.out.below hb HY.out.lt).s_rp rfl 0 0 0 none 0 0
      have hf := HF.out.trans (hb.mono HF.out.size)
      exact ⟨w'', h1, h2, hf.trans (below_only h3 (by omega) hf.size)⟩)
    clear hS hv hn
    go_enter Tryz.func8, Tryz.ntmps8
    go_upto_region 1 with fail
    change Code.wp _ _ _ _ ((w.alloc (.cells s.cells 28)).alloc (.cells (repv 0 0 0 none 0 0) 36))
    rw [← hw1]
    clear hw1
    go_wp2_with (go_at_call 22; (with_reducible refine (HFC.out).mono ?_); rintro e w2 ⟨rfl, hb2⟩; obtain ⟨w3, hst3, hb3, hf3⟩ := HST.out w2 hb2; have HB3 := Lib.hid hb3; have HF3 := Lib.hid hf3; clear hb2 hb3 hf3)
    exact retn_rpb rfl rfl rfl rfl HB3.out ⟨⟨0, 0, 0, []⟩, false, none, 0, rfl, .inr ⟨rfl, rfl⟩, fun h => by rw [HP.out h]; rfl, EK.own_nil SK _ _, HF3.out⟩
  · obtain ⟨hJ, hk⟩ := HFN.out.at_
    have HP : Hid (RS (s.rs.map RepM.x) → rLook c s.pl.rs = some (s.rs[J]'hJ).x) := Lib.hid (fun h => by
      obtain ⟨_, h2⟩ := rlook_yes h HFN.out
      exact h2)
    have HM : Hid ((∃ m ∈ s.rs, m.x = (s.rs[J]'hJ).x) ∧ (s.rs[J]'hJ).x.client = c) := Lib.hid ⟨⟨_, List.getElem_mem hJ, rfl⟩, hk⟩
    obtain ⟨g, o, hA, _, hr⟩ := EK.See.range HS1.out hJ
    have HC2 : Hid (∀ w', Below w1.heap.size w1 w' → w'.cell? ⟨w.heap.size, 1, none⟩ = some (.slice (some ⟨g, o, none⟩) s.rs.length s.rc) ∧ (ldRp (.pointer (some ⟨g, o + J * 4, none⟩))).run Tryz.prog w' = .ok (.agg (repv (s.rs[J]'hJ).x.client (s.rs[J]'hJ).x.num (s.rs[J]'hJ).x.code (s.rs[J]'hJ).A (s.rs[J]'hJ).x.vals.length (s.rs[J]'hJ).z)) w') := Lib.hid (fun w' hb => ⟨by rw [← hA]; exact (HX.out.below hb HX.out.lt).cell 1, by
      obtain ⟨g2, o2, hA2, _, hr2⟩ := EK.See.range (EK.See.far HS1.out hb) hJ
      rw [hA] at hA2
      injection hA2 with hA2
      injection hA2 with e2 e3
      subst e2
      subst e3
      exact range_rp (hr2 J hJ)⟩)
    have HCR : Hid (∀ w', Below w1.heap.size w1 w' → Calls Tryz.prog 23 #[.agg (repv (s.rs[J]'hJ).x.client (s.rs[J]'hJ).x.num (s.rs[J]'hJ).x.code (s.rs[J]'hJ).A (s.rs[J]'hJ).x.vals.length (s.rs[J]'hJ).z)] w' fun e w'' => ∃ A' z', e = .returned (.agg (repv (s.rs[J]'hJ).x.client (s.rs[J]'hJ).x.num (s.rs[J]'hJ).x.code A' (s.rs[J]'hJ).x.vals.length z')) ∧ SK.Own w'' w'.heap.size (.slice A' (s.rs[J]'hJ).x.vals.length z') (s.rs[J]'hJ).x.vals ∧ Below w'.heap.size w' w'') := Lib.hid (fun w' hb => creply_any _ _ _ _ _ _ (hv _ (List.getElem_mem hJ)) w' (EK.See.far (hS.vals _ (List.getElem_mem hJ)) (HF.out.trans (hb.mono HF.out.size))))
    have i0 : (0 : Int) ≤ (J : Int) := by omega
    have i1 : (J : Int) < (s.rs.length : Int) := by omega
    rw [hA] at c0 HFC
    clear hr hk hS hv hn hA
    generalize (s.rs[J]'hJ).x = rx at *
    generalize (s.rs[J]'hJ).A = rxA at *
    generalize (s.rs[J]'hJ).z = rxz at *
    go_enter Tryz.func8, Tryz.ntmps8
    go_upto_region 1 with fail
    change Code.wp _ _ _ _ ((w.alloc (.cells s.cells 28)).alloc (.cells (repv 0 0 0 none 0 0) 36))
    rw [← hw1]
    clear hw1
    go_upto_region 4 with (go_at_call 22; (with_reducible refine (HFC.out).mono ?_); rintro e w2 ⟨rfl, hb2⟩; have HB2 := Lib.hid hb2; have c2 := (HC2.out w2 hb2).1; have l2 := (HC2.out w2 hb2).2; have HCR2 := Lib.hid (HCR.out w2 hb2); clear hb2)
    clear HFC HC2 HCR
    go_wp2_with (go_at_call 23; (with_reducible refine (HCR2.out).mono ?_); rintro e w3 ⟨A3, z3, rfl, ho3, hb3⟩; have hf3 := HB2.out.trans (hb3.mono HB2.out.size); have HO3 := Lib.hid (EK.Own.base ho3 (Nat.le_trans HF.out.size HB2.out.size)); obtain ⟨w4, hst4, hb4, hg4⟩ := (HY.out.below hf3 HY.out.lt).s_rp rfl rx.client rx.num rx.code A3 rx.vals.length z3; have HB4 := Lib.hid hb4; have HO4 := Lib.hid (own_box HO3.out (HY.out.below hf3 HY.out.lt) (by decide) hg4); have HF4 := Lib.hid ((HF.out.trans (hf3.mono HF.out.size)).trans (below_only hg4 (by omega) (Nat.le_trans HF.out.size hf3.size))); clear ho3 hb3 hf3 hb4 hg4)
    exact retn_rpb rfl rfl rfl rfl HB4.out ⟨rx, true, A3, z3, rfl, .inl ⟨rfl, HM.out.1, HM.out.2⟩, fun h => by rw [HP.out h]; rfl, HO4.out, HF4.out⟩

/-! ### New -/
set_option maxRecDepth 100000 in
theorem bd_st0 (w : World) (ep : Int) (A : Option Addr) (n c : Nat) : (Instr.build 28 #[(2, .agg (cfgV ep A n c))]).run Tryz.prog w = .ok (.agg (stV none 0 0 none 0 0 ep A n c)) w := run_build w _ _ _ (by kernel_rfl)
def newM (ep : Int) (ms : List MemX) (A : Option Addr) (c : Nat) : StM := ⟨[], none, 0, [], none, 0, ep, ms, A, c⟩
set_option maxRecDepth 100000 in
theorem snew_any (ep : Int) (ms : List MemX) (A : Option Addr) (c : Nat) (hn : ms.length ≤ 1099511627776) (w : World) (hS : MK.See w w.heap.size A ms) :
    Calls Tryz.prog 11 #[.agg (cfgV ep A ms.length c)] w fun e w' => ∃ A' c', e = .returned (.agg (newM ep ms A' c').cells) ∧ (newM ep ms A' c').Own w' w.heap.size ∧ Below w.heap.size w w' := by
  obtain ⟨w1, hw1⟩ : ∃ w1, w1 = (w.alloc (.cells (cfgV ep A ms.length c) 26)).alloc (.cells (stV none 0 0 none 0 0 0 none 0 0) 28) := ⟨_, rfl⟩
  have HX : Hid (Box w1 w.heap.size 26 (cfgV ep A ms.length c)) := by rw [hw1]; exact (Box.made w _ _).alloc _
  have HY : Hid (Box w1 (w.heap.size + 1) 28 (stV none 0 0 none 0 0 0 none 0 0)) := by rw [hw1]; exact Box.made_at (by simp) _ _
  have HF : Hid (Below w.heap.size w w1) := by rw [hw1]; exact ((Below.refl _ _).alloc (Nat.le_refl _) _).alloc (by simp) _
  have HC := Lib.hid (ccfg_any ep ms A c hn w1 (EK.See.far hS HF.out))
  have lc := HX.out.l_cf
  have hbd := bd_st0
  clear hS hn
  go_enter Tryz.func11, Tryz.ntmps11
  go_upto_region 1 with fail
  change Code.wp _ _ _ _ ((w.alloc (.cells (cfgV ep A ms.length c) 26)).alloc (.cells (stV none 0 0 none 0 0 0 none 0 0) 28))
  rw [← hw1]
  clear hw1
  go_wp2_with (go_at_call 24; (with_reducible refine (HC.out).mono ?_); rintro e w2 ⟨A2, c2, rfl, ho2, hb2⟩; obtain ⟨w3, hst3, hb3, hg3⟩ := (HY.out.below hb2 HY.out.lt).s_st rfl none 0 0 none 0 0 ep A2 ms.length c2; have HB3 := Lib.hid hb3; have HO3 := Lib.hid (own_box (EK.Own.base ho2 HF.out.size) (HY.out.below hb2 HY.out.lt) (by decide) hg3); have HF3 := Lib.hid ((HF.out.trans (hb2.mono HF.out.size)).trans (below_only hg3 (by omega) (Nat.le_trans HF.out.size hb2.size))); clear ho2 hb2 hb3 hg3)
  exact retn_st rfl rfl rfl HB3.out ⟨A2, c2, rfl, ⟨EK.own_nil PK _ _, EK.own_nil RK _ _, fun r hr => (by cases hr), HO3.out⟩, HF3.out⟩
end Go.Proofs.YtbgbidgggjkmmaaGreatDoor

namespace Go.Proofs.YtbgbidgggjkmmaaGreatDoor
open Go.RowKit Go.Sort

/-- What all requests make, one by one. -/
def AllIs : StX → List ReqX → StX → List RepX → Prop
  | s, [], s', rl => s' = s ∧ rl = []
  | s, q :: r, s', rl => ∃ s1 a rl', ExeIs s q s1 a ∧ rl = a :: rl' ∧ AllIs s1 r s' rl'
set_option maxRecDepth 100000 in
theorem AllIs.snoc : ∀ {qs : List ReqX} {s s1 s2 : StX} {rl : List RepX} {q : ReqX} {a : RepX}, AllIs s qs s1 rl → ExeIs s1 q s2 a → AllIs s (qs ++ [q]) s2 (rl ++ [a])
  | [], s, s1, s2, rl, q, a, h, he => by
    obtain ⟨rfl, rfl⟩ := h
    exact ⟨s2, a, [], he, rfl, rfl, rfl⟩
  | x :: r, s, s1, s2, rl, q, a, h, he => by
    obtain ⟨s', a', rl', h1, rfl, h2⟩ := h
    exact ⟨s', a', rl' ++ [a], h1, rfl, AllIs.snoc h2 he⟩
set_option maxRecDepth 100000 in
theorem AllIs.ris : ∀ {qs : List ReqX} {s s1 : StX} {rl : List RepX}, AllIs s qs s1 rl → s.Ris → s1.Ris
  | [], s, s1, rl, h, hr => by rw [h.1]; exact hr
  | x :: r, s, s1, rl, h, hr => by
    obtain ⟨s', a', rl', h1, rfl, h2⟩ := h
    exact AllIs.ris h2 (h1.ris hr)
set_option maxRecDepth 100000 in
theorem AllIs.fits : ∀ {qs : List ReqX} {s s1 : StX} {rl : List RepX} {n : Nat}, AllIs s qs s1 rl → s.Fits n → s1.Fits (n + qs.length)
  | [], s, s1, rl, n, h, hr => by rw [h.1]; exact hr
  | x :: r, s, s1, rl, n, h, hr => by
    obtain ⟨s', a', rl', h1, rfl, h2⟩ := h
    have := AllIs.fits h2 (h1.fits hr)
    rw [List.length_cons, show n + (r.length + 1) = n + 1 + r.length by omega]
    exact this

set_option maxRecDepth 100000 in
theorem Frm.row {w w' : World} {b base base' n sz : Nat} {s : StM} {e : TypeId} {v : Value} {xs : List Value} (h : Frm w w' b s) (ho : OwnB s w base b) (hr : w.ownsRow base' e sz v n xs) (he : e ≠ 28) (he2 : e ≠ 42) (he3 : ∀ q, v.ownBlock = some q → s.rA.map Addr.block ≠ some q) : w'.ownsRow base' e sz v n xs := by
  refine ⟨hr.1, ?_⟩
  rcases hr.2 with h1 | ⟨g, cap, cur, h1, h2, h3, h4⟩
  · exact .inl h1
  · refine .inr ⟨g, cap, cur, h1, h2, ?_, h4⟩
    have hbx : Box w g e cur := h3
    exact (h.blk g hbx.lt (fun e2 => Box.apart hbx ho.box he e2) (fun e2 => by
      have := Box.own_ne hbx ho.own.ps (fun e3 => he2 e3.symm)
      rw [own_blk] at this
      exact this e2) (he3 g (by rw [h1]; rfl))).trans h3
set_option maxRecDepth 100000 in
theorem Frm.box {w w' : World} {b base g : Nat} {s : StM} {t : TypeId} {cs : Array Value} (h : Frm w w' b s) (ho : OwnB s w base b) (hb : Box w g t cs) (h1 : g ≠ b) (he2 : t ≠ 42) (he3 : t ≠ 36) : Box w' g t cs :=
  (h.blk g hb.lt h1 (fun e2 => by
      have := Box.own_ne hb ho.own.ps (fun e3 => he2 e3.symm)
      rw [own_blk] at this
      exact this e2) (fun e2 => by
      have := Box.own_ne hb ho.own.rs (fun e3 => he3 e3.symm)
      rw [own_blk] at this
      exact this e2)).trans hb

/-- What All's loop carries. -/
structure AW (s' : StM) (rl : List RepM) (w0 : World) (base b hs : Nat) (A : Option Addr) (c : Nat) (w : World) : Prop where
  own : OwnB s' w base b
  row : RK.Own w base (.slice A rl.length c) rl
  vals : ∀ r ∈ rl, SK.Own w base (.slice r.A r.x.vals.length r.z) r.x.vals
  out : Box w hs 28 (stV none 0 0 none 0 0 0 none 0 0)
  far : Below w0.heap.size w0 w
  hw : w0.heap.size ≤ base
  ho : w0.heap.size ≤ hs
  ob : hs < base
  ap : ∀ q, A.map Addr.block = some q → s'.rA.map Addr.block ≠ some q
section
variable {s' : StM} {rl : List RepM} {w0 w w' : World} {base b hs : Nat} {A : Option Addr} {c : Nat}
set_option maxRecDepth 100000 in
theorem AW.call (h : AW s' rl w0 base b hs A c w) (hb : Below w.heap.size w w') : AW s' rl w0 base b hs A c w' :=
  ⟨h.own.call hb, EK.Own.keep h.row hb, fun r hr => EK.Own.keep (h.vals r hr) hb, h.out.below hb h.out.lt, h.far.trans (hb.mono h.far.size), h.hw, h.ho, h.ob, h.ap⟩
/-- execute, and its reply appended. -/
def AppPost (s' : StM) (rl : List RepM) (w0 : World) (base b hs : Nat) (A : Option Addr) (c : Nat) (x : ReqX) (e : Ending) (w' : World) : Prop :=
    ∃ (s2 : StM) (a : RepM), e = .returned (.agg (repv a.x.client a.x.num a.x.code a.A a.x.vals.length a.z)) ∧ ExeIs s'.pl x s2.pl a.x ∧
      ∃ A2 c2 w2, (apAll #[RK.sl, RK.sl] RK.sl #[.slice A rl.length c, .slice (some ⟨w'.heap.size, 0, none⟩) 1 1]).run Tryz.prog (w'.alloc (.cells (repv a.x.client a.x.num a.x.code a.A a.x.vals.length a.z) 36)) = .ok (.slice A2 (rl ++ [a]).length c2) w2 ∧ AW s2 (rl ++ [a]) w0 base b hs A2 c2 w2
set_option maxRecDepth 100000 in
theorem AW.exec (h : AW s' rl w0 base b hs A c w) (hl : rl.length ≤ 1000) {x : ReqX} {e : Ending} (he : ExecPost s' x base b w e w') : AppPost s' rl w0 base b hs A c x e w' := by
  obtain ⟨s2, a, rA, rz, rfl, hx, ho2, hv2, hf2, hfr, hnew⟩ := he
  have hal : Below w'.heap.size w' (w'.alloc (.cells (repv a.client a.num a.code rA a.vals.length rz) 36)) := (Below.refl _ _).alloc (Nat.le_refl _) _
  have hrow : RK.Own w' base (.slice A rl.length c) rl := hfr.row h.own h.row (by decide) (by decide) (fun q hq => h.ap q (by rw [own_blk] at hq; exact hq))
  have hvals : ∀ r ∈ rl, SK.Own w' base (.slice r.A r.x.vals.length r.z) r.x.vals := fun r hr => hfr.row h.own (h.vals r hr) (by decide) (by decide) (fun q hq e2 => by
    obtain ⟨g, _, _, hbx, _⟩ : ∃ g, s'.rA.map Addr.block = some g ∧ True ∧ True ∧ True := ⟨q, e2, trivial, trivial, trivial⟩
    have h1 := h.own.own.rs
    have h2 := h.vals r hr
    rcases h2.2 with ⟨h3, _⟩ | ⟨g2, cap2, cur2, h3, _, h5, _⟩
    · rw [h3] at hq
      cases hq
    · have hbx2 : Box w g2 SK.e cur2 := h5
      have := Box.own_ne hbx2 h1 (by decide)
      rw [own_blk, e2] at this
      rw [h3] at hq
      simp only [Value.ownBlock, Option.some.injEq] at hq
      exact this (by rw [hq]))
  have hout : Box w' hs 28 (stV none 0 0 none 0 0 0 none 0 0) := hfr.box h.own h.out (fun e2 => by have := h.own.hb; have := h.ob; omega) (by decide) (by decide)
  have hfar : Below w0.heap.size w0 w' := h.far.trans (hf2.mono h.hw)
  have hap2 : ∀ q, A.map Addr.block = some q → s2.rA.map Addr.block ≠ some q := fun q hq e2 => by
    rcases hnew q e2 with h1 | h1
    · have := h.row.lt q (by rw [own_blk]; exact hq)
      omega
    · exact h.ap q hq h1
  have hb1 : base ≤ w'.heap.size := ho2.size
  obtain ⟨g2, c2, w2, hap, hrow2, hg2, hat⟩ := RK.lies (EK.Own.keep hrow hal) (ad := ⟨w'.heap.size, 0, none⟩) (m := 1) (c := 1) (es := [(⟨a, rA, rz⟩ : RepM)]) rfl (by omega) (RK.see_one w' ⟨a, rA, rz⟩) (by omega) (by show (rl.length + 1) * 48 ≤ _; omega) (by simp; omega)
  have hlen : (rl ++ [(⟨a, rA, rz⟩ : RepM)]).length = rl.length + 1 := by simp
  have hrow3 : RK.Own w2 base (.slice (some ⟨g2, 0, none⟩) (rl ++ [(⟨a, rA, rz⟩ : RepM)]).length c2) (rl ++ [⟨a, rA, rz⟩]) := by rw [hlen]; exact hrow2
  have hgr : (w'.alloc (.cells (repv a.client a.num a.code rA a.vals.length rz) 36)).grownBy w2 (Value.slice A rl.length c).ownBlock := hg2
  have hrowA := EK.Own.keep hrow hal
  have hoA := ho2.call hal
  have hne : ∀ q, A.map Addr.block = some q → s2.rA.map Addr.block ≠ some q := hap2
  have hown2 : OwnB s2 w2 base b := by
    refine ⟨box_own hoA.box hrowA (by decide) hgr, ⟨own_apart hoA.own.ps hrowA (by decide) hgr, ?_, fun r hr => own_apart (hoA.own.vals r hr) hrowA (by decide) hgr, own_apart hoA.own.ms hrowA (by decide) hgr⟩, hoA.hb⟩
    refine World.ownsRow.kept hoA.own.rs hgr ?_
    rw [own_blk, own_blk]
    cases hq : s2.rA.map Addr.block with
    | none => exact .inl rfl
    | some q => exact .inr (fun e2 => hne q e2.symm hq)
  have hba : base ≤ (w'.alloc (.cells (repv a.client a.num a.code rA a.vals.length rz) 36)).heap.size := hoA.size
  refine ⟨s2, ⟨a, rA, rz⟩, rfl, hx, some ⟨g2, 0, none⟩, c2, w2, ?_, ⟨hown2, hrow3, fun r hr => ?_, box_own (hout.below hal hout.lt) hrowA (by decide) hgr, (hfar.trans (hal.mono hfar.size)).trans ((below_own hrowA hgr hba).mono h.hw), h.hw, h.ho, h.ob, fun q hq e2 => ?_⟩⟩
  · rw [hlen]
    exact hap
  · rcases List.mem_append.1 hr with hr | hr
    · exact own_apart (EK.Own.keep (hvals r hr) hal) hrowA (by decide) hgr
    · simp only [List.mem_singleton] at hr
      subst hr
      exact own_apart (EK.Own.keep hv2 hal) hrowA (by decide) hgr
  · simp only [Option.map_some, Option.some.injEq] at hq
    subst hq
    rw [own_blk] at hat
    rcases hat with h1 | h1
    · exact hap2 g2 h1 e2
    · have := hoA.own.rs.lt g2 (by rw [own_blk]; exact e2)
      omega
end

noncomputable def mkT (t : TypeId) (l c : Value) : Sem Value := Instr.makeSlice t l c
set_option maxRecDepth 100000 in
theorem mkT_def (t : TypeId) (l c : Value) : Instr.makeSlice t l c = mkT t l c := rfl
set_option maxRecDepth 100000 in
theorem make_rp (w : World) (n : Nat) (hn : n ≤ 1000) {base : Nat} (hb : base ≤ w.heap.size) : ∃ w', (mkT 23 (.int .i64 0) (.int .i64 (n : Int))).run Tryz.prog w = .ok (.slice (some ⟨w.heap.size, 0, none⟩) 0 n) w' ∧ RK.Own w' base (.slice (some ⟨w.heap.size, 0, none⟩) ([] : List RepM).length n) [] ∧ Below w.heap.size w w' := by
  obtain ⟨i0, hi0, hz0, hz1, hz2⟩ := info_parts RK.info
  obtain ⟨w', h1, h2, h3⟩ := run_make_own (P := Tryz.prog) w base RK.sl RK.e i0 _ RK.k RK.und hi0 hz0 hz1 .i64 .i64 n (by rw [hz2]; show 48 * n ≤ _; omega) (by unfold maxLen; omega) hb
  exact ⟨w', h1, h2, ⟨h3.os, h3.tape, h3.output, h3.size, fun k hk => h3.block k hk (by simp)⟩⟩

attribute [local go_sem ↓] ldRp_def stRp_def ldSt_def stSt_def ldReq_def stReq_def apAll_def bsT_def mkT_def

set_option maxRecDepth 100000 in
theorem retn_stv {fn : Func} {p q : Tmp} (hf : fn.results = #[.cell p 28, .tmp q]) {a : Act} {w : World} {g : Nat} (hp : a.tmps.getD p undef = .pointer (some ⟨g, 0, none⟩)) {b : Value} (hq : a.tmps.getD q undef = b) (hdf : a.defers = []) {t : TypeId} {cs : Array Value} (hb : Box w g t cs) (hs : (Tryz.prog.info? 28).map (·.size) = some cs.size)
    {R : Ending → World → Prop} (hR : R (.returned (.tuple #[.agg cs, b])) w) : bodyPost Tryz.prog fn R .ret a w := by
  have hp' : a.tmps[p]?.getD undef = .pointer (some ⟨g, 0, none⟩) := by simpa using hp
  have hq' : a.tmps[q]?.getD undef = b := by simpa using hq
  refine bodyPost_ret (v := .tuple #[.agg cs, b]) ?_ hdf hR
  simp [results, hf, hp', hq', asAddr, run_loadVar_row w g t 28 cs (0, 0) _ hb Tryz.underlying28 rfl hs]

/-- What All answers, and leaves. -/
def AllPost (s : StM) (qs : List ReqX) (w : World) (e : Ending) (w' : World) : Prop :=
  ∃ (s' : StM) (rl : List RepM) (A : Option Addr) (c : Nat), e = .returned (.tuple #[.agg s'.cells, .slice A rl.length c]) ∧ rl.length = qs.length ∧ AllIs s.pl qs s'.pl (rl.map RepM.x) ∧ s'.Own w' w.heap.size ∧ RK.Own w' w.heap.size (.slice A rl.length c) rl ∧ (∀ r ∈ rl, SK.Own w' w.heap.size (.slice r.A r.x.vals.length r.z) r.x.vals) ∧ Below w.heap.size w w'

set_option maxRecDepth 100000 in
set_option maxHeartbeats 4000000 in
theorem sall_any (s : StM) (hfit : s.pl.Fits 1000) (hris : s.pl.Ris) (qs : List ReqX) (A : Option Addr) (c : Nat) (hq : qs.length ≤ 1000) (T : World → Prop) (w : World) (hT : ∀ w', Below w.heap.size w w' → T w') (hop : ∀ x ∈ qs, HopFor x T) (hS : s.See w w.heap.size) (hQ : QK.See w w.heap.size A qs) :
    Calls Tryz.prog 17 #[.agg s.cells, .slice A qs.length c] w (AllPost s qs w) := by
  obtain ⟨w1, hw1⟩ : ∃ w1, w1 = (w.alloc (.cells s.cells 28)).alloc (.cells (stV none 0 0 none 0 0 0 none 0 0) 28) := ⟨_, rfl⟩
  have HX : Hid (Box w1 w.heap.size 28 s.cells) := by rw [hw1]; exact (Box.made w _ _).alloc _
  have HY : Hid (Box w1 (w.heap.size + 1) 28 (stV none 0 0 none 0 0 0 none 0 0)) := by rw [hw1]; exact Box.made_at (by simp) _ _
  have HF : Hid (Below w.heap.size w w1) := by rw [hw1]; exact ((Below.refl _ _).alloc (Nat.le_refl _) _).alloc (by simp) _
  have hps : s.ps.length ≤ 1300 := by have := hfit.ps; unfold StM.pl at this; simp only at this; omega
  have hrs : s.rs.length ≤ 1300 := by have := hfit.rs; unfold StM.pl at this; simp only [List.length_map] at this; omega
  have hms : s.ms.length ≤ 20 := hfit.ms
  have HCS := Lib.hid (cstate_any s (by omega) (by omega) (fun r hr => by have := hfit.vals r.x (List.mem_map_of_mem hr); omega) (by omega) w1 (hS.keep HF.out HF.out.size))
  have HEX : Hid (∀ (s1 : StM) (b k : Nat) (rl : List RepX) (w' : World) (hk : k < qs.length), AllIs s.pl (qs.take k) s1.pl rl → Below w.heap.size w w' → OwnB s1 w' w1.heap.size b → Calls Tryz.prog 27 #[.pointer (some ⟨b, 0, none⟩), .agg (qs[k]'hk).cells.toArray] w' (ExecPost s1 (qs[k]'hk) w1.heap.size b w')) := Lib.hid (fun s1 b k rl w' hk hai hb ho => by
    have hf1 := hai.fits hfit
    have hr1 := hai.ris hris
    have hl : (qs.take k).length ≤ 1000 := by rw [List.length_take]; omega
    have hp1 := hf1.ps
    unfold StM.pl at hp1
    simp only at hp1
    exact exec_any s1 w1.heap.size b (hf1.more (by omega)) hr1 (qs[k]'hk) w' ho (fun hg w'' ho'' hb'' => hop _ (List.getElem_mem hk) hg s1 w1.heap.size b w'' (hT w'' (hb.trans (hb''.mono HF.out.size))) (by omega) hr1.ps hf1.ms hf1.ok ho''))
  have HQ : Hid (∀ w', Below w.heap.size w w' → QK.See w' w'.heap.size A qs) := Lib.hid (fun w' hb => EK.See.far hQ hb)
  have HQN := Lib.hid hq
  have ls := HX.out.l_st
  have GY := Lib.hid HY.out.lt
  clear hS hfit hris hps hrs hms hT hop hQ hq
  go_enter Tryz.func17, Tryz.ntmps17
  go_upto_region 1 with fail
  change Code.wp _ _ _ _ ((w.alloc (.cells s.cells 28)).alloc (.cells (stV none 0 0 none 0 0 0 none 0 0) 28))
  rw [← hw1]
  clear hw1
  go_upto_region 2 with (go_at_call 26; (with_reducible refine (HCS.out).mono ?_); rintro e w2 ⟨s1, rfl, hp1, ho1, hb1⟩; have HP1 := Lib.hid hp1; have HO1 := Lib.hid ho1; have HB1 := Lib.hid hb1; clear hp1 ho1 hb1; obtain ⟨w3, hst3, hb3, hbl3, _⟩ := laid_st w2 (stV none 0 0 none 0 0 0 none 0 0) rfl s1.pA s1.ps.length s1.pc s1.rA s1.rs.length s1.rc s1.ep s1.mA s1.ms.length s1.mc; have HB3 : Hid (OwnB s1 w3 w1.heap.size w2.heap.size) := Lib.hid ⟨hb3, HO1.out.keep hbl3, HB1.out.size⟩; have HF3 := Lib.hid (HB1.out.trans (hbl3.mono HB1.out.size)); clear hb3 hbl3)
  clear HCS HO1 ls hst3 HB1
  generalize w2.heap.size = b at *
  obtain ⟨w4, hmk, hrow4, hbl4⟩ := make_rp w3 qs.length HQN.out (base := w1.heap.size) HB3.out.size
  have HA4 : Hid (AW s1 [] w w1.heap.size b (w.heap.size + 1) (some ⟨w3.heap.size, 0, none⟩) qs.length w4) := Lib.hid (by
    have hf4 := HF3.out.trans (hbl4.mono HF3.out.size)
    refine ⟨HB3.out.call hbl4, hrow4, fun r hr => (by cases hr), HY.out.below hf4 HY.out.lt, HF.out.trans (hf4.mono HF.out.size), HF.out.size, by omega, GY.out, fun q hq e2 => ?_⟩
    simp only [Option.map_some, Option.some.injEq] at hq
    have := HB3.out.own.rs.lt q (by rw [own_blk]; exact e2)
    omega)
  clear hrow4 hbl4 HB3 HF3 HX HY
  go_wp2
  clear hmk
  generalize w3.heap.size = g3 at *
  go_loopw [7, 17] (fun v i wr => ∃ (k : Nat) (s' : StM) (rl : List RepM) (A' : Option Addr) (c' : Nat), k ≤ qs.length ∧ i = .int .i64 (k : Int) ∧ v = .slice A' rl.length c' ∧ Hid (AW s' rl w w1.heap.size b (w.heap.size + 1) A' c' wr) ∧ Hid (AllIs s1.pl (qs.take k) s'.pl (rl.map RepM.x) ∧ rl.length = k)) (fun _ i _ => qs.length - (intOf i).toNat)
  case atStart => exact ⟨0, s1, [], some ⟨g3, 0, none⟩, qs.length, Nat.zero_le _, rfl, rfl, HA4, Lib.hid ⟨⟨rfl, rfl⟩, rfl⟩⟩
  case round =>
    obtain ⟨k, s', rl, A', c', hk, rfl, rfl, HA, HI⟩ := hrel
    by_cases hlt : k < qs.length
    · have HLT := Lib.hid hlt
      obtain ⟨g, o, hA, _, hr⟩ := EK.See.range (HQ.out wr HA.out.far) hlt
      have lk : (ldReq (.pointer (some ⟨g, o + k * 42, none⟩))).run Tryz.prog wr = .ok (.agg (qs[k]'hlt).cells.toArray) wr := run_loadAt_mid (P := Tryz.prog) wr g (o + k * 42) 56 (qs[k]'hlt).cells _ (hr k hlt) Tryz.underlying56 rfl (qs[k]'hlt).size
      rw [hA]
      have i1 : (k : Int) < (qs.length : Int) := by omega
      have i0 : (0 : Int) ≤ (k : Int) := by omega
      have wk : IntKind.i64.wrap ((k : Int) + 1) = ((k + 1 : Nat) : Int) := by rw [IntKind.wrap_i64]; have := HQN.out; omega
      obtain ⟨w5, hst, hb5, hg5⟩ := (Box.made wr 56 zreqV).st_req rfl (qs[k]'hlt)
      have hF5 : Below wr.heap.size wr w5 := ((Below.refl _ _).alloc (Nat.le_refl _) _).trans (below_only hg5 (Nat.le_refl _) (by simp))
      have HA5 := Lib.hid (HA.out.call hF5)
      have l5 := hb5.ld_req
      have HC := Lib.hid (HEX.out s' b k (rl.map RepM.x) w5 hlt (by rw [← HP1.out]; exact HI.out.1) HA5.out.far HA5.out.own)
      have HAE : Hid (∀ (e : Ending) (w' : World), ExecPost s' (qs[k]'hlt) w1.heap.size b w5 e w' → AppPost s' rl w w1.heap.size b (w.heap.size + 1) A' c' (qs[k]'hlt) e w') := Lib.hid (fun e w' he => HA5.out.exec (by have := HI.out.2; have := HQN.out; omega) he)
      have HSN : Hid (∀ s2 (a : RepM), ExeIs s'.pl (qs[k]'hlt) s2 a.x → AllIs s1.pl (qs.take (k + 1)) s2 ((rl ++ [a]).map RepM.x) ∧ (rl ++ [a]).length = k + 1) := Lib.hid (fun s2 a h => by
        refine ⟨?_, by rw [List.length_append, HI.out.2]; rfl⟩
        rw [List.take_succ_eq_append_getElem hlt, List.map_append]
        exact HI.out.1.snoc h)
      generalize qs[k]'hlt = q at *
      clear hr hb5 hg5 hF5 hA
      go_upto_region 6 with fail
      clear lk hst
      generalize wr.heap.size = m5 at *
      go_wp2_with (go_at_call 27; (with_reducible refine (HC.out).mono ?_); intro e w6 he; obtain ⟨s2, a, rfl, hx, A2, c2, w7, hap0, hw7⟩ := HAE.out _ _ he; have HW7 := Lib.hid hw7; have HXE := Lib.hid (HSN.out _ _ hx); clear hw7 hx he; have hbs : (bsT 23 1 #[(0, .agg (repv a.x.client a.x.num a.x.code a.A a.x.vals.length a.z))]).run Tryz.prog w6 = .ok (.slice (some ⟨w6.heap.size, 0, none⟩) 1 1) (w6.alloc (.cells (repv a.x.client a.x.num a.x.code a.A a.x.vals.length a.z) 36)) := RK.build1 a _ rfl (by decide) w6; have hap : (apAll #[23, 23] 23 #[.slice A' rl.length c', .slice (some ⟨w6.heap.size, 0, none⟩) 1 1]).run Tryz.prog (w6.alloc (.cells (repv a.x.client a.x.num a.x.code a.A a.x.vals.length a.z) 36)) = .ok (.slice A2 (rl ++ [a]).length c2) w7 := hap0; clear hap0)
      go_roundw
      case rel => exact ⟨k + 1, s2, rl ++ [a], A2, c2, HLT.out, by go_num, (by rw [List.length_append]; rfl), HW7, HXE⟩
      case measure => have := HLT.out; simp [intOf]; omega
    · have hke : k = qs.length := by omega
      have i1 : ¬ (k : Int) < (qs.length : Int) := by omega
      have l8 := HA.out.own.box.l_st
      obtain ⟨w9, hst9, hb9, hg9⟩ := HA.out.out.s_st rfl s'.pA s'.ps.length s'.pc s'.rA s'.rs.length s'.rc s'.ep s'.mA s'.ms.length s'.mc
      have HB9 := Lib.hid hb9
      have HFIN : Hid (AllPost s qs w (.returned (.tuple #[.agg s'.cells, .slice A' rl.length c'])) w9) := Lib.hid (by
        have hi := HI.out.1
        rw [hke, List.take_length, HP1.out] at hi
        refine ⟨s', rl, A', c', rfl, by rw [HI.out.2]; exact hke, hi, (HA.out.own.own.base HA.out.hw).aside HA.out.out hg9, own_box (EK.Own.base HA.out.row HA.out.hw) HA.out.out (by decide) hg9, fun r hr => own_box (EK.Own.base (HA.out.vals r hr) HA.out.hw) HA.out.out (by decide) hg9, HA.out.far.trans (below_only hg9 HA.out.ho HA.out.far.size)⟩)
      clear hb9 hg9 hk hke
      go_wp2
      exact retn_stv (b := .slice A' rl.length c') rfl rfl rfl rfl HB9.out (st_size _ _ _ _ _ _ _ _ _ _) HFIN.out
end Go.Proofs.YtbgbidgggjkmmaaGreatDoor
