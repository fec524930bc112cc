/-
  Words in memory: their two cells; votes read out of a row; whether members rise.
  Rows of votes that grow beside a word's box: what is carried, one vote more.
-/
import Derived.Test.YtbclepdcngaonaaGreatDoorVD
import Derived.Test.YtbclepdcngaonaaGreatDoorVA
import Derived.Deep.QuietTactic
import Derived.Maps.AppendAt
namespace Go.Proofs.YtbclepdcngaonaaGreatDoor
open Go.RowKit Go.Maps Go.Sort

/-! ### A word's cells -/
abbrev crtV (r : Int) (A : Option Addr) (n c : Nat) : Array Value := #[.int .i64 r, .slice A n c]
noncomputable def ldCt (v : Value) : Sem Value := Instr.loadAt 35 v
set_option maxRecDepth 100000 in
theorem ldCt_def (v : Value) : Instr.loadAt 35 v = ldCt v := rfl
noncomputable def stCt (p v : Value) : Sem Unit := Instr.storeAt 35 p v
set_option maxRecDepth 100000 in
theorem stCt_def (p v : Value) : Instr.storeAt 35 p v = stCt p v := rfl
set_option maxRecDepth 100000 in
theorem ct_size (r : Int) (A : Option Addr) (n c : Nat) : (Tryz.prog.info? 35).map (·.size) = some (crtV r A n c : Array Value).size := by
  show _ = some 2
  kernel_rfl
set_option maxRecDepth 100000 in
theorem ct_list (r : Int) (A : Option Addr) (n c : Nat) : (Tryz.prog.info? 35).map (·.size) = some (crtV r A n c : Array Value).toList.length := by
  show _ = some 2
  kernel_rfl
set_option maxRecDepth 100000 in
theorem ct_one (r : Int) (A : Option Addr) (n c : Nat) : ∀ v ∈ (crtV r A n c : Array Value).toList, v.oneCell' = true := by
  intro v hv
  simp only [List.mem_cons, List.not_mem_nil, or_false] at hv
  rcases hv with rfl | rfl <;> rfl
set_option maxRecDepth 100000 in
theorem Box.l_ct {w : World} {g : Nat} {t : TypeId} {r : Int} {A : Option Addr} {n c : Nat} (h : Box w g t (crtV r A n c : Array Value)) : (ldCt (.pointer (some ⟨g, 0, none⟩))).run Tryz.prog w = .ok (.agg (crtV r A n c : Array Value)) w :=
  run_loadAt_mid (P := Tryz.prog) w g 0 35 (crtV r A n c : Array Value).toList _ (Box.range h) Tryz.underlying35 rfl (ct_list r A n c)
set_option maxRecDepth 100000 in
theorem Box.s_ct {w : World} {g : Nat} {t : TypeId} {cs : Array Value} (h : Box w g t cs) (hs : cs.size = 2) (r : Int) (A : Option Addr) (n c : Nat) :
    ∃ w', (stCt (.pointer (some ⟨g, 0, none⟩)) (.agg (crtV r A n c : Array Value))).run Tryz.prog w = .ok () w' ∧ Box w' g t (crtV r A n c : Array Value) ∧ w.grownBy w' (some g) := by
  refine ⟨w.setCells g 0 (crtV r A n c : Array Value).toList, ?_, h.cells_all (crtV r A n c : Array Value) (by rw [hs]; rfl), only_cells (g := g) _ 0 _⟩
  exact run_storeAt_mid (P := Tryz.prog) _ g 0 35 (crtV r A n c : Array Value) (fun j hj => by
    have hj4 : j < 2 := hj
    rw [h.cell, h.free, Array.getElem?_eq_getElem (by omega)]
    exact ⟨rfl, rfl⟩) (ct_size r A n c) (by have := all_oneCell_toArray (ct_one r A n c); simpa using this)
set_option maxRecDepth 100000 in
theorem laid_ct (w : World) (r : Int) (A : Option Addr) (n c : Nat) : ∃ w', (stCt (.pointer (some ⟨w.heap.size, 0, none⟩)) (.agg (crtV r A n c : Array Value))).run Tryz.prog (w.alloc (.cells (crtV 0 none 0 0) 35)) = .ok () w' ∧ Box w' w.heap.size 35 (crtV r A n c : Array Value) ∧ Below w.heap.size w w' := by
  obtain ⟨w', h1, h2, h3⟩ := (Box.made w 35 (crtV 0 none 0 0)).s_ct rfl r A n c
  exact ⟨w', h1, h2, ((Below.refl _ _).alloc (Nat.le_refl _) _).trans (below_only h3 (Nat.le_refl _) (by simp))⟩
/-! ### New boxes -/
noncomputable def alDg14 (b : Bool) (v : Value) : Sem Value := Instr.alloc 29 b v
set_option maxRecDepth 100000 in
theorem alDg14_def (b : Bool) (v : Value) : Instr.alloc 29 b v = alDg14 b v := rfl
set_option maxRecDepth 100000 in
theorem zero_dg14 (w : World) : (zeroValue 29).run Tryz.prog w = .ok (.agg (zeros.map bv).toArray) w := by kernel_rfl
set_option maxRecDepth 100000 in
theorem al_dg14 (w : World) : (alDg14 true (.tuple #[])).run Tryz.prog w = .ok (.pointer (some ⟨w.heap.size, 0, none⟩)) (w.alloc (.cells (zeros.map bv).toArray 29)) := by
  have h := zero_dg14 w
  unfold alDg14 Instr.alloc
  simp [Sem.run_bind, h, newVar, newRow, Value.cells]
set_option maxRecDepth 100000 in
theorem laid_dg14 (w : World) {d : List UInt8} (hd : d.length = 32) : ∃ w', (stDigest (.pointer (some ⟨w.heap.size, 0, none⟩)) (.agg (d.map bv).toArray)).run Tryz.prog (w.alloc (.cells (zeros.map bv).toArray 29)) = .ok () w' ∧ Box w' w.heap.size 29 (d.map bv).toArray ∧ Below w.heap.size w w' := by
  have hb := Box.made w 29 (zeros.map bv).toArray
  refine ⟨_, hb.store_digest rfl d hd, hb.cells_dig rfl hd, ((Below.refl _ _).alloc (Nat.le_refl _) _).trans (below_only (only_cells (g := w.heap.size) (d.map bv) 0 _) (Nat.le_refl _) (by simp))⟩
noncomputable def alVt14 (b : Bool) (v : Value) : Sem Value := Instr.alloc 74 b v
set_option maxRecDepth 100000 in
theorem alVt14_def (b : Bool) (v : Value) : Instr.alloc 74 b v = alVt14 b v := rfl
set_option maxRecDepth 100000 in
theorem al_vt14 (w : World) : (alVt14 true (.tuple #[])).run Tryz.prog w = .ok (.pointer (some ⟨w.heap.size, 0, none⟩)) (w.alloc (.cells zvtV 74)) := by
  have h := zero_vt w
  unfold alVt14 Instr.alloc
  simp [Sem.run_bind, h, newVar, newRow, Value.cells]

/-! ### A row of votes -/
set_option maxRecDepth 100000 in
theorem row_vote {w : World} {A : Option Addr} {ms : List VtM} (h : VtK.See w w.heap.size A ms) {j : Nat} (hj : j < ms.length) : ∃ g o, A = some ⟨g, o, none⟩ ∧ ∀ w', Below w.heap.size w w' → (ldVt (.pointer (some ⟨g, o + j * 41, none⟩))).run Tryz.prog w' = .ok (.agg (ms[j]'hj).cells.toArray) w' := by
  obtain ⟨g, o, rfl, _, _⟩ := EK.See.range h hj
  refine ⟨g, o, rfl, fun w' hb => ?_⟩
  obtain ⟨g', o', e, _, hr⟩ := EK.See.range (EK.See.far h hb) hj
  injection e with e
  injection e with e1 e2
  subst e1
  subst e2
  exact range_vt (ms[j]'hj).x.len (hr j hj)
set_option maxRecDepth 100000 in
theorem range_frm {w : World} {g o : Nat} {m : VtM} (h : w.rangeAt g o m.cells) : w.cell? ⟨g, o + 36, none⟩ = some (.int .i64 m.x.frm) := by
  have e : m.cells[36]? = some (.int .i64 m.x.frm) := by
    unfold VtM.cells
    rw [vtL_tail, List.getElem?_append_right (by simp [m.x.len])]
    simp [m.x.len]
  exact h 36 _ e
/-- Do members rise? -/
def risB14 : List VtX → Bool
  | [] => true
  | [_] => true
  | a :: b :: r => decide (a.frm < b.frm) && risB14 (b :: r)
set_option maxRecDepth 100000 in
theorem risB14_iff : ∀ {xs : List VtX}, risB14 xs = true ↔ ∀ i (h : i + 1 < xs.length), (xs[i]'(by omega)).frm < (xs[i + 1]'h).frm
  | [] => ⟨fun _ i h => by simp at h, fun _ => rfl⟩
  | [_] => ⟨fun _ i h => by simp at h, fun _ => rfl⟩
  | a :: b :: r => by
    show (decide (a.frm < b.frm) && risB14 (b :: r)) = true ↔ _
    rw [Bool.and_eq_true, decide_eq_true_eq, risB14_iff (xs := b :: r)]
    constructor
    · rintro ⟨h1, h2⟩ i hi
      cases i with
      | zero => exact h1
      | succ i => exact h2 i (by simpa using hi)
    · intro h
      exact ⟨h 0 (by simp), fun i hi => h (i + 1) (by simpa using hi)⟩
set_option maxRecDepth 100000 in
set_option maxHeartbeats 4000000 in
theorem rises_any14 (vs : List VtM) (A : Option Addr) (c : Nat) (hl : vs.length ≤ 1000000) (w : World) (hS : VtK.See w w.heap.size A vs) :
    Calls Tryz.prog 49 #[.slice A vs.length c] w fun e w' => e = .returned (.bool (risB14 (vs.map VtM.x))) ∧ Below w.heap.size w w' := by
  have HS := Lib.hid hS
  have HL := Lib.hid hl
  have HT : Hid ((∀ i (h : i + 1 < vs.length), (vs[i]'(by omega)).x.frm < (vs[i + 1]'h).x.frm) → risB14 (vs.map VtM.x) = true) := Lib.hid (fun h => risB14_iff.2 (fun i hi => by
    rw [List.length_map] at hi
    rw [List.getElem_map, List.getElem_map]
    exact h i hi))
  have HN : Hid (∀ i (h : i + 1 < vs.length), (vs[i + 1]'h).x.frm ≤ (vs[i]'(by omega)).x.frm → risB14 (vs.map VtM.x) = false) := Lib.hid (fun i hi h => by
    cases e : risB14 (vs.map VtM.x) with
    | false => rfl
    | true =>
      have h2 := risB14_iff.1 e i (by rw [List.length_map]; exact hi)
      rw [List.getElem_map, List.getElem_map] at h2
      omega)
  generalize risB14 (vs.map VtM.x) = res at *
  clear hS hl
  go_enter Tryz.func49, Tryz.ntmps49
  go_wp2
  go_loopw [3] (fun i wr => ∃ k : Nat, 1 ≤ k ∧ (k ≤ vs.length ∨ k = 1) ∧ i = .int .i64 (k : Int) ∧ Hid (Below w.heap.size w wr) ∧ Hid (∀ j (h : j + 1 < vs.length), j + 1 < k → (vs[j]'(by omega)).x.frm < (vs[j + 1]'h).x.frm)) (fun i _ => vs.length - (intOf i).toNat)
  case atStart => exact ⟨1, Nat.le_refl _, .inr rfl, rfl, Lib.hid (Below.refl _ _), Lib.hid (fun j h h2 => by omega)⟩
  case round =>
    obtain ⟨k, h1, hk, rfl, HF, HI⟩ := hrel
    by_cases hlt : k < vs.length
    rotate_left
    · have i1 : ¬ (k : Int) < (vs.length : Int) := by omega
      have HR : Hid (res = true) := Lib.hid (HT.out (fun i hi => HI.out i hi (by omega)))
      go_wp2
      go_ret
      exact ⟨by rw [HR.out]; rfl, HF.out⟩
    obtain ⟨j, hj⟩ : ∃ j, k = j + 1 := ⟨k - 1, by omega⟩
    have HJ := Lib.hid hj
    obtain ⟨g, o, rfl, _, hr⟩ := EK.See.range (EK.See.far HS.out HF.out) hlt
    have hjl : j < vs.length := by omega
    have c1 : wr.cell? ⟨g, o + k * 41 + 36, none⟩ = some (.int .i64 (vs[k]'hlt).x.frm) := range_frm (hr k hlt)
    have c0 : wr.cell? ⟨g, o + j * 41 + 36, none⟩ = some (.int .i64 (vs[j]'hjl).x.frm) := range_frm (hr j hjl)
    have HNJ : Hid ((vs[k]'hlt).x.frm ≤ (vs[j]'hjl).x.frm → res = false) := Lib.hid (by
      subst hj
      exact HN.out j hlt)
    have HYJ : Hid ((vs[j]'hjl).x.frm < (vs[k]'hlt).x.frm → ∀ i (h : i + 1 < vs.length), i + 1 < k + 1 → (vs[i]'(by omega)).x.frm < (vs[i + 1]'h).x.frm) := Lib.hid (fun h i hi h3 => by
      by_cases e : i = j
      · subst e
        subst hj
        exact h
      · exact HI.out i hi (by omega))
    have i1 : (k : Int) < (vs.length : Int) := by omega
    have i0 : (0 : Int) ≤ (k : Int) := by omega
    have i2 : (j : Int) < (vs.length : Int) := by omega
    have i3 : (0 : Int) ≤ (j : Int) := by omega
    have w1 : IntKind.i64.wrap ((k : Int) - 1) = (j : Int) := by rw [IntKind.wrap_i64]; have := HL.out; omega
    have w2 : IntKind.i64.wrap ((k : Int) + 1) = ((k + 1 : Nat) : Int) := by rw [IntKind.wrap_i64]; have := HL.out; omega
    have HLT := Lib.hid hlt
    have HB := Lib.hid (And.intro h1 hk)
    clear hr HN HT HI hj
    generalize (vs[k]'hlt).x.frm = f1 at *
    generalize (vs[j]'hjl).x.frm = f0 at *
    go_upto_region 4 with fail
    by_cases hf : f0 < f1
    · have HY := Lib.hid (HYJ.out hf)
      have e1 : decide (f1 ≤ f0) = false := decide_eq_false (by omega)
      clear HNJ HYJ hf
      go_quiet (fail)
      have HF2 := Lib.hid (HF.out.trans ((below_drewN (Below.refl wr.heap.size wr) nq).mono HF.out.size))
      clear c0 c1 HF
      generalize wr.drewN nq = w5 at *
      go_wp2
      go_roundw
      case rel => exact ⟨k + 1, by omega, .inl HLT.out, by go_num, HF2, HY⟩
      case measure => have := HLT.out; simp [intOf]; omega
    · have HR : Hid (res = false) := Lib.hid (HNJ.out (by omega))
      have e1 : decide (f1 ≤ f0) = true := decide_eq_true (by omega)
      clear HNJ HYJ hf
      go_quiet (fail)
      have HF2 := Lib.hid (HF.out.trans ((below_drewN (Below.refl wr.heap.size wr) nq).mono HF.out.size))
      clear c0 c1 HF
      generalize wr.drewN nq = w5 at *
      go_wp2
      go_ret
      exact ⟨by rw [HR.out]; rfl, HF2.out⟩
end Go.Proofs.YtbclepdcngaonaaGreatDoor

namespace Go.Proofs.YtbclepdcngaonaaGreatDoor
open Go.RowKit Go.Maps Go.Sort

noncomputable def bdCt14 (parts : Array (Nat × Value)) : Sem Value := Instr.build 35 parts
set_option maxRecDepth 100000 in
theorem bdCt14_def (parts : Array (Nat × Value)) : Instr.build 35 parts = bdCt14 parts := rfl
set_option maxRecDepth 100000 in
theorem bd_ct0 (w : World) : (bdCt14 #[]).run Tryz.prog w = .ok (.agg (crtV 0 none 0 0)) w := run_build w _ _ _ (by kernel_rfl)
set_option maxRecDepth 100000 in
theorem bd_ct1 (r : Int) (w : World) : (bdCt14 #[(0, .int .i64 r)]).run Tryz.prog w = .ok (.agg (crtV r none 0 0)) w := run_build w _ _ _ (by kernel_rfl)
/-! ### Lists lie in no block without bytes -/
def NoByte14 (cs : Array Value) : Prop := ∀ (j : Nat) (v : Value), cs[j]? = some v → ∀ b : UInt8, v ≠ bv b
set_option maxRecDepth 100000 in
theorem crt_nobyte (r : Int) (A : Option Addr) (n c : Nat) : NoByte14 (crtV r A n c) := by
  intro j v hv b e
  have hm := Array.mem_of_getElem? hv
  simp at hm
  rcases hm with hm | hm
  · rw [hm] at e
    simp [bv] at e
  · rw [hm] at e
    simp [bv] at e
set_option maxRecDepth 100000 in
theorem Digs.aside14 {w w' : World} {A : Option Addr} {ds : List (List UInt8)} (h : Digs w w.heap.size A ds) {g : Nat} {t : TypeId} {cs : Array Value} (hb : Box w g t cs) (hn : NoByte14 cs) (hg : w.grownBy w' (some g)) : Digs w' w'.heap.size A ds := by
  refine ⟨h.1, ?_⟩
  rcases h.2 with h0 | ⟨g', o, rfl, hlt, hc⟩
  · exact .inl h0
  · by_cases e : g' = g
    · subst e
      cases hds : ds with
      | nil => exact .inl rfl
      | cons d r =>
        exfalso
        rw [hds] at hc
        have hd := h.1 d (by rw [hds]; exact List.mem_cons_self ..)
        obtain ⟨b, bs, hbs⟩ : ∃ b bs, d = b :: bs := by
          cases d with
          | nil => simp at hd
          | cons b bs => exact ⟨b, bs, rfl⟩
        have h1 := hc 0 (bv b) (by rw [hbs]; rfl)
        rw [hb.cell] at h1
        exact hn _ _ h1 b rfl
    · exact .inr ⟨g', o, rfl, Nat.lt_of_lt_of_le hlt hg.size, fun j u hu => hg.cell (hc j u hu) (fun e2 => e (by injection e2))⟩
set_option maxRecDepth 100000 in
theorem VSee.aside14 {w w' : World} {m : VtM} (h : VSee w m) {g : Nat} {t : TypeId} {cs : Array Value} (hb : Box w g t cs) (hn : NoByte14 cs) (hg : w.grownBy w' (some g)) : VSee w' m := ⟨h.opn.aside14 hb hn hg, h.sht.aside14 hb hn hg, h.pth.aside14 hb hn hg⟩
set_option maxRecDepth 100000 in
theorem vsee14 {w : World} {m : VtM} (h : SgSee w m.sg) : VSee w m := ⟨h.A, h.B, h.C⟩
set_option maxRecDepth 100000 in
theorem own_lt14 {w : World} {base n s : Nat} {e : TypeId} {v : Value} {xs : List Value} (h : w.ownsRow base e s v n xs) : ∀ g, v.ownBlock = some g → g < w.heap.size := by
  intro g hg
  rcases h.2 with ⟨rfl, _⟩ | ⟨g', cap, cur, rfl, _, hb, _⟩
  · simp [Value.ownBlock] at hg
  · simp [Value.ownBlock] at hg
    subst hg
    exact (Array.getElem?_eq_some_iff.1 hb).1
/-! ### One vote more -/
set_option maxRecDepth 100000 in
theorem vt_push14 {w : World} {base n c : Nat} {A : Option Addr} {ms : List VtM} (hown : VtK.Own w base (.slice A n c) ms) (hS : BSee w ms) (hO : ∀ m ∈ ms, OffM (Value.slice A n c).ownBlock m) {m : VtM} (hm : VSee w m) (hom : OffM (Value.slice A n c).ownBlock m) (hl : ms.length < 1000000) (hbase : base ≤ w.heap.size) :
    (bsT 33 1 #[(0, .agg m.cells.toArray)]).run Tryz.prog w = .ok (.slice (some ⟨w.heap.size, 0, none⟩) 1 1) (w.alloc (.cells m.cells.toArray 74)) ∧
    ∃ A' c' w', (apAll #[33, 33] 33 #[.slice A n c, .slice (some ⟨w.heap.size, 0, none⟩) 1 1]).run Tryz.prog (w.alloc (.cells m.cells.toArray 74)) = .ok (.slice A' (ms.length + 1) c') w' ∧
      VtK.Own w' base (.slice A' (ms.length + 1) c') (ms ++ [m]) ∧ BSee w' (ms ++ [m]) ∧ (∀ u ∈ ms ++ [m], OffM (Value.slice A' (ms.length + 1) c').ownBlock u) ∧ Below base w w' ∧ (w.alloc (.cells m.cells.toArray 74)).grownBy w' (Value.slice A n c).ownBlock := by
  obtain ⟨w1, hw1⟩ : ∃ w1, w1 = w.alloc (.cells m.cells.toArray 74) := ⟨_, rfl⟩
  have hb1 : Below w.heap.size w w1 := by rw [hw1]; exact (Below.refl _ _).alloc (Nat.le_refl _) _
  have hs1 : VtK.See w1 w1.heap.size (some ⟨w.heap.size, 0, none⟩) [m] := by rw [hw1]; exact VtK.see_one w m
  have ho1 := EK.Own.keep hown hb1
  obtain ⟨i0, hi0, hz0, hz1, hz2⟩ := info_parts VtK.info
  have hfl : (VtK.flat [m]).length = 1 * 41 := by rw [VtK.flat_len]; rfl
  obtain ⟨v', w', hr, ho, hg, _, hat⟩ := run_append_own_at (P := Tryz.prog) w1 base 33 33 74 i0 _ 41 152 VtK.und hi0 hz0 hz1 hz2 rfl (by omega) _ ms.length _ ho1 ⟨w.heap.size, 0, none⟩ 1 1 (VtK.flat [m]) hfl (EK.See.add hs1) (VtK.flat_one [m]) (by unfold maxLen; omega) (by omega) (Nat.le_trans hbase hb1.size)
  have ho2 : VtK.Own w' base v' (ms ++ [m]) := by
    show w'.ownsRow base 74 41 v' (ms ++ [m]).length (VtK.flat (ms ++ [m]))
    rw [VtK.flat_app, List.length_append]
    exact ho
  obtain ⟨A', c', e⟩ := EK.Own.slice ho2
  have hn : (ms ++ [m]).length = ms.length + 1 := by simp
  rw [hn] at e
  subst e
  have hS1 : BSee w1 (ms ++ [m]) := fun u hu => by
    rcases List.mem_append.1 hu with hu | hu
    · exact (hS u hu).call hb1
    · rw [List.mem_singleton.1 hu]
      exact hm.call hb1
  have hO1 : ∀ u ∈ ms ++ [m], OffM (Value.slice A n c).ownBlock u := fun u hu => by
    rcases List.mem_append.1 hu with hu | hu
    · exact hO u hu
    · rw [List.mem_singleton.1 hu]
      exact hom
  refine ⟨VtK.build1 m (.agg m.cells.toArray) rfl (by decide) w, A', c', w', by rw [← hw1]; exact hr, ho2, fun u hu => (hS1 u hu).off (hO1 u hu) hg, fun u hu => ?_, (hb1.mono hbase).trans (below_own ho1 hg (Nat.le_trans hbase hb1.size)), by rw [← hw1]; exact hg⟩
  rcases hat with e | e
  · rw [e]
    exact hO1 u hu
  · rw [e]
    exact (hS1 u hu).off_new
/-- What is carried of memory: the result's block, the word's, the row, its votes' lists. -/
structure MkW (w0 : World) (o g : Nat) (r : Int) (A : Option Addr) (n c : Nat) (ms : List VtM) (w : World) : Prop where
  out : Box w o 35 (crtV 0 none 0 0)
  box : Box w g 35 (crtV r A n c)
  own : VtK.Own w w0.heap.size (.slice A n c) ms
  see : BSee w ms
  off : ∀ m ∈ ms, OffM (Value.slice A n c).ownBlock m
  cap : ∀ m ∈ ms, m.x.pth.length ≤ m.c
  far : Below w0.heap.size w0 w
  ho : w0.heap.size ≤ o
  hg : w0.heap.size ≤ g
  ne : o ≠ g
section
variable {w0 w w' : World} {o g n c : Nat} {r : Int} {A : Option Addr} {ms : List VtM}
set_option maxRecDepth 100000 in
theorem MkW.call (h : MkW w0 o g r A n c ms w) (hb : Below w.heap.size w w') : MkW w0 o g r A n c ms w' :=
  ⟨h.out.below hb h.out.lt, h.box.below hb h.box.lt, EK.Own.keep h.own hb, h.see.call hb, h.off, h.cap, h.far.trans (hb.mono h.far.size), h.ho, h.hg, h.ne⟩
set_option maxRecDepth 100000 in
theorem MkW.cell (h : MkW w0 o g r A n c ms w) : w.cell? ⟨g, 1, none⟩ = some (.slice A n c) := h.box.cell 1
set_option maxRecDepth 100000 in
theorem MkW.push (h : MkW w0 o g r A n c ms w) {m : VtM} (hm : SgSee w m.sg) (hom : OffM (Value.slice A n c).ownBlock m) (hl : ms.length < 1000000) :
    (bsT 33 1 #[(0, .agg m.cells.toArray)]).run Tryz.prog w = .ok (.slice (some ⟨w.heap.size, 0, none⟩) 1 1) (w.alloc (.cells m.cells.toArray 74)) ∧
    (w.alloc (.cells m.cells.toArray 74)).cell? ⟨g, 1, none⟩ = some (.slice A n c) ∧
    ∃ A' n' c' w', (apAll #[33, 33] 33 #[.slice A n c, .slice (some ⟨w.heap.size, 0, none⟩) 1 1]).run Tryz.prog (w.alloc (.cells m.cells.toArray 74)) = .ok (.slice A' n' c') w' ∧
      w'.cell? ⟨g, 1, none⟩ = some (.slice A n c) ∧ w'.frozen? ⟨g, 1, none⟩ = false ∧ MkW w0 o g r A' n' c' (ms ++ [m]) (w'.setCell ⟨g, 1, none⟩ (.slice A' n' c')) ∧ (w.alloc (.cells m.cells.toArray 74)).grownBy w' (Value.slice A n c).ownBlock := by
  obtain ⟨h1, A', c', w', h2, ho, hs, hf, hb, hg⟩ := vt_push14 h.own h.see h.off (vsee14 hm) hom hl h.far.size
  have hal : Below w.heap.size w (w.alloc (.cells m.cells.toArray 74)) := (Below.refl _ _).alloc (Nat.le_refl _) _
  have h3 := h.call hal
  have hbx : Box w' g 35 (crtV r A n c) := box_own h3.box h3.own (by decide) hg
  have hox : Box w' o 35 (crtV 0 none 0 0) := box_own h3.out h3.own (by decide) hg
  have hp : w'.grownBy (w'.setCell ⟨g, 1, none⟩ (.slice A' (ms.length + 1) c')) (some g) := only_put (only_refl _ _) 1 _
  refine ⟨h1, h3.cell, A', _, c', w', h2, hbx.cell 1, hbx.free 1, ?_, hg⟩
  refine ⟨hox.grown hp (fun e => h.ne (by injection e)), ?_, own_box ho hbx (by decide) hp, fun u hu => (hs u hu).aside14 hbx (crt_nobyte _ _ _ _) hp, hf, fun u hu => ?_, ?_, h.ho, h.hg, h.ne⟩
  · exact Box.put_in (pre := [.int .i64 r]) (post := []) hbx rfl _
  · rcases List.mem_append.1 hu with hu | hu
    · exact h.cap u hu
    · rw [List.mem_singleton.1 hu]
      exact hm.cap
  · exact (h.far.trans hb).trans (below_only hp h.hg (h.far.trans hb).size)
end
/-- What is carried of memory: the word's block, the row, its votes' lists. -/
structure RwW (w0 : World) (g : Nat) (r : Int) (A : Option Addr) (n c : Nat) (ms : List VtM) (w : World) : Prop where
  box : Box w g 35 (crtV r A n c)
  own : VtK.Own w w0.heap.size (.slice A n c) ms
  see : BSee w ms
  off : ∀ m ∈ ms, OffM (Value.slice A n c).ownBlock m
  cap : ∀ m ∈ ms, m.x.pth.length ≤ m.c
  far : Below w0.heap.size w0 w
  hg : w0.heap.size ≤ g
section
variable {w0 w w' : World} {g n c : Nat} {r : Int} {A : Option Addr} {ms : List VtM}
set_option maxRecDepth 100000 in
theorem RwW.call (h : RwW w0 g r A n c ms w) (hb : Below w.heap.size w w') : RwW w0 g r A n c ms w' :=
  ⟨h.box.below hb h.box.lt, EK.Own.keep h.own hb, h.see.call hb, h.off, h.cap, h.far.trans (hb.mono h.far.size), h.hg⟩
set_option maxRecDepth 100000 in
theorem RwW.cell (h : RwW w0 g r A n c ms w) : w.cell? ⟨g, 1, none⟩ = some (.slice A n c) := h.box.cell 1
set_option maxRecDepth 100000 in
theorem RwW.push (h : RwW w0 g r A n c ms w) {m : VtM} (hm : SgSee w m.sg) (hom : OffM (Value.slice A n c).ownBlock m) (hl : ms.length < 1000000) :
    (bsT 33 1 #[(0, .agg m.cells.toArray)]).run Tryz.prog w = .ok (.slice (some ⟨w.heap.size, 0, none⟩) 1 1) (w.alloc (.cells m.cells.toArray 74)) ∧
    (w.alloc (.cells m.cells.toArray 74)).cell? ⟨g, 1, none⟩ = some (.slice A n c) ∧
    ∃ A' n' c' w', (apAll #[33, 33] 33 #[.slice A n c, .slice (some ⟨w.heap.size, 0, none⟩) 1 1]).run Tryz.prog (w.alloc (.cells m.cells.toArray 74)) = .ok (.slice A' n' c') w' ∧
      w'.cell? ⟨g, 1, none⟩ = some (.slice A n c) ∧ w'.frozen? ⟨g, 1, none⟩ = false ∧ RwW w0 g r A' n' c' (ms ++ [m]) (w'.setCell ⟨g, 1, none⟩ (.slice A' n' c')) ∧ (w.alloc (.cells m.cells.toArray 74)).grownBy w' (Value.slice A n c).ownBlock := by
  obtain ⟨h1, A', c', w', h2, ho, hs, hf, hb, hg⟩ := vt_push14 h.own h.see h.off (vsee14 hm) hom hl h.far.size
  have hal : Below w.heap.size w (w.alloc (.cells m.cells.toArray 74)) := (Below.refl _ _).alloc (Nat.le_refl _) _
  have h3 := h.call hal
  have hbx : Box w' g 35 (crtV r A n c) := box_own h3.box h3.own (by decide) hg
  have hp : w'.grownBy (w'.setCell ⟨g, 1, none⟩ (.slice A' (ms.length + 1) c')) (some g) := only_put (only_refl _ _) 1 _
  refine ⟨h1, h3.cell, A', _, c', w', h2, hbx.cell 1, hbx.free 1, ?_, hg⟩
  refine ⟨?_, own_box ho hbx (by decide) hp, fun u hu => (hs u hu).aside14 hbx (crt_nobyte _ _ _ _) hp, hf, fun u hu => ?_, ?_, h.hg⟩
  · exact Box.put_in (pre := [.int .i64 r]) (post := []) hbx rfl _
  · rcases List.mem_append.1 hu with hu | hu
    · exact h.cap u hu
    · rw [List.mem_singleton.1 hu]
      exact hm.cap
  · exact (h.far.trans hb).trans (below_only hp h.hg (h.far.trans hb).size)
end
end Go.Proofs.YtbclepdcngaonaaGreatDoor
