/-
  Lists in order: chunk.rise, of pairs by their keys, of replies by their clients.
  A registry read: chunk.State.
-/
import Derived.Test.YtlogceoeodjeoaaDoorNG
import Derived.Lib.QuietBelow
import Derived.BigQuiet
import Derived.Test.YtlogceoeodjeoaaDoorHB
namespace Go.Proofs.YtlogceoeodjeoaaDoor
open Go.RowKit Go.Sort

attribute [local go_sem ↓] ldRp_def stRp_def ldPr_def stPr_def

/-- A Bool that tells whether p holds. -/
def BoolIs (p : Prop) (w : World) (e : Ending) (w' : World) : Prop := ∃ r : Bool, e = .returned (.bool r) ∧ (r = true ↔ p) ∧ Below w.heap.size w w'
set_option maxRecDepth 100000 in
theorem keyof_any (k v : ByteArray) (w : World) : Calls Tryd.prog 54 #[.agg #[.string k, .string v]] w fun e w' => e = .returned (.string k) ∧ Below w.heap.size w w' := by
  have HX : Hid (Box (w.alloc (.cells #[.string k, .string v] 63)) w.heap.size 63 #[.string k, .string v]) := Box.made _ _ _
  have HF : Hid (Below w.heap.size w (w.alloc (.cells #[.string k, .string v] 63))) := (Below.refl _ _).alloc (Nat.le_refl _) _
  have c0 := HX.out.cell 0
  simp only [List.getElem?_toArray, List.getElem?_cons_zero] at c0
  go_enter Tryd.func54, Tryd.ntmps54
  go_wp2
  go_ret
  exact ⟨rfl, HF.out⟩
set_option maxRecDepth 100000 in
theorem clientof_any (c n k : Int) (A : Option Addr) (m z : Nat) (w : World) : Calls Tryd.prog 56 #[.agg (repv c n k A m z)] w fun e w' => e = .returned (.int .i64 c) ∧ Below w.heap.size w w' := by
  have HX : Hid (Box (w.alloc (.cells (repv c n k A m z) 67)) w.heap.size 67 (repv c n k A m z)) := Box.made _ _ _
  have HF : Hid (Below w.heap.size w (w.alloc (.cells (repv c n k A m z) 67))) := (Below.refl _ _).alloc (Nat.le_refl _) _
  have c0 := HX.out.cell 0
  simp only [List.getElem?_toArray, List.getElem?_cons_zero] at c0
  go_enter Tryd.func56, Tryd.ntmps56
  go_wp2
  go_ret
  exact ⟨rfl, HF.out⟩

set_option maxRecDepth 100000 in
set_option maxHeartbeats 4000000 in
theorem risep_any (ps : List PairX) (A : Option Addr) (c : Nat) (hp : ps.length ≤ 1000000) (w : World) (hS : PK.See w w.heap.size A ps) :
    Calls Tryd.prog 53 #[.func (.func 54) #[] #[], .slice A ps.length c] w (BoolIs (PS ps) w) := by
  have HS := Lib.hid hS
  have HP := Lib.hid hp
  have j9 : IntKind.i64.wrap ((ps.length : Int) - 1) = (ps.length : Int) - 1 := by rw [IntKind.wrap_i64]; omega
  clear hS hp
  go_enter Tryd.func53, Tryd.ntmps53
  go_upto_region 2 with fail
  clear j9
  go_loopw [9] (fun i wr => ∃ k : Nat, (k = 0 ∨ k + 1 ≤ ps.length) ∧ i = .int .i64 (k : Int) ∧ Hid (∀ i (hi : i + 1 < ps.length), i < k → sLt (ps[i]'(by omega)).key (ps[i + 1]'(by omega)).key = true) ∧ Hid (Below w.heap.size w wr)) (fun i _ => ps.length - (intOf i).toNat)
  case atStart => exact ⟨0, .inl rfl, rfl, Lib.hid (fun i _ h => absurd h (by omega)), Lib.hid (Below.refl _ _)⟩
  case round =>
    obtain ⟨k, hk, rfl, HQ, HW⟩ := hrel
    by_cases hlt : k + 1 < ps.length
    · have HLT := Lib.hid hlt
      have i1 : (k : Int) < (ps.length : Int) - 1 := by omega
      have i0 : (0 : Int) ≤ (k : Int) := by omega
      have i2 : (k : Int) < (ps.length : Int) := by omega
      have i3 : (k : Int) + 1 < (ps.length : Int) := by omega
      have i4 : (0 : Int) ≤ (k : Int) + 1 := by omega
      have i5 : k < ps.length := by omega
      have i6 : k + 1 < ps.length := hlt
      have i7 : ((k : Int) + 1).toNat = k + 1 := by omega
      have i8 : (((k + 1 : Nat) : Int)).toNat = k + 1 := by omega
      have i9 : ((k + 1 : Nat) : Int) < (ps.length : Int) := by omega
      have i10 : (0 : Int) ≤ ((k + 1 : Nat) : Int) := by omega
      have wk : IntKind.i64.wrap ((k : Int) + 1) = ((k + 1 : Nat) : Int) := by rw [IntKind.wrap_i64]; have := HP.out; omega
      obtain ⟨g, o, hA, _, hrg⟩ := EK.See.range (EK.See.far HS.out HW.out) i5
      have HWD : Hid (Below w.heap.size w wr) := HW
      have HRG : Hid (∀ j (hj : j < ps.length) d os, (grow (redrawn wr d) os).rangeAt g (o + j * 2) (PK.enc (ps[j]'hj))) := Lib.hid (fun j hj d os i v hv => cell_regrown (hrg j hj i v hv) d os)
      have HNX : Hid (sLt (ps[k]'(by omega)).key (ps[k + 1]'(by omega)).key = true → ∀ i (hi : i + 1 < ps.length), i < k + 1 → sLt (ps[i]'(by omega)).key (ps[i + 1]'(by omega)).key = true) := Lib.hid (fun h i hi hlt2 => by
        by_cases e : i = k
        · subst e
          exact h
        · exact HQ.out i hi (by omega))
      have HNR : Hid (¬ sLt (ps[k]'(by omega)).key (ps[k + 1]'(by omega)).key = true → ¬ PS ps) := Lib.hid (fun h hris => h (sorted_adj hris k hlt))
      have q1 : ∀ d os, (ldPr (.pointer (some ⟨g, o + k * 2, none⟩))).run Tryd.prog (grow (redrawn wr d) os) = .ok (.agg (#[.string (ps[k]).key, .string (ps[k]).val])) (grow (redrawn wr d) os) := fun d os => range_pr (HRG.out k i5 d os)
      have q2 : ∀ d os, (ldPr (.pointer (some ⟨g, o + (k + 1) * 2, none⟩))).run Tryd.prog (grow (redrawn wr d) os) = .ok (.agg (#[.string (ps[k + 1]).key, .string (ps[k + 1]).val])) (grow (redrawn wr d) os) := fun d os => range_pr (HRG.out (k + 1) i6 d os)
      have HK1 : Hid (∀ d os, Calls Tryd.prog 54 #[.agg (#[.string (ps[k]).key, .string (ps[k]).val])] (grow (redrawn wr d) os) fun e w'' => e = .returned (.string (ps[k]).key) ∧ ∃ p : Regrown, w'' = grow (redrawn wr p.d) p.os) := Lib.hid (fun d os => Calls.regrown_of (keyof_any _ _ (grow (redrawn wr d) os)))
      have HK2 : Hid (∀ d os, Calls Tryd.prog 54 #[.agg (#[.string (ps[k + 1]).key, .string (ps[k + 1]).val])] (grow (redrawn wr d) os) fun e w'' => e = .returned (.string (ps[k + 1]).key) ∧ ∃ p : Regrown, w'' = grow (redrawn wr p.d) p.os) := Lib.hid (fun d os => Calls.regrown_of (keyof_any _ _ (grow (redrawn wr d) os)))
      clear HQ hrg hk
      rw [hA]
      clear hA
      go_upto_region 4 with fail
      generalize ps[k] = x at *
      generalize ps[k + 1] = y at *
      cases hb : Op.bytesLess x.key.toList y.key.toList
      · have HRF := Lib.hid (HNR.out (by unfold sLt; rw [hb]; simp))
        clear HNX HNR
        refine wp_region_quiet_below (by kernel_rfl) (by kernel_rfl) ?_
        repeat (go_big_quiet_step (first
          | (go_at_call 54; with_reducible exact HK1.out _ _)
          | (go_at_call 54; with_reducible exact HK2.out _ _)))
        refine wpQuiet_nil ?_
        intro _ hw'
        obtain ⟨⟨dq, osq⟩, hw''⟩ := hw'
        subst hw''
        have HW2 := Lib.hid (HWD.out.trans ((below_regrown wr dq osq).mono HWD.out.size))
        clear q1 q2 HK1 HK2 HRG HW
        generalize grow (redrawn wr dq) osq = w6 at *
        go_wp2
        go_ret
        exact ⟨false, rfl, ⟨fun h => (by cases h), fun h => absurd h HRF.out⟩, HW2.out⟩
      · have HQ2 := Lib.hid (HNX.out hb)
        clear HNX HNR
        refine wp_region_quiet_below (by kernel_rfl) (by kernel_rfl) ?_
        repeat (go_big_quiet_step (first
          | (go_at_call 54; with_reducible exact HK1.out _ _)
          | (go_at_call 54; with_reducible exact HK2.out _ _)))
        refine wpQuiet_nil ?_
        intro _ hw'
        obtain ⟨⟨dq, osq⟩, hw''⟩ := hw'
        subst hw''
        have HW2 := Lib.hid (HWD.out.trans ((below_regrown wr dq osq).mono HWD.out.size))
        clear q1 q2 HK1 HK2 HRG HW
        generalize grow (redrawn wr dq) osq = w6 at *
        go_wp2
        go_roundw
        case rel => exact ⟨k + 1, .inr HLT.out, by go_num, HQ2, HW2⟩
        case measure => have := HLT.out; simp [intOf]; omega
    · have HRS : Hid (PS ps) := Lib.hid (sorted_of_adj sLt3 (fun i hi => HQ.out i hi (by omega)))
      have i1 : ¬ (k : Int) < (ps.length : Int) - 1 := by omega
      clear HQ hk
      go_wp2
      go_ret
      exact ⟨true, rfl, ⟨fun _ => HRS.out, fun _ => rfl⟩, HW.out⟩

set_option maxRecDepth 100000 in
set_option maxHeartbeats 4000000 in
theorem riser_any (ps : List RepM) (A : Option Addr) (c : Nat) (hp : ps.length ≤ 1000000) (w : World) (hS : RK.See w w.heap.size A ps) :
    Calls Tryd.prog 55 #[.func (.func 56) #[] #[], .slice A ps.length c] w (BoolIs (RS (ps.map RepM.x)) w) := by
  have HS := Lib.hid hS
  have HP := Lib.hid hp
  have j9 : IntKind.i64.wrap ((ps.length : Int) - 1) = (ps.length : Int) - 1 := by rw [IntKind.wrap_i64]; omega
  clear hS hp
  go_enter Tryd.func55, Tryd.ntmps55
  go_upto_region 2 with fail
  clear j9
  go_loopw [9] (fun i wr => ∃ k : Nat, (k = 0 ∨ k + 1 ≤ ps.length) ∧ i = .int .i64 (k : Int) ∧ Hid (∀ i (hi : i + 1 < ps.length), i < k → iLt (ps[i]'(by omega)).x.client (ps[i + 1]'(by omega)).x.client = true) ∧ Hid (Below w.heap.size w wr)) (fun i _ => ps.length - (intOf i).toNat)
  case atStart => exact ⟨0, .inl rfl, rfl, Lib.hid (fun i _ h => absurd h (by omega)), Lib.hid (Below.refl _ _)⟩
  case round =>
    obtain ⟨k, hk, rfl, HQ, HW⟩ := hrel
    by_cases hlt : k + 1 < ps.length
    · have HLT := Lib.hid hlt
      have i1 : (k : Int) < (ps.length : Int) - 1 := by omega
      have i0 : (0 : Int) ≤ (k : Int) := by omega
      have i2 : (k : Int) < (ps.length : Int) := by omega
      have i3 : (k : Int) + 1 < (ps.length : Int) := by omega
      have i4 : (0 : Int) ≤ (k : Int) + 1 := by omega
      have i5 : k < ps.length := by omega
      have i6 : k + 1 < ps.length := hlt
      have i7 : ((k : Int) + 1).toNat = k + 1 := by omega
      have i8 : (((k + 1 : Nat) : Int)).toNat = k + 1 := by omega
      have i9 : ((k + 1 : Nat) : Int) < (ps.length : Int) := by omega
      have i10 : (0 : Int) ≤ ((k + 1 : Nat) : Int) := by omega
      have wk : IntKind.i64.wrap ((k : Int) + 1) = ((k + 1 : Nat) : Int) := by rw [IntKind.wrap_i64]; have := HP.out; omega
      obtain ⟨g, o, hA, _, hrg⟩ := EK.See.range (EK.See.far HS.out HW.out) i5
      have HWD : Hid (Below w.heap.size w wr) := HW
      have HRG : Hid (∀ j (hj : j < ps.length) d os, (grow (redrawn wr d) os).rangeAt g (o + j * 4) (RK.enc (ps[j]'hj))) := Lib.hid (fun j hj d os i v hv => cell_regrown (hrg j hj i v hv) d os)
      have HNX : Hid (iLt (ps[k]'(by omega)).x.client (ps[k + 1]'(by omega)).x.client = true → ∀ i (hi : i + 1 < ps.length), i < k + 1 → iLt (ps[i]'(by omega)).x.client (ps[i + 1]'(by omega)).x.client = true) := Lib.hid (fun h i hi hlt2 => by
        by_cases e : i = k
        · subst e
          exact h
        · exact HQ.out i hi (by omega))
      have HNR : Hid (¬ iLt (ps[k]'(by omega)).x.client (ps[k + 1]'(by omega)).x.client = true → ¬ RS (ps.map RepM.x)) := Lib.hid (fun h hris => h (rs_adj hris k hlt))
      have q1 : ∀ d os, (ldRp (.pointer (some ⟨g, o + k * 4, none⟩))).run Tryd.prog (grow (redrawn wr d) os) = .ok (.agg (repv (ps[k]).x.client (ps[k]).x.num (ps[k]).x.code (ps[k]).A (ps[k]).x.vals.length (ps[k]).z)) (grow (redrawn wr d) os) := fun d os => range_rp (HRG.out k i5 d os)
      have q2 : ∀ d os, (ldRp (.pointer (some ⟨g, o + (k + 1) * 4, none⟩))).run Tryd.prog (grow (redrawn wr d) os) = .ok (.agg (repv (ps[k + 1]).x.client (ps[k + 1]).x.num (ps[k + 1]).x.code (ps[k + 1]).A (ps[k + 1]).x.vals.length (ps[k + 1]).z)) (grow (redrawn wr d) os) := fun d os => range_rp (HRG.out (k + 1) i6 d os)
      have HK1 : Hid (∀ d os, Calls Tryd.prog 56 #[.agg (repv (ps[k]).x.client (ps[k]).x.num (ps[k]).x.code (ps[k]).A (ps[k]).x.vals.length (ps[k]).z)] (grow (redrawn wr d) os) fun e w'' => e = .returned (.int .i64 (ps[k]).x.client) ∧ ∃ p : Regrown, w'' = grow (redrawn wr p.d) p.os) := Lib.hid (fun d os => Calls.regrown_of (clientof_any _ _ _ _ _ _ (grow (redrawn wr d) os)))
      have HK2 : Hid (∀ d os, Calls Tryd.prog 56 #[.agg (repv (ps[k + 1]).x.client (ps[k + 1]).x.num (ps[k + 1]).x.code (ps[k + 1]).A (ps[k + 1]).x.vals.length (ps[k + 1]).z)] (grow (redrawn wr d) os) fun e w'' => e = .returned (.int .i64 (ps[k + 1]).x.client) ∧ ∃ p : Regrown, w'' = grow (redrawn wr p.d) p.os) := Lib.hid (fun d os => Calls.regrown_of (clientof_any _ _ _ _ _ _ (grow (redrawn wr d) os)))
      clear HQ hrg hk
      rw [hA]
      clear hA
      go_upto_region 4 with fail
      generalize ps[k] = x at *
      generalize ps[k + 1] = y at *
      by_cases hb : y.x.client ≤ x.x.client
      · have hb2 : decide (y.x.client ≤ x.x.client) = true := decide_eq_true hb
        have HRF := Lib.hid (HNR.out (by unfold iLt; rw [decide_eq_false (by omega)]; simp))
        clear HNX HNR
        refine wp_region_quiet_below (by kernel_rfl) (by kernel_rfl) ?_
        repeat (go_big_quiet_step (first
          | (go_at_call 56; with_reducible exact HK1.out _ _)
          | (go_at_call 56; with_reducible exact HK2.out _ _)))
        refine wpQuiet_nil ?_
        intro _ hw'
        obtain ⟨⟨dq, osq⟩, hw''⟩ := hw'
        subst hw''
        have HW2 := Lib.hid (HWD.out.trans ((below_regrown wr dq osq).mono HWD.out.size))
        clear q1 q2 HK1 HK2 HRG HW
        generalize grow (redrawn wr dq) osq = w6 at *
        go_wp2
        go_ret
        exact ⟨false, rfl, ⟨fun h => (by cases h), fun h => absurd h HRF.out⟩, HW2.out⟩
      · have hb2 : decide (y.x.client ≤ x.x.client) = false := decide_eq_false hb
        have HQ2 := Lib.hid (HNX.out (by unfold iLt; exact decide_eq_true (by omega)))
        clear HNX HNR
        refine wp_region_quiet_below (by kernel_rfl) (by kernel_rfl) ?_
        repeat (go_big_quiet_step (first
          | (go_at_call 56; with_reducible exact HK1.out _ _)
          | (go_at_call 56; with_reducible exact HK2.out _ _)))
        refine wpQuiet_nil ?_
        intro _ hw'
        obtain ⟨⟨dq, osq⟩, hw''⟩ := hw'
        subst hw''
        have HW2 := Lib.hid (HWD.out.trans ((below_regrown wr dq osq).mono HWD.out.size))
        clear q1 q2 HK1 HK2 HRG HW
        generalize grow (redrawn wr dq) osq = w6 at *
        go_wp2
        go_roundw
        case rel => exact ⟨k + 1, .inr HLT.out, by go_num, HQ2, HW2⟩
        case measure => have := HLT.out; simp [intOf]; omega
    · have HRS : Hid (RS (ps.map RepM.x)) := Lib.hid (rs_of_adj (fun i hi => HQ.out i hi (by omega)))
      have i1 : ¬ (k : Int) < (ps.length : Int) - 1 := by omega
      clear HQ hk
      go_wp2
      go_ret
      exact ⟨true, rfl, ⟨fun _ => HRS.out, fun _ => rfl⟩, HW.out⟩

end Go.Proofs.YtlogceoeodjeoaaDoor

namespace Go.Proofs.YtlogceoeodjeoaaDoor
open Go.RowKit

set_option maxRecDepth 100000 in
/-- A pair that is being read. -/
theorem TW.side {R : World → Nat → List UInt8 → Bool → Prop} {w0 w w' : World} {B a r b q : Nat} {ep : Int} {mA : Option Addr} {mz : Nat} {ms : List MemX} {pv rv : Value} {ps : List PairX} {s : List UInt8 × Bool} {cs : Array Value}
    (h : TW R w0 B a r b ep mA mz ms pv ps rv [] s w) (hR : RdOk R) (hm : Box w q 63 cs) (hq : B ≤ q) (nv : pv.ownBlock ≠ some q) (hg : w.grownBy w' (some q)) : TW R w0 B a r b ep mA mz ms pv ps rv [] s w' :=
  ⟨h.out.grown hg (by intro e; injection e with e; exact Box.apart h.out hm (by decide) e), h.box.grown hg (by intro e; injection e with e; exact Box.apart h.box hm (by decide) e), hR.put h.rd hg (by have := h.ha; omega),
    World.ownsRow.kept h.po hg (.inr nv), World.ownsRow.kept h.ro hg (.inr (Box.own_ne hm h.ro (by decide))), h.rn, World.ownsRow.kept h.mo hg (.inr (Box.own_ne hm h.mo (by decide))), fun m hm => (by cases hm),
    h.far.trans (below_only hg (by have := h.h0; have := h.ha; omega) h.far.size), h.ha, h.h0, h.hr, h.hrB, h.har, h.hb, Nat.le_trans h.hB hg.size⟩
structure PW (R : World → Nat → List UInt8 → Bool → Prop) (w0 : World) (B a r b q : Nat) (ep : Int) (mA : Option Addr) (mz : Nat) (ms : List MemX) (pv : Value) (ps : List PairX) (rv : Value) (s : List UInt8 × Bool) (k v : ByteArray) (w : World) : Prop where
  tw : TW R w0 B a r b ep mA mz ms pv ps rv [] s w
  mem : Box w q 63 #[.string k, .string v]
  hq : B ≤ q
  nv : pv.ownBlock ≠ some q
section
variable {R : World → Nat → List UInt8 → Bool → Prop} {w0 w w' : World} {B a r b q : Nat} {ep : Int} {mA : Option Addr} {mz : Nat} {ms : List MemX} {pv rv : Value} {ps : List PairX} {s s' : List UInt8 × Bool} {k v : ByteArray}
set_option maxRecDepth 100000 in
theorem TW.newP (h : TW R w0 B a r b ep mA mz ms pv ps rv [] s w) (hR : RdOk R) (hb : Below w.heap.size w w') (hm : Box w' w.heap.size 63 #[.string k, .string v]) : PW R w0 B a r b w.heap.size ep mA mz ms pv ps rv s k v w' :=
  ⟨h.call hR hb, hm, h.hB, fun e => by have := (h.po.lt _ e).2; omega⟩
set_option maxRecDepth 100000 in
theorem PW.turn (h : PW R w0 B a r b q ep mA mz ms pv ps rv s k v w) (hg : w.grownBy w' (some a)) (hr : R w' a s'.1 s'.2) : PW R w0 B a r b q ep mA mz ms pv ps rv s' k v w' :=
  ⟨h.tw.turn hg hr, h.mem.grown hg (by have := h.tw.ha; have := h.hq; intro e; injection e with e; omega), h.hq, h.nv⟩
set_option maxRecDepth 100000 in
theorem PW.put (h : PW R w0 B a r b q ep mA mz ms pv ps rv s k v w) (hR : RdOk R) (u : ByteArray) : PW R w0 B a r b q ep mA mz ms pv ps rv s k u (w.setCell ⟨q, 1, none⟩ (.string u)) :=
  ⟨h.tw.side hR h.mem h.hq h.nv (only_put (only_refl _ _) 1 _), h.mem.put 1 _, h.hq, h.nv⟩
end
set_option maxRecDepth 100000 in
/-- What is read, once the result is stored. -/
theorem TW.see_out {R : World → Nat → List UInt8 → Bool → Prop} {w0 w w' : World} {B a r b : Nat} {ep : Int} {mA pA rA : Option Addr} {mz pc rc : Nat} {ms : List MemX} {ps : List PairX} {rs : List RepM} {s : List UInt8 × Bool}
    (h : TW R w0 B a r b ep mA mz ms (.slice pA ps.length pc) ps (.slice rA rs.length rc) rs s w) (hg : w.grownBy w' (some r)) : (⟨ps, pA, pc, rs, rA, rc, ep, ms, mA, mz⟩ : StM).See w' w'.heap.size :=
  ⟨EK.Own.see (own_box h.po h.out (by decide) hg), EK.Own.see (own_box h.ro h.out (by decide) hg), fun m hm => ((h.vs m hm).turn hg (.inl h.hrB)).1, EK.Own.see (own_box h.mo h.out (by decide) hg)⟩
set_option maxRecDepth 100000 in
/-- What ReadReply hands back. -/
theorem TW.rep {R : World → Nat → List UInt8 → Bool → Prop} {w0 w w' : World} {B a r b : Nat} {ep : Int} {mA : Option Addr} {mz : Nat} {ms : List MemX} {pv rv : Value} {ps : List PairX} {rs : List RepM} {s u : List UInt8 × Bool} {x : RepX} {e : Ending}
    (h : TW R w0 B a r b ep mA mz ms pv ps rv rs s w) (hx : x = repAt s) (hu : u = rpF s.1 s.2) (hi : RepIs R a s.1 s.2 w e w') : ∃ A z, e = .returned (.agg (repv x.client x.num x.code A x.vals.length z)) ∧ SeeV B w' A x.vals ∧ TW R w0 B a r b ep mA mz ms pv ps rv rs u w' := by
  unfold RepIs at hi
  unfold repAt at hx
  generalize rpC s.1 s.2 = x1 at *
  generalize rpM s.1 s.2 = x2 at *
  generalize rpK s.1 s.2 = x3 at *
  generalize rpV s.1 s.2 = x4 at *
  generalize rpF s.1 s.2 = x5 at *
  subst hx
  subst hu
  obtain ⟨A, z, he, hs, hr, hg, hf⟩ := hi
  refine ⟨A, z, he, SeeV.of hs ?_, h.turn hg hr⟩
  rcases hf with hf | ⟨g, e, hg⟩
  · exact .inl hf
  · exact .inr ⟨g, e, Nat.le_trans h.hB hg⟩
set_option maxRecDepth 100000 in
theorem bd_pair1 (k : ByteArray) (w : World) : (Instr.build 63 #[(0, .string k)]).run Tryd.prog w = .ok (.agg #[.string k, .string ⟨#[]⟩]) w := run_build w _ _ _ (by kernel_rfl)
set_option maxRecDepth 100000 in
theorem bd_state2 (ep : Int) (A : Option Addr) (n c : Nat) (w : World) : (Instr.build 37 #[(2, .agg (cfgV ep A n c))]).run Tryd.prog w = .ok (.agg (stV none 0 0 none 0 0 ep A n c)) w := run_build w _ _ _ (by kernel_rfl)
set_option maxRecDepth 100000 in
theorem bd_state0 (w : World) : (Instr.build 37 #[]).run Tryd.prog w = .ok (.agg (stV none 0 0 none 0 0 0 none 0 0)) w := run_build w _ _ _ (by kernel_rfl)
set_option maxRecDepth 100000 in
theorem ret_st2 {fn : Func} {p q : Tmp} (hf : fn.results = #[.cell p 37, .tmp q]) {a : Act} {w : World} {g : Nat} (hp : a.tmps.getD p undef = .pointer (some ⟨g, 0, none⟩)) {b : Value} (hq : a.tmps.getD q undef = b) (hdf : a.defers = []) {t : TypeId} {pA : Option Addr} {pn pc : Nat} {rA : Option Addr} {rn rc : Nat} {ep : Int} {mA : Option Addr} {mn mc : Nat} (hb : Box w g t (stV pA pn pc rA rn rc ep mA mn mc))
    {R : Ending → World → Prop} (hR : R (.returned (.tuple #[.agg (stV pA pn pc rA rn rc ep mA mn mc), b])) w) : bodyPost Tryd.prog fn R .ret a w := by
  have hp' : a.tmps[p]?.getD undef = .pointer (some ⟨g, 0, none⟩) := by simpa using hp
  have hq' : a.tmps[q]?.getD undef = b := by simpa using hq
  refine bodyPost_ret (v := .tuple #[.agg (stV pA pn pc rA rn rc ep mA mn mc), b]) ?_ hdf hR
  simp [results, hf, hp', hq', asAddr, run_loadVar_row w g t 37 (stV pA pn pc rA rn rc ep mA mn mc) (0, 0) _ hb Tryd.underlying37 rfl (st_size pA pn pc rA rn rc ep mA mn mc)]

/-- What State answers of bytes. -/
def StOk (P Q : Nat) (T : Nat → List PairX) (S2 : Nat → List UInt8 × Bool) (T2 : Nat → List RepX) : Prop := (!(S2 Q).2 && (S2 Q).1.isEmpty) = true ∧ PS (T P) ∧ RS (T2 Q)
def SfIs (E : Int) (V : List MemX) (P Q : Nat) (T : Nat → List PairX) (S2 : Nat → List UInt8 × Bool) (T2 : Nat → List RepX) (w : World) (e : Ending) (w' : World) : Prop :=
  ∃ (m : StM) (x : Int), e = .returned (.tuple #[.agg m.cells, .int .i64 x]) ∧ ((StOk P Q T S2 T2 ∧ x = 0 ∧ m.pl = ⟨T P, T2 Q, E, V⟩) ∨ (¬ StOk P Q T S2 T2 ∧ x = 4 ∧ m.pl = ⟨[], [], 0, []⟩)) ∧ m.See w' w'.heap.size ∧ Below w.heap.size w w'

attribute [local go_sem ↓] ldRp_def stRp_def ldSt_def stSt_def ldCf_def stCf_def ldPr_def stPr_def bsT_def apAll_def
set_option maxRecDepth 100000 in
set_option maxHeartbeats 4000000 in
theorem state_gen (l : List UInt8) (A : Option Addr) (c : Nat) (w : World) (hS : Sees w w.heap.size A (l.map bv)) (hl : l.length ≤ 70368744177664) {E : Int} {V : List MemX} (hE : E = crE l false) (hV : V = crMs l false)
    {F : List UInt8 × Bool} {P Q : Nat} {g0 g1 : Int × List UInt8 × Bool} {S : Nat → List UInt8 × Bool} {T : Nat → List PairX} {S2 : Nat → List UInt8 × Bool} {T2 : Nat → List RepX} (hf : SfFacts l F P Q g0 g1 S T S2 T2) :
    Calls Tryd.prog 24 #[.slice A l.length c] w (SfIs E V P Q T S2 T2 w) := by
  obtain ⟨w1, hw1⟩ : ∃ w1, w1 = w.alloc (.cells (stV none 0 0 none 0 0 0 none 0 0) 37) := ⟨_, rfl⟩
  have HO1 : Hid (Box w1 w.heap.size 37 (stV none 0 0 none 0 0 0 none 0 0)) := by rw [hw1]; exact Box.made _ _ _
  have HB1 : Hid (Below w.heap.size w w1) := by rw [hw1]; exact (Below.refl _ _).alloc (Nat.le_refl _) _
  have HZ1 : Hid (w1.heap.size = w.heap.size + 1) := Lib.hid (by rw [hw1]; simp)
  have HC := Lib.hid (read_any w.heap.size A l c w1 (hS.below HB1.out) HB1.out.size hl)
  have HFC := Lib.hid hf
  have hcfg := hf.cfg
  have HCR : Hid (∀ (w' : World) (a : Nat), Rd w' a l false → Calls Tryd.prog 48 #[.pointer (some ⟨a, 0, none⟩)] w' fun e w'' => ∃ A z, e = .returned (.agg (cfgV E A V.length z)) ∧ MK.Own w'' w'.heap.size (.slice A V.length z) V ∧ Rd w'' a F.1 F.2 ∧ w'.grownBy w'' (some a)) := Lib.hid (fun w' a h => by
    have h1 := cfgread_any a l false w' h
    unfold CfgIs at h1
    rw [← hE, ← hV, ← hcfg] at h1
    exact h1)
  clear hS hl hf hcfg hE hV
  go_enter Tryd.func24, Tryd.ntmps24
  go_upto_region 1 with fail
  change Code.wp _ _ _ _ (w.alloc (.cells (stV none 0 0 none 0 0 0 none 0 0) 37))
  rw [← hw1]
  clear hw1
  go_upto_region 2 with (go_at_call 47; (with_reducible refine (HC.out).mono ?_); rintro e w2 ⟨a, rfl, hr, ha, hb⟩; have HR2 := Lib.hid hr; have HA2 := Lib.hid ha; have HB2 := Lib.hid hb; clear hr ha hb)
  clear HC
  have HC := Lib.hid (HCR.out w2 a HR2.out)
  clear HCR
  have hbd := fun A z => bd_state2 E A V.length z
  go_upto_region 3 with (go_at_call 48; (with_reducible refine (HC.out).mono ?_); rintro e w3 ⟨mA, mz, rfl, ho, hr, hg⟩; obtain ⟨w4, hst, hb4, hl4, _⟩ := laid_st w3 (stV none 0 0 none 0 0 0 none 0 0) rfl none 0 0 none 0 0 E mA V.length mz; have HO3 := Lib.hid ho; have HR3 := Lib.hid hr; have HG3 := Lib.hid hg; have HB4 := Lib.hid hb4; have HL4 := Lib.hid hl4; clear ho hr hg hb4 hl4)
  have HW4 : Hid (TW Rd w w2.heap.size a w.heap.size w3.heap.size E mA mz V (.slice none 0 0) [] (.slice none 0 0) [] F w4) := Lib.hid (by
    have hz := HZ1.out
    have ha := HA2.out
    have hal := HR2.out.lt
    have ho2 := HO1.out.below HB2.out HO1.out.lt
    have ho3 := ho2.grown HG3.out (by intro e; injection e with e; omega)
    have hs3 := HG3.out.size
    have hfar := (HB1.out.trans (HB2.out.mono HB1.out.size)).trans ((below_only HG3.out (by omega) (HB1.out.trans (HB2.out.mono HB1.out.size)).size))
    exact ⟨ho3.below HL4.out ho3.lt, HB4.out, rd_below HR3.out HL4.out, PK.own_nil _ _, RK.own_nil _ _, fun _ => rfl, EK.Own.keep HO3.out HL4.out, fun m hm => (by cases hm), hfar.trans (HL4.out.mono hfar.size), hal, by omega, Nat.le_refl _, by have := HB2.out.size; omega, by omega, hs3, Nat.le_trans hs3 HL4.out.size⟩)
  clear HO3 HR3 HG3 HB4 HL4 HC hbd hst HO1 HB1 HZ1 HR2 HA2 HB2
  generalize w3.heap.size = b at *
  generalize w2.heap.size = B at *
  generalize hrr : w.heap.size = r at HW4 ⊢
  have HIN : Hid (∀ (lo hi : Int) pv ps rv rs (s : List UInt8 × Bool) (g : Int × List UInt8 × Bool) w', inV lo hi s.1 s.2 = g → TW Rd w B a r b E mA mz V pv ps rv rs s w' → Calls Tryd.prog 49 #[.pointer (some ⟨a, 0, none⟩), .int .i64 lo, .int .i64 hi] w' fun e w'' => e = .returned (.int .i64 g.1) ∧ TW Rd w B a r b E mA mz V pv ps rv rs g.2 w'') := Lib.hid (fun lo hi pv ps rv rs s g w' e hw => by
    have h1 := in_any a lo hi s.1 s.2 w' hw.rd
    rw [e] at h1
    exact h1.mono fun e w'' ⟨he, hr, hg⟩ => ⟨he, hw.turn hg hr⟩)
  have HC := Lib.hid (HIN.out 0 256 _ _ _ _ _ _ _ HFC.out.e0 HW4.out)
  go_upto_region 4 with (go_at_call 49; (with_reducible refine (HC.out).mono ?_); rintro e w5 ⟨rfl, hw⟩; have HW5 := Lib.hid hw; clear hw)
  rw [HFC.out.n0]
  rw [← HFC.out.s0] at HW5
  clear HC HW4
  go_loopw [14] (fun i wr => ∃ (k : Nat) (pv : Value), k ≤ P ∧ i = .int .i64 (k : Int) ∧ Hid (TW Rd w B a r b E mA mz V pv (T k) (.slice none 0 0) [] (S k) wr)) (fun i _ => P - (intOf i).toNat)
  case atStart => exact ⟨0, _, Nat.zero_le _, rfl, Lib.hid (by rw [HFC.out.t0]; exact HW5.out)⟩
  case round =>
    clear HW5
    obtain ⟨k, pv, hk, rfl, HW⟩ := hrel
    by_cases hlt : k < P
    · have i1 : (k : Int) < (P : Int) := by omega
      have wk : IntKind.i64.wrap ((k : Int) + 1) = ((k + 1 : Nat) : Int) := by
        rw [IntKind.wrap_i64]
        have := HFC.out.p256
        omega
      have HLT := Lib.hid hlt
      obtain ⟨tk, tv, h1, h2, h3, h4⟩ := HFC.out.step k
      have HLL : Hid ((T k).length ≤ 256) := Lib.hid (by rw [HFC.out.len]; have := HFC.out.p256; omega)
      have H1 := Lib.hid h1
      have H2 := Lib.hid h2
      have H3 := Lib.hid h3
      have H4 := Lib.hid h4
      generalize T k = L at *
      generalize S k = s at *
      clear h1 h2 h3 h4 hlt hk
      have HC : Hid (Calls Tryd.prog 50 #[.pointer (some ⟨a, 0, none⟩), .int .i64 1024] wr fun e w' => e = .returned (.string ⟨tk.1.toArray⟩) ∧ TW Rd w B a r b E mA mz V pv L (.slice none 0 0) [] tk.2 w') := Lib.hid (by
        have h1 := rdtext_any a 1024 s.1 s.2 wr HW.out.rd
        rw [H1.out] at h1
        exact h1.mono fun e w'' ⟨he, hr, hg⟩ => ⟨he, HW.out.turn hg hr⟩)
      have hbd := bd_pair1 ⟨tk.1.toArray⟩
      go_upto_region 6 with (go_at_call 50; (with_reducible refine (HC.out).mono ?_); rintro e w6 ⟨rfl, hw⟩; obtain ⟨w7, hst, hb7, hl7, _⟩ := laid_pr w6 #[.string ⟨#[]⟩, .string ⟨#[]⟩] rfl ⟨tk.1.toArray⟩ ⟨#[]⟩; have HW7 := Lib.hid (hw.newP rd_ok hl7 hb7); clear hw hb7 hl7)
      clear HC HW hbd hst
      generalize w6.heap.size = q at *
      generalize (⟨tk.1.toArray⟩ : ByteArray) = ky at *
      have HC : Hid (Calls Tryd.prog 50 #[.pointer (some ⟨a, 0, none⟩), .int .i64 1024] w7 fun e w' => e = .returned (.string ⟨tv.1.toArray⟩) ∧ PW Rd w B a r b q E mA mz V pv L (.slice none 0 0) tv.2 ky ⟨#[]⟩ w') := Lib.hid (by
        have h1 := rdtext_any a 1024 tk.2.1 tk.2.2 w7 HW7.out.tw.rd
        rw [H2.out] at h1
        exact h1.mono fun e w'' ⟨he, hr, hg⟩ => ⟨he, HW7.out.turn hg hr⟩)
      generalize (⟨tv.1.toArray⟩ : ByteArray) = vl at *
      go_upto_region 7 with (go_at_call 50; (with_reducible refine (HC.out).mono ?_); rintro e w8 ⟨rfl, hw⟩; have m1 : w8.cell? ⟨q, 1, none⟩ = some (.string ⟨#[]⟩) := hw.mem.cell 1; have f1 := hw.mem.free 1; have HW8 := Lib.hid hw; clear hw)
      have HW9 := Lib.hid (HW8.out.put rd_ok vl)
      clear HC HW7 HW8 m1 f1
      generalize w8.setCell ⟨q, 1, none⟩ (.string vl) = w9 at *
      have c0 : w9.cell? ⟨b, 0, none⟩ = some pv := HW9.out.tw.box.cell 0
      have lm : (ldPr (.pointer (some ⟨q, 0, none⟩))).run Tryd.prog w9 = .ok (.agg #[.string ky, .string vl]) w9 := HW9.out.mem.l_pr
      obtain ⟨hbs, pA, n, c', w10, hap, hc, hf, hw⟩ := HW9.out.tw.pushP rd_ok ⟨ky, vl⟩ (by have := HLL.out; omega)
      have HW10 := Lib.hid hw
      clear hw
      rw [← H3.out, ← H4.out] at HW10
      go_wp2
      go_roundw
      case rel => exact ⟨k + 1, _, HLT.out, by go_num, HW10⟩
      case measure => have := HLT.out; simp [intOf]; omega
    · have i1 : ¬ (k : Int) < (P : Int) := by omega
      have hke : k = P := by omega
      subst hke
      clear hk hlt
      have HC := Lib.hid (HIN.out 0 64 _ _ _ _ _ _ _ HFC.out.e1 HW.out)
      go_upto_region 10 with (go_at_call 49; (with_reducible refine (HC.out).mono ?_); rintro e w5 ⟨rfl, hw⟩; have HW5 := Lib.hid hw; clear hw)
      rw [HFC.out.n1]
      rw [← HFC.out.s02] at HW5
      clear HC HW HIN i1
      go_loopw [31] (fun i wr => ∃ (j : Nat) (rv : Value) (L : List RepM), j ≤ Q ∧ i = .int .i64 (j : Int) ∧ Hid (L.map RepM.x = T2 j) ∧ Hid (TW Rd w B a r b E mA mz V pv (T k) rv L (S2 j) wr)) (fun i _ => Q - (intOf i).toNat)
      case atStart => exact ⟨0, _, [], Nat.zero_le _, rfl, Lib.hid (by rw [HFC.out.t02]; rfl), HW5⟩
      case round =>
        clear HW5
        obtain ⟨j, rv, L, hj, rfl, HLM, HW⟩ := hrel
        by_cases hlt : j < Q
        · have i1 : (j : Int) < (Q : Int) := by omega
          have wk : IntKind.i64.wrap ((j : Int) + 1) = ((j + 1 : Nat) : Int) := by
            rw [IntKind.wrap_i64]
            have := HFC.out.q64
            omega
          have HLT := Lib.hid hlt
          obtain ⟨h1, h2⟩ := HFC.out.step2 j
          have HLL : Hid (L.length ≤ 64) := Lib.hid (by
            have := congrArg List.length HLM.out
            rw [HFC.out.len2, List.length_map] at this
            have := HFC.out.q64
            omega)
          obtain ⟨x, hx⟩ : ∃ x, x = repAt (S2 j) := ⟨_, rfl⟩
          rw [← hx] at h1
          have H1 := Lib.hid h1
          have H2 := Lib.hid h2
          have HX := Lib.hid hx
          generalize T2 j = M at *
          generalize S2 j = s at *
          obtain ⟨PL, hPL⟩ : ∃ PL, PL = T k := ⟨_, rfl⟩
          rw [← hPL] at HW
          have HPE := Lib.hid hPL
          clear h1 h2 hx hlt hj hPL
          have HWd := Lib.hid (HW.out.call rd_ok ((Below.refl wr.heap.size wr).drew))
          have HC : Hid (Calls Tryd.prog 51 #[.pointer (some ⟨a, 0, none⟩)] wr.drew fun e w' => ∃ A z, e = .returned (.agg (repv x.client x.num x.code A x.vals.length z)) ∧ SeeV B w' A x.vals ∧ TW Rd w B a r b E mA mz V pv PL rv L (S2 (j + 1)) w') := Lib.hid ((readrep_any a s.1 s.2 wr.drew HWd.out.rd).mono fun e w' hi => HWd.out.rep HX.out H2.out hi)
          have c1 : wr.drew.cell? ⟨b, 1, none⟩ = some rv := HWd.out.box.cell 1
          go_upto_region 11 with fail
          clear HX H2 HW
          refine wp_region_held_drew (S := fun _ => True) (by kernel_rfl) trivial (fun hS => ?_)
          (refine wpAnyH_take (i := 0) (v := .pointer (some ⟨b, 1, none⟩)) rfl (by kernel_rfl) (by kernel_rfl) (by kernel_rfl) (fun _ _ _ h => h) (Or.inl ⟨by kernel_rfl, fun w hSw => by go_simp⟩) hS ?_)
          (try simp only [Act.put])
          (refine wpAnyH_take (i := 2) (v := .pointer (some ⟨a, 0, none⟩)) rfl (by kernel_rfl) (by kernel_rfl) (by kernel_rfl) (fun _ _ _ h => h) (Or.inl ⟨by kernel_rfl, fun w hSw => by go_simp⟩) hS ?_)
          (try simp only [Act.put])
          refine wpAnyH_ready (rs := [1, 3]) (by decide +kernel) (by simp) (AllReadyH.cons rfl (fun K hK => ?_) (AllReadyH.cons rfl (fun K hK => ?_) AllReadyH.nil))
          · go_simp
            refine hK.out _ _ (trivial) (fun hS => ?_)
            clear hK K
            (try simp only [Act.put])
            refine wpAnyH_ready (rs := [3]) (by decide +kernel) (by simp) (AllReadyH.cons rfl (fun K hK => ?_) AllReadyH.nil)
            go_simp
            (go_at_call 51; (with_reducible refine (HC.out).mono ?_); rintro e w6 ⟨xA, xz, rfl, hv6, hw6⟩)
            have HW6 := Lib.hid hw6
            have c16 : w6.cell? ⟨b, 1, none⟩ = some rv := hw6.box.cell 1
            obtain ⟨hbs, pA, n, c2, w7, hap, hc7, hf7, hw7⟩ := hw6.pushR rd_ok ⟨x, xA, xz⟩ hv6 (by have := HLL.out; omega)
            simp only at hbs hap
            have c17 : (w6.alloc (.cells (repv x.client x.num x.code xA x.vals.length xz) 67)).cell? ⟨b, 1, none⟩ = some rv := (hw6.box.alloc _).cell 1
            have HW7 := Lib.hid hw7
            clear hv6 hw6 hw7
            refine hK.out _ _ (hS) (fun hS => ?_)
            clear hK K
            (try simp only [Act.put])
            refine wpAnyH_ready (rs := [4]) (by decide +kernel) (by simp) (AllReadyH.cons rfl (fun K hK => ?_) AllReadyH.nil)
            go_simp
            refine hK.out _ _ (trivial) (fun hS => ?_)
            clear hK K
            (try simp only [Act.put])
            refine wpAnyH_ready (rs := [5]) (by decide +kernel) (by simp) (AllReadyH.cons rfl (fun K hK => ?_) AllReadyH.nil)
            go_simp
            refine hK.out _ _ (trivial) (fun hS => ?_)
            clear hK K
            (try simp only [Act.put])
            (refine wpAnyH_take (i := 6) (v := .pointer (some ⟨b, 1, none⟩)) rfl (by kernel_rfl) (by kernel_rfl) (by kernel_rfl) (fun _ _ _ h => h) (Or.inl ⟨by kernel_rfl, fun w hSw => by go_simp⟩) hS ?_)
            (try simp only [Act.put])
            refine wpAnyH_ready (rs := [7]) (by decide +kernel) (by simp) (AllReadyH.cons rfl (fun K hK => ?_) AllReadyH.nil)
            go_simp
            refine hK.out _ _ (trivial) (fun hS => ?_)
            clear hK K
            (try simp only [Act.put])
            refine wpAnyH_done (by kernel_rfl) ?_ _
            clear hap hbs hc7 hf7 c1 c16 c17 HC HWd HW6
            generalize w7.setCell ⟨b, 1, none⟩ (.slice pA n c2) = w8 at *
            have HLM2 : Hid ((L ++ [(⟨x, xA, xz⟩ : RepM)]).map RepM.x = T2 (j + 1)) := Lib.hid (by rw [H1.out, List.map_append, HLM.out]; rfl)
            clear HLM H1
            rw [HPE.out] at HW7
            go_wp2
            go_roundw
            case rel => exact ⟨j + 1, _, _, HLT.out, by go_num, HLM2, HW7⟩
            case measure => have := HLT.out; simp [intOf]; omega
          · go_simp
            (go_at_call 51; (with_reducible refine (HC.out).mono ?_); rintro e w6 ⟨xA, xz, rfl, hv6, hw6⟩)
            have HW6 := Lib.hid hw6
            have c16 : w6.cell? ⟨b, 1, none⟩ = some rv := hw6.box.cell 1
            obtain ⟨hbs, pA, n, c2, w7, hap, hc7, hf7, hw7⟩ := hw6.pushR rd_ok ⟨x, xA, xz⟩ hv6 (by have := HLL.out; omega)
            simp only at hbs hap
            have c17 : (w6.alloc (.cells (repv x.client x.num x.code xA x.vals.length xz) 67)).cell? ⟨b, 1, none⟩ = some rv := (hw6.box.alloc _).cell 1
            have HW7 := Lib.hid hw7
            clear hv6 hw6 hw7
            refine hK.out _ _ (hS) (fun hS => ?_)
            clear hK K
            (try simp only [Act.put])
            refine wpAnyH_ready (rs := [1, 4]) (by decide +kernel) (by simp) (AllReadyH.cons rfl (fun K hK => ?_) (AllReadyH.cons rfl (fun K hK => ?_) AllReadyH.nil))
            · go_simp
              refine hK.out _ _ (trivial) (fun hS => ?_)
              clear hK K
              (try simp only [Act.put])
              refine wpAnyH_ready (rs := [4]) (by decide +kernel) (by simp) (AllReadyH.cons rfl (fun K hK => ?_) AllReadyH.nil)
              go_simp
              refine hK.out _ _ (trivial) (fun hS => ?_)
              clear hK K
              (try simp only [Act.put])
              refine wpAnyH_ready (rs := [5]) (by decide +kernel) (by simp) (AllReadyH.cons rfl (fun K hK => ?_) AllReadyH.nil)
              go_simp
              refine hK.out _ _ (trivial) (fun hS => ?_)
              clear hK K
              (try simp only [Act.put])
              (refine wpAnyH_take (i := 6) (v := .pointer (some ⟨b, 1, none⟩)) rfl (by kernel_rfl) (by kernel_rfl) (by kernel_rfl) (fun _ _ _ h => h) (Or.inl ⟨by kernel_rfl, fun w hSw => by go_simp⟩) hS ?_)
              (try simp only [Act.put])
              refine wpAnyH_ready (rs := [7]) (by decide +kernel) (by simp) (AllReadyH.cons rfl (fun K hK => ?_) AllReadyH.nil)
              go_simp
              refine hK.out _ _ (trivial) (fun hS => ?_)
              clear hK K
              (try simp only [Act.put])
              refine wpAnyH_done (by kernel_rfl) ?_ _
              clear hap hbs hc7 hf7 c1 c16 c17 HC HWd HW6
              generalize w7.setCell ⟨b, 1, none⟩ (.slice pA n c2) = w8 at *
              have HLM2 : Hid ((L ++ [(⟨x, xA, xz⟩ : RepM)]).map RepM.x = T2 (j + 1)) := Lib.hid (by rw [H1.out, List.map_append, HLM.out]; rfl)
              clear HLM H1
              rw [HPE.out] at HW7
              go_wp2
              go_roundw
              case rel => exact ⟨j + 1, _, _, HLT.out, by go_num, HLM2, HW7⟩
              case measure => have := HLT.out; simp [intOf]; omega
            · go_simp
              refine hK.out _ _ (trivial) (fun hS => ?_)
              clear hK K
              (try simp only [Act.put])
              refine wpAnyH_ready (rs := [1]) (by decide +kernel) (by simp) (AllReadyH.cons rfl (fun K hK => ?_) AllReadyH.nil)
              go_simp
              refine hK.out _ _ (trivial) (fun hS => ?_)
              clear hK K
              (try simp only [Act.put])
              refine wpAnyH_ready (rs := [5]) (by decide +kernel) (by simp) (AllReadyH.cons rfl (fun K hK => ?_) AllReadyH.nil)
              go_simp
              refine hK.out _ _ (trivial) (fun hS => ?_)
              clear hK K
              (try simp only [Act.put])
              (refine wpAnyH_take (i := 6) (v := .pointer (some ⟨b, 1, none⟩)) rfl (by kernel_rfl) (by kernel_rfl) (by kernel_rfl) (fun _ _ _ h => h) (Or.inl ⟨by kernel_rfl, fun w hSw => by go_simp⟩) hS ?_)
              (try simp only [Act.put])
              refine wpAnyH_ready (rs := [7]) (by decide +kernel) (by simp) (AllReadyH.cons rfl (fun K hK => ?_) AllReadyH.nil)
              go_simp
              refine hK.out _ _ (trivial) (fun hS => ?_)
              clear hK K
              (try simp only [Act.put])
              refine wpAnyH_done (by kernel_rfl) ?_ _
              clear hap hbs hc7 hf7 c1 c16 c17 HC HWd HW6
              generalize w7.setCell ⟨b, 1, none⟩ (.slice pA n c2) = w8 at *
              have HLM2 : Hid ((L ++ [(⟨x, xA, xz⟩ : RepM)]).map RepM.x = T2 (j + 1)) := Lib.hid (by rw [H1.out, List.map_append, HLM.out]; rfl)
              clear HLM H1
              rw [HPE.out] at HW7
              go_wp2
              go_roundw
              case rel => exact ⟨j + 1, _, _, HLT.out, by go_num, HLM2, HW7⟩
              case measure => have := HLT.out; simp [intOf]; omega
        · have i1 : ¬ (j : Int) < (Q : Int) := by omega
          have hje : j = Q := by omega
          subst hje
          clear hj hlt
          have HEN := Lib.hid (rdend_any a (S2 j).1 (S2 j).2 wr HW.out.rd)
          obtain ⟨en, hen⟩ : ∃ en, (!(S2 j).2 && (S2 j).1.isEmpty) = en := ⟨_, rfl⟩
          rw [hen] at HEN
          have HOK : Hid (en = true → PS (T k) → RS (T2 j) → StOk k j T S2 T2) := Lib.hid (fun h h1 h2 => ⟨by rw [hen]; exact h, h1, h2⟩)
          have HNO : Hid (StOk k j T S2 T2 → en = true ∧ PS (T k) ∧ RS (T2 j)) := Lib.hid (fun h => ⟨by rw [← hen]; exact h.1, h.2⟩)
          clear hen
          generalize (S2 j) = s at *
          have HPL : Hid ((T k).length ≤ 256) := Lib.hid (by rw [HFC.out.len]; exact HFC.out.p256)
          have HRL : Hid (L.length ≤ 64) := Lib.hid (by
            have := congrArg List.length HLM.out
            rw [HFC.out.len2, List.length_map] at this
            have := HFC.out.q64
            omega)
          obtain ⟨PL, hPL⟩ : ∃ PL, PL = T k := ⟨_, rfl⟩
          rw [← hPL] at HW HPL HOK HNO
          have HPE := Lib.hid hPL
          have HM := Lib.hid HLM.out
          clear HLM HFC hPL
          obtain ⟨pA, pc, rfl⟩ := HW.out.po.slice
          obtain ⟨rA, rc, rfl⟩ := HW.out.ro.slice
          have hbd := bd_state0
          have HR0 : Hid (∀ w', TW Rd w B a r b E mA mz V (.slice pA PL.length pc) PL (.slice rA L.length rc) L s w' → ¬ StOk k j T S2 T2 → ∃ wz, (stSt (.pointer (some ⟨r, 0, none⟩)) (.agg (stV none 0 0 none 0 0 0 none 0 0))).run Tryd.prog w' = .ok () wz ∧ Box wz r 37 (stV none 0 0 none 0 0 0 none 0 0) ∧ Below w.heap.size w wz) := Lib.hid (fun w' hw _ => by
            obtain ⟨wz, hst, hb, hg⟩ := hw.out.s_st rfl none 0 0 none 0 0 0 none 0 0
            exact ⟨wz, hst, hb, hw.far.trans (below_only hg hw.hr hw.far.size)⟩)
          have HRPC := Lib.hid (fun w' (hw : TW Rd w B a r b E mA mz V (.slice pA PL.length pc) PL (.slice rA L.length rc) L s w') => risep_any PL pA pc (by have := HPL.out; omega) w' (EK.Own.see hw.po))
          have HRRC := Lib.hid (fun w' (hw : TW Rd w B a r b E mA mz V (.slice pA PL.length pc) PL (.slice rA L.length rc) L s w') => riser_any L rA rc (by have := HRL.out; omega) w' (EK.Own.see hw.ro))
          cases en with
          | false =>
            have HNK : Hid (¬ StOk k j T S2 T2) := Lib.hid (fun h => by have := (HNO.out h).1; cases this)
            obtain ⟨wz, hst, hb, hbz⟩ := HR0.out wr HW.out HNK.out
            have HBZ := Lib.hid hb
            have HFZ := Lib.hid hbz
            clear hb hbz HR0 HOK HNO HRPC HRRC
            go_wp2_with (go_at_call 52; (with_reducible refine (HEN.out).mono ?_); rintro e wg ⟨rfl, rfl⟩)
            exact ret_st2 rfl rfl rfl rfl HBZ.out ⟨⟨[], none, 0, [], none, 0, 0, [], none, 0⟩, 4, rfl, .inr ⟨HNK.out, rfl, rfl⟩, ⟨.inl rfl, .inl rfl, fun m hm => (by cases hm), .inl rfl⟩, HFZ.out⟩
          | true =>
            have HOKT : Hid (PS PL → RS (T2 j) → StOk k j T S2 T2) := Lib.hid (HOK.out rfl)
            have HNOT : Hid (StOk k j T S2 T2 → PS PL ∧ RS (T2 j)) := Lib.hid (fun h => (HNO.out h).2)
            clear HOK HNO
            have c0 := HW.out.box.cell 0
            simp only [List.getElem?_toArray, List.getElem?_cons_zero] at c0
            go_wp2_with (first
              | (go_at_call 52; (with_reducible refine (HEN.out).mono ?_); rintro e wg ⟨rfl, rfl⟩)
              | (go_at_call 53; (with_reducible refine (HRPC.out _ HW.out).mono ?_); rintro e w6 ⟨r1, rfl, hr1, hb6⟩; have HR1 := Lib.hid hr1; have HW6 := Lib.hid (HW.out.call rd_ok hb6); clear hr1 hb6; cases r1; (focus (have HNK : Hid (¬ StOk k j T S2 T2) := Lib.hid (fun h => by have h9 := HR1.out.2 (HNOT.out h).1; cases h9); obtain ⟨wz, hst, hb, hbz⟩ := HR0.out w6 HW6.out HNK.out; have HBZ := Lib.hid hb; have HFZ := Lib.hid hbz; clear hb hbz)); rotate_left; (focus (have HR1T : Hid (PS PL) := Lib.hid (HR1.out.1 rfl); have c1 : w6.cell? ⟨b, 1, none⟩ = some (.slice rA L.length rc) := HW6.out.box.cell 1)))
              | (go_at_call 55; (with_reducible refine (HRRC.out _ HW6.out).mono ?_); rintro e w7 ⟨r2, rfl, hr2, hb7⟩; have HR2 := Lib.hid hr2; have HW7 := Lib.hid (HW6.out.call rd_ok hb7); clear hr2 hb7; cases r2; (focus (have HNK : Hid (¬ StOk k j T S2 T2) := Lib.hid (fun h => by have h8 := (HNOT.out h).2; rw [← HM.out] at h8; have h9 := HR2.out.2 h8; cases h9); obtain ⟨wz, hst, hb, hbz⟩ := HR0.out w7 HW7.out HNK.out; have HBZ := Lib.hid hb; have HFZ := Lib.hid hbz; clear hb hbz)); rotate_left; (focus (have HYK : Hid (StOk k j T S2 T2) := Lib.hid (HOKT.out HR1T.out (by rw [← HM.out]; exact HR2.out.1 rfl)); have lst := HW7.out.box.l_st; obtain ⟨wz, hst, hb, hg⟩ := HW7.out.out.s_st rfl pA PL.length pc rA L.length rc E mA V.length mz; have HSZ : Hid ((⟨PL, pA, pc, L, rA, rc, E, V, mA, mz⟩ : StM).See wz wz.heap.size) := Lib.hid (HW7.out.see_out hg); have HPX : Hid ((⟨PL, pA, pc, L, rA, rc, E, V, mA, mz⟩ : StM).pl = ⟨T k, T2 j, E, V⟩) := Lib.hid (by unfold StM.pl; rw [HM.out, HPE.out]); have HBZ := Lib.hid hb; have HFZ := Lib.hid (HW7.out.far.trans (below_only hg HW7.out.hr HW7.out.far.size)); clear hb hg))))
            all_goals first
              | exact ret_st2 rfl rfl rfl rfl HBZ.out ⟨⟨[], none, 0, [], none, 0, 0, [], none, 0⟩, 4, rfl, .inr ⟨HNK.out, rfl, rfl⟩, ⟨.inl rfl, .inl rfl, fun m hm => (by cases hm), .inl rfl⟩, HFZ.out⟩
              | exact ret_st2 rfl rfl rfl rfl HBZ.out ⟨⟨PL, pA, pc, L, rA, rc, E, V, mA, mz⟩, 0, rfl, .inl ⟨HYK.out, rfl, HPX.out⟩, HSZ.out, HFZ.out⟩
end Go.Proofs.YtlogceoeodjeoaaDoor
