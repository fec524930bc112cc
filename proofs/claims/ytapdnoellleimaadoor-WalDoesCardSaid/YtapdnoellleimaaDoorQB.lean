/-
  (*Log).Append, Sync, Reset, settle; wal.Open.
  wal.Open.
  The laws' helpers: great, texts; wapentakeref17.Same.
  The laws' helpers: texts; wapentakeref17.Same of records and their texts.
  A log's calls as a walk carries them; a disk with one file on plain lists; wapentakelaw17.alive.
  wapentakelaw17.alive.
-/
import Derived.Test.YtapdnoellleimaaDoorQA
import Derived.Deep.RegionHeld3
import Derived.OwnWalk
import Derived.Test.YtapdnoellleimaaDoorNB
import Derived.BigQuiet
namespace Go.Proofs.YtapdnoellleimaaDoor
open Go.RowKit Go.Maps

/-- A log in memory. -/
def LogW (w : World) (q p : Nat) (s : List UInt8) : Prop := Box w q 79 #[.pointer (some ⟨p, 0, none⟩), str s]
set_option maxRecDepth 100000 in
theorem LogW.call {w w' : World} {q p : Nat} {s : List UInt8} (h : LogW w q p s) (hb : Below w.heap.size w w') : LogW w' q p s := Box.below h hb h.lt
set_option maxRecDepth 100000 in
theorem LogW.bt {u : Bool} {B : Nat} {w w' : World} {q p : Nat} {s : List UInt8} (h : LogW w q p s) (hb : Bt u B w w') : LogW w' q p s := hb.box h (by decide) (by decide) (fun _ => by decide)
set_option maxRecDepth 100000 in
theorem drew_below (w : World) : Below w.heap.size w w.drew := (Below.refl _ _).drew

set_option maxRecDepth 100000 in
theorem logsync_nil (w : World) : Calls Tryd.prog 19 #[.pointer none] w fun e w' => e = .returned (.int .i64 2) ∧ w' = w := by
  go_enter Tryd.func19, Tryd.ntmps19
  go_wp2
  go_ret
  exact ⟨rfl, rfl⟩
set_option maxRecDepth 100000 in
theorem logsync_any (q base p : Nat) (X : DX) (s : List UInt8) (hs : s.length ≤ maxLen) (hf : X.Few) (w : World) (hq : LogW w q p s) (h : DkIs w base p X) :
    Calls Tryd.prog 19 #[.pointer (some ⟨q, 0, none⟩)] w fun e w' => e = .returned (.int .i64 (X.sync s).1) ∧ DkIs w' base p (X.sync s).2 ∧ Bt false base w w' := by
  have HC := Lib.hid (dksync_bt base p X s hs hf)
  have HD := Lib.hid h
  have c0 : w.cell? ⟨q, 0, none⟩ = some (.pointer (some ⟨p, 0, none⟩)) := Box.cell hq 0
  have c1 : w.cell? ⟨q, 1, none⟩ = some (str s) := Box.cell hq 1
  have HBW : Hid (base ≤ w.heap.size) := Lib.hid (by obtain ⟨mb, ms, h⟩ := h; have := h.low; have := h.box.lt; omega)
  generalize X.sync s = Z at *
  clear hs hf hq h
  go_enter Tryd.func19, Tryd.ntmps19
  go_upto_region 3 with fail
  go_region_with (go_at_call 44; (with_reducible refine (HC.out _ (HD.out.call (drew_below _))).mono ?_); rintro e w2 ⟨rfl, hd, hb⟩; have HD2 := Lib.hid hd; have HB2 := Lib.hid ((bt_call (drew_below _) HBW.out).trans hb); clear hd hb)
  all_goals
    go_wp2
    go_ret
    exact ⟨rfl, HD2.out, HB2.out⟩
set_option maxRecDepth 100000 in
theorem logappend_nil (v : Value) (w : World) : Calls Tryd.prog 16 #[.pointer none, v] w fun e w' => e = .returned (.int .i64 2) ∧ w' = w := by
  go_enter Tryd.func16, Tryd.ntmps16
  go_wp2
  go_ret
  exact ⟨rfl, rfl⟩
set_option maxRecDepth 100000 in
theorem logreset_nil (v : Value) (w : World) : Calls Tryd.prog 21 #[.pointer none, v] w fun e w' => e = .returned (.int .i64 2) ∧ w' = w := by
  go_enter Tryd.func21, Tryd.ntmps21
  go_wp2
  go_ret
  exact ⟨rfl, rfl⟩
set_option maxRecDepth 100000 in
set_option maxHeartbeats 2000000 in
theorem logappend_any (q base p : Nat) (X : DX) (s : List UInt8) (ts : List TX) (A : Option Addr) (c : Nat) (hs : s.length ≤ maxLen) (hf : X.Few) (hl : (framesB (ts.map TX.l)).length ≤ 1000000000) (w : World) (hq : LogW w q p s) (h : DkIs w base p X) (hS : TK.See w w.heap.size A ts) (ht : ∀ t ∈ ts, Sees w w.heap.size t.A (t.l.map bv)) (hR : Roots w) :
    Calls Tryd.prog 16 #[.pointer (some ⟨q, 0, none⟩), .slice A ts.length c] w fun e w' => e = .returned (.int .i64 (X.append s (framesB (ts.map TX.l))).1) ∧ DkIs w' base p (X.append s (framesB (ts.map TX.l))).2 ∧ Bt true base w w' := by
  have HBW : Hid (base ≤ w.heap.size) := Lib.hid (by obtain ⟨mb, ms, h⟩ := h; have := h.low; have := h.box.lt; omega)
  have hbd := drew_below w
  obtain ⟨wd, hwd⟩ : ∃ wd, wd = w.drew := ⟨_, rfl⟩
  rw [← hwd] at hbd
  have HJ := Lib.hid (wjoin_any ts A c wd (EK.See.far hS hbd) (fun t h => ((ht t h).below hbd).more hbd.size) hl (hR.of_below hbd))
  have hq2 := hq.call hbd
  have HD2 := Lib.hid (h.call hbd)
  have HBD : Hid (Bt true base w wd) := Lib.hid (bt_call hbd HBW.out)
  have HBS : Hid (base ≤ wd.heap.size) := Lib.hid (Nat.le_trans HBW.out hbd.size)
  have HC : Hid (∀ A' c' w2, DkIs w2 base p X → Sees w2 w2.heap.size A' ((framesB (ts.map TX.l)).map bv) → Calls Tryd.prog 11 #[.pointer (some ⟨p, 0, none⟩), str s, .slice A' (framesB (ts.map TX.l)).length c'] w2 fun e w' => e = .returned (.int .i64 (X.append s (framesB (ts.map TX.l))).1) ∧ DkIs w' base p (X.append s (framesB (ts.map TX.l))).2 ∧ Bt true base w2 w') := Lib.hid (fun A' c' w2 h2 h3 => dkappend_bt base p X s _ A' c' hs hf w2 h2 h3)
  have HC0 : Hid (∀ w2, LogW w2 q p s → w2.cell? ⟨q, 0, none⟩ = some (.pointer (some ⟨p, 0, none⟩)) ∧ w2.cell? ⟨q, 1, none⟩ = some (str s)) := Lib.hid (fun w2 hb => ⟨Box.cell hb 0, Box.cell hb 1⟩)
  have HQ2 := Lib.hid hq2
  generalize framesB (ts.map TX.l) = F at *
  generalize X.append s F = Z at *
  clear hs hf hq h hS ht hR hq2 hl
  go_enter Tryd.func16, Tryd.ntmps16
  go_upto_region 3 with fail
  refine wp_region_held_drew (S := fun w' => w'.cell? ⟨q, 0, none⟩ = some (.pointer (some ⟨p, 0, none⟩)) ∧ w'.cell? ⟨q, 1, none⟩ = some (str s)) (by kernel_rfl) (by rw [← hwd]; exact HC0.out _ HQ2.out) (fun hS => ?_)
  rw [← hwd] at hS ⊢
  clear hwd hbd
  (refine wpAnyH_take (i := 0) (v := .pointer (some ⟨q, 0, none⟩)) rfl (by kernel_rfl) (by kernel_rfl) (by kernel_rfl) (fun _ _ _ h => h) (Or.inl ⟨by kernel_rfl, fun w hSw => by go_simp⟩) hS ?_)
  (try simp only [Act.put])
  (refine wpAnyH_take (i := 1) (v := .pointer (some ⟨q, 0, none⟩)) rfl (by kernel_rfl) (by kernel_rfl) (by kernel_rfl) (fun _ _ _ h => h) (Or.inl ⟨by kernel_rfl, fun w hSw => by go_simp⟩) hS ?_)
  (try simp only [Act.put])
  (refine wpAnyH_take (i := 2) (v := .pointer (some ⟨q, 0, none⟩)) rfl (by kernel_rfl) (by kernel_rfl) (by kernel_rfl) (fun _ _ _ h => h) (Or.inl ⟨by kernel_rfl, fun w hSw => by go_simp⟩) hS ?_)
  (try simp only [Act.put])
  (refine wpAnyH_take (i := 3) (v := .pointer (some ⟨p, 0, none⟩)) rfl (by kernel_rfl) (by kernel_rfl) (by kernel_rfl) (fun _ _ _ h => h) (Or.inl ⟨by kernel_rfl, fun w hSw => by have hc := hSw.1; go_simp⟩) hS ?_)
  (try simp only [Act.put])
  (refine wpAnyH_take (i := 4) (v := .pointer (some ⟨q, 0, none⟩)) rfl (by kernel_rfl) (by kernel_rfl) (by kernel_rfl) (fun _ _ _ h => h) (Or.inl ⟨by kernel_rfl, fun w hSw => by go_simp⟩) hS ?_)
  (try simp only [Act.put])
  (refine wpAnyH_take (i := 5) (v := .pointer (some ⟨q, 0, none⟩)) rfl (by kernel_rfl) (by kernel_rfl) (by kernel_rfl) (fun _ _ _ h => h) (Or.inl ⟨by kernel_rfl, fun w hSw => by go_simp⟩) hS ?_)
  (try simp only [Act.put])
  (refine wpAnyH_take (i := 6) (v := .pointer (some ⟨q, 1, none⟩)) rfl (by kernel_rfl) (by kernel_rfl) (by kernel_rfl) (fun _ _ _ h => h) (Or.inl ⟨by kernel_rfl, fun w hSw => by go_simp⟩) hS ?_)
  (try simp only [Act.put])
  (refine wpAnyH_take (i := 7) (v := str s) rfl (by kernel_rfl) (by kernel_rfl) (by kernel_rfl) (fun _ _ _ h => h) (Or.inl ⟨by kernel_rfl, fun w hSw => by have hc := hSw.2; go_simp⟩) hS ?_)
  (try simp only [Act.put])
  (refine wpAnyH_take (i := 8) (v := .slice A ts.length c) rfl (by kernel_rfl) (by kernel_rfl) (by kernel_rfl) (fun _ _ _ h => h) (Or.inl ⟨by kernel_rfl, fun w hSw => by go_simp⟩) hS ?_)
  (try simp only [Act.put])
  refine wpAnyH_ready (rs := [9]) (by decide +kernel) (by simp) (AllReadyH.cons rfl (fun K hK => ?_) AllReadyH.nil)
  go_simp
  (go_at_call 43; (with_reducible refine (HJ.out).mono ?_); rintro e w2 ⟨A2, c2, rfl, ho2, hb2⟩)
  refine hK.out _ _ (HC0.out _ (HQ2.out.call hb2)) (fun hS => ?_)
  clear hK K
  (try simp only [Act.put])
  refine wpAnyH_ready (rs := [10]) (by decide +kernel) (by simp) (AllReadyH.cons rfl (fun K hK => ?_) AllReadyH.nil)
  go_simp
  (go_at_call 11; (with_reducible refine (HC.out _ _ _ (HD2.out.call hb2) (DB_sees ho2.see)).mono ?_); rintro e w3 ⟨rfl, hd3, hb3⟩)
  refine hK.out _ _ (HC0.out _ ((HQ2.out.call hb2).bt hb3)) (fun hS => ?_)
  clear hK K
  (try simp only [Act.put])
  have HD3 := Lib.hid hd3
  have HB3 := Lib.hid ((HBD.out.trans (bt_call hb2 HBS.out)).trans hb3)
  clear hd3 hb3 ho2 hb2
  (refine wpAnyH_take (i := 11) (v := .int .i64 Z.1) rfl (by kernel_rfl) (by kernel_rfl) (by kernel_rfl) (fun _ _ _ h => h) (Or.inl ⟨by kernel_rfl, fun w hSw => by go_simp⟩) hS ?_)
  refine wpAnyH_done (by kernel_rfl) ?_ _
  go_wp2
  go_ret
  exact ⟨rfl, HD3.out, HB3.out⟩
set_option maxRecDepth 100000 in
set_option maxHeartbeats 2000000 in
theorem logreset_any (q base p : Nat) (X : DX) (s : List UInt8) (ts : List TX) (A : Option Addr) (c : Nat) (hs : s.length ≤ maxLen) (hf : X.Few) (hl : (framesB (ts.map TX.l)).length ≤ 1000000000) (w : World) (hq : LogW w q p s) (h : DkIs w base p X) (hS : TK.See w w.heap.size A ts) (ht : ∀ t ∈ ts, Sees w w.heap.size t.A (t.l.map bv)) (hR : Roots w) :
    Calls Tryd.prog 21 #[.pointer (some ⟨q, 0, none⟩), .slice A ts.length c] w fun e w' => e = .returned (.int .i64 (X.install s (framesB (ts.map TX.l))).1) ∧ DkIs w' base p (X.install s (framesB (ts.map TX.l))).2 ∧ Bt false base w w' := by
  have HBW : Hid (base ≤ w.heap.size) := Lib.hid (by obtain ⟨mb, ms, h⟩ := h; have := h.low; have := h.box.lt; omega)
  have hbd := drew_below w
  obtain ⟨wd, hwd⟩ : ∃ wd, wd = w.drew := ⟨_, rfl⟩
  rw [← hwd] at hbd
  have HJ := Lib.hid (wjoin_any ts A c wd (EK.See.far hS hbd) (fun t h => ((ht t h).below hbd).more hbd.size) hl (hR.of_below hbd))
  have hq2 := hq.call hbd
  have HD2 := Lib.hid (h.call hbd)
  have HBD : Hid (Bt false base w wd) := Lib.hid (bt_call hbd HBW.out)
  have HBS : Hid (base ≤ wd.heap.size) := Lib.hid (Nat.le_trans HBW.out hbd.size)
  have HC : Hid (∀ A' c' w2, DkIs w2 base p X → Sees w2 w2.heap.size A' ((framesB (ts.map TX.l)).map bv) → Calls Tryd.prog 45 #[.pointer (some ⟨p, 0, none⟩), str s, .slice A' (framesB (ts.map TX.l)).length c'] w2 fun e w' => e = .returned (.int .i64 (X.install s (framesB (ts.map TX.l))).1) ∧ DkIs w' base p (X.install s (framesB (ts.map TX.l))).2 ∧ Bt false base w2 w') := Lib.hid (fun A' c' w2 h2 h3 => dkinstall_bt base p X s _ A' c' hs (by omega) hf w2 h2 h3)
  have HC0 : Hid (∀ w2, LogW w2 q p s → w2.cell? ⟨q, 0, none⟩ = some (.pointer (some ⟨p, 0, none⟩)) ∧ w2.cell? ⟨q, 1, none⟩ = some (str s)) := Lib.hid (fun w2 hb => ⟨Box.cell hb 0, Box.cell hb 1⟩)
  have HQ2 := Lib.hid hq2
  generalize framesB (ts.map TX.l) = F at *
  generalize X.install s F = Z at *
  clear hs hf hq h hS ht hR hq2 hl
  go_enter Tryd.func21, Tryd.ntmps21
  go_upto_region 3 with fail
  refine wp_region_held_drew (S := fun w' => w'.cell? ⟨q, 0, none⟩ = some (.pointer (some ⟨p, 0, none⟩)) ∧ w'.cell? ⟨q, 1, none⟩ = some (str s)) (by kernel_rfl) (by rw [← hwd]; exact HC0.out _ HQ2.out) (fun hS => ?_)
  rw [← hwd] at hS ⊢
  clear hwd hbd
  (refine wpAnyH_take (i := 0) (v := .pointer (some ⟨q, 0, none⟩)) rfl (by kernel_rfl) (by kernel_rfl) (by kernel_rfl) (fun _ _ _ h => h) (Or.inl ⟨by kernel_rfl, fun w hSw => by go_simp⟩) hS ?_)
  (try simp only [Act.put])
  (refine wpAnyH_take (i := 1) (v := .pointer (some ⟨q, 0, none⟩)) rfl (by kernel_rfl) (by kernel_rfl) (by kernel_rfl) (fun _ _ _ h => h) (Or.inl ⟨by kernel_rfl, fun w hSw => by go_simp⟩) hS ?_)
  (try simp only [Act.put])
  (refine wpAnyH_take (i := 2) (v := .pointer (some ⟨q, 0, none⟩)) rfl (by kernel_rfl) (by kernel_rfl) (by kernel_rfl) (fun _ _ _ h => h) (Or.inl ⟨by kernel_rfl, fun w hSw => by go_simp⟩) hS ?_)
  (try simp only [Act.put])
  (refine wpAnyH_take (i := 3) (v := .pointer (some ⟨p, 0, none⟩)) rfl (by kernel_rfl) (by kernel_rfl) (by kernel_rfl) (fun _ _ _ h => h) (Or.inl ⟨by kernel_rfl, fun w hSw => by have hc := hSw.1; go_simp⟩) hS ?_)
  (try simp only [Act.put])
  (refine wpAnyH_take (i := 4) (v := .pointer (some ⟨q, 0, none⟩)) rfl (by kernel_rfl) (by kernel_rfl) (by kernel_rfl) (fun _ _ _ h => h) (Or.inl ⟨by kernel_rfl, fun w hSw => by go_simp⟩) hS ?_)
  (try simp only [Act.put])
  (refine wpAnyH_take (i := 5) (v := .pointer (some ⟨q, 0, none⟩)) rfl (by kernel_rfl) (by kernel_rfl) (by kernel_rfl) (fun _ _ _ h => h) (Or.inl ⟨by kernel_rfl, fun w hSw => by go_simp⟩) hS ?_)
  (try simp only [Act.put])
  (refine wpAnyH_take (i := 6) (v := .pointer (some ⟨q, 1, none⟩)) rfl (by kernel_rfl) (by kernel_rfl) (by kernel_rfl) (fun _ _ _ h => h) (Or.inl ⟨by kernel_rfl, fun w hSw => by go_simp⟩) hS ?_)
  (try simp only [Act.put])
  (refine wpAnyH_take (i := 7) (v := str s) rfl (by kernel_rfl) (by kernel_rfl) (by kernel_rfl) (fun _ _ _ h => h) (Or.inl ⟨by kernel_rfl, fun w hSw => by have hc := hSw.2; go_simp⟩) hS ?_)
  (try simp only [Act.put])
  (refine wpAnyH_take (i := 8) (v := .slice A ts.length c) rfl (by kernel_rfl) (by kernel_rfl) (by kernel_rfl) (fun _ _ _ h => h) (Or.inl ⟨by kernel_rfl, fun w hSw => by go_simp⟩) hS ?_)
  (try simp only [Act.put])
  refine wpAnyH_ready (rs := [9]) (by decide +kernel) (by simp) (AllReadyH.cons rfl (fun K hK => ?_) AllReadyH.nil)
  go_simp
  (go_at_call 43; (with_reducible refine (HJ.out).mono ?_); rintro e w2 ⟨A2, c2, rfl, ho2, hb2⟩)
  refine hK.out _ _ (HC0.out _ (HQ2.out.call hb2)) (fun hS => ?_)
  clear hK K
  (try simp only [Act.put])
  refine wpAnyH_ready (rs := [10]) (by decide +kernel) (by simp) (AllReadyH.cons rfl (fun K hK => ?_) AllReadyH.nil)
  go_simp
  (go_at_call 45; (with_reducible refine (HC.out _ _ _ (HD2.out.call hb2) (DB_sees ho2.see)).mono ?_); rintro e w3 ⟨rfl, hd3, hb3⟩)
  refine hK.out _ _ (HC0.out _ ((HQ2.out.call hb2).bt hb3)) (fun hS => ?_)
  clear hK K
  (try simp only [Act.put])
  have HD3 := Lib.hid hd3
  have HB3 := Lib.hid ((HBD.out.trans (bt_call hb2 HBS.out)).trans hb3)
  clear hd3 hb3 ho2 hb2
  (refine wpAnyH_take (i := 11) (v := .int .i64 Z.1) rfl (by kernel_rfl) (by kernel_rfl) (by kernel_rfl) (fun _ _ _ h => h) (Or.inl ⟨by kernel_rfl, fun w hSw => by go_simp⟩) hS ?_)
  refine wpAnyH_done (by kernel_rfl) ?_ _
  go_wp2
  go_ret
  exact ⟨rfl, HD3.out, HB3.out⟩
/-- What settle does. -/
def DX.settle (X : DX) (s b : List UInt8) (z : Nat) : Int × DX :=
  if (if z < b.length then X.install s (b.take z) else (0, X)).1 ≠ 0 then (if z < b.length then X.install s (b.take z) else (0, X)) else (if z < b.length then X.install s (b.take z) else (0, X)).2.sync s
set_option maxRecDepth 100000 in
set_option maxHeartbeats 2000000 in
theorem settle_any (q base p : Nat) (X : DX) (s b : List UInt8) (A : Option Addr) (c z : Nat) (hs : s.length ≤ maxLen) (hf : X.Room 1) (hz : z ≤ b.length) (hb : b.length ≤ 4194304) (hc : b.length ≤ c) (w : World) (hq : LogW w q p s) (h : DkIs w base p X) (hS : Sees w w.heap.size A (b.map bv)) :
    Calls Tryd.prog 42 #[.pointer (some ⟨q, 0, none⟩), .slice A b.length c, .int .i64 (z : Int)] w fun e w' => e = .returned (.int .i64 (X.settle s b z).1) ∧ DkIs w' base p (X.settle s b z).2 ∧ Bt false base w w' := by
  have HBW : Hid (base ≤ w.heap.size) := Lib.hid (by obtain ⟨mb, ms, h⟩ := h; have := h.low; have := h.box.lt; omega)
  have HRM := Lib.hid hf
  have HNM := Lib.hid hs
  obtain ⟨Z, hZ⟩ : ∃ Z, Z = X.settle s b z := ⟨_, rfl⟩
  rw [← hZ]
  unfold DX.settle at hZ
  by_cases hlt : z < b.length
  · simp only [if_pos hlt] at hZ
    have HZZ := Lib.hid hZ
    clear hZ
    have hbd := drew_below w
    obtain ⟨wd, hwd⟩ : ∃ wd, wd = w.drew := ⟨_, rfl⟩
    rw [← hwd] at hbd
    have hq2 := hq.call hbd
    have HD2 := Lib.hid (h.call hbd)
    have hzl : (b.take z).length = z := by rw [List.length_take]; omega
    have HC := dkinstall_bt base p X s (b.take z) A c hs (by omega) hf.few wd HD2.out (by rw [List.map_take]; exact ((hS.below hbd).more hbd.size).take z)
    rw [hzl] at HC
    have HC := Lib.hid HC
    have HI1 : Hid ((X.install s (b.take z)).2.Room 0) := Lib.hid (hf.install s _)
    have HBD : Hid (Bt false base w wd) := Lib.hid (bt_call hbd HBW.out)
    have HC0 : Hid (∀ w2, LogW w2 q p s → w2.cell? ⟨q, 0, none⟩ = some (.pointer (some ⟨p, 0, none⟩)) ∧ w2.cell? ⟨q, 1, none⟩ = some (str s)) := Lib.hid (fun w2 hb => ⟨Box.cell hb 0, Box.cell hb 1⟩)
    have HQ2 := Lib.hid hq2
    have hsl : ∀ w, (Instr.slice 22 (.slice A b.length c) none (some (.int .i64 (z : Int))) none).run Tryd.prog w = .ok (.slice A z c) w := fun w => slice_upto (by omega) w
    have hz4 : (z : Int) ≤ 4194304 := by omega
    have hl4 : (b.length : Int) ≤ 4194304 := by omega
    generalize X.install s (b.take z) = I at HZZ HC HI1
    clear hs hf hq h hS hq2 hb hzl
    go_enter Tryd.func42, Tryd.ntmps42
    go_upto_region 2 with fail
    refine wp_region_held_drew (S := fun w' => w'.cell? ⟨q, 0, none⟩ = some (.pointer (some ⟨p, 0, none⟩)) ∧ w'.cell? ⟨q, 1, none⟩ = some (str s)) (by kernel_rfl) (by rw [← hwd]; exact HC0.out _ HQ2.out) (fun hS => ?_)
    rw [← hwd] at hS ⊢
    clear hwd hbd
    (refine wpAnyH_take (i := 0) (v := .pointer (some ⟨q, 0, none⟩)) rfl (by kernel_rfl) (by kernel_rfl) (by kernel_rfl) (fun _ _ _ h => h) (Or.inl ⟨by kernel_rfl, fun w hSw => by go_simp⟩) hS ?_)
    (try simp only [Act.put])
    (refine wpAnyH_take (i := 1) (v := .pointer (some ⟨q, 0, none⟩)) rfl (by kernel_rfl) (by kernel_rfl) (by kernel_rfl) (fun _ _ _ h => h) (Or.inl ⟨by kernel_rfl, fun w hSw => by go_simp⟩) hS ?_)
    (try simp only [Act.put])
    (refine wpAnyH_take (i := 2) (v := .pointer (some ⟨q, 0, none⟩)) rfl (by kernel_rfl) (by kernel_rfl) (by kernel_rfl) (fun _ _ _ h => h) (Or.inl ⟨by kernel_rfl, fun w hSw => by go_simp⟩) hS ?_)
    (try simp only [Act.put])
    (refine wpAnyH_take (i := 3) (v := .pointer (some ⟨p, 0, none⟩)) rfl (by kernel_rfl) (by kernel_rfl) (by kernel_rfl) (fun _ _ _ h => h) (Or.inl ⟨by kernel_rfl, fun w hSw => by have hc := hSw.1; go_simp⟩) hS ?_)
    (try simp only [Act.put])
    (refine wpAnyH_take (i := 4) (v := .pointer (some ⟨q, 0, none⟩)) rfl (by kernel_rfl) (by kernel_rfl) (by kernel_rfl) (fun _ _ _ h => h) (Or.inl ⟨by kernel_rfl, fun w hSw => by go_simp⟩) hS ?_)
    (try simp only [Act.put])
    (refine wpAnyH_take (i := 5) (v := .pointer (some ⟨q, 0, none⟩)) rfl (by kernel_rfl) (by kernel_rfl) (by kernel_rfl) (fun _ _ _ h => h) (Or.inl ⟨by kernel_rfl, fun w hSw => by go_simp⟩) hS ?_)
    (try simp only [Act.put])
    (refine wpAnyH_take (i := 6) (v := .pointer (some ⟨q, 1, none⟩)) rfl (by kernel_rfl) (by kernel_rfl) (by kernel_rfl) (fun _ _ _ h => h) (Or.inl ⟨by kernel_rfl, fun w hSw => by go_simp⟩) hS ?_)
    (try simp only [Act.put])
    (refine wpAnyH_take (i := 7) (v := str s) rfl (by kernel_rfl) (by kernel_rfl) (by kernel_rfl) (fun _ _ _ h => h) (Or.inl ⟨by kernel_rfl, fun w hSw => by have hc := hSw.2; go_simp⟩) hS ?_)
    (try simp only [Act.put])
    (refine wpAnyH_take (i := 8) (v := .slice A b.length c) rfl (by kernel_rfl) (by kernel_rfl) (by kernel_rfl) (fun _ _ _ h => h) (Or.inl ⟨by kernel_rfl, fun w hSw => by go_simp⟩) hS ?_)
    (try simp only [Act.put])
    (refine wpAnyH_take (i := 9) (v := .int .i64 (z : Int)) rfl (by kernel_rfl) (by kernel_rfl) (by kernel_rfl) (fun _ _ _ h => h) (Or.inl ⟨by kernel_rfl, fun w hSw => by go_simp⟩) hS ?_)
    (try simp only [Act.put])
    (refine wpAnyH_take (i := 10) (v := .slice A z c) rfl (by kernel_rfl) (by kernel_rfl) (by kernel_rfl) (fun _ _ _ h => h) (Or.inl ⟨by kernel_rfl, fun w hSw => by have hc := hsl w; go_simp⟩) hS ?_)
    (try simp only [Act.put])
    refine wpAnyH_ready (rs := [11]) (by decide +kernel) (by simp) (AllReadyH.cons rfl (fun K hK => ?_) AllReadyH.nil)
    go_simp
    (go_at_call 45; (with_reducible refine (HC.out).mono ?_); rintro e w3 ⟨rfl, hd3, hb3⟩)
    refine hK.out _ _ (HC0.out _ (HQ2.out.bt hb3)) (fun hS => ?_)
    clear hK K
    (try simp only [Act.put])
    have HD3 := Lib.hid hd3
    have HB3 := Lib.hid (HBD.out.trans hb3)
    have HQ3 := Lib.hid (HQ2.out.bt hb3)
    clear hd3 hb3 hsl
    (refine wpAnyH_take (i := 12) (v := .int .i64 I.1) rfl (by kernel_rfl) (by kernel_rfl) (by kernel_rfl) (fun _ _ _ h => h) (Or.inl ⟨by kernel_rfl, fun w hSw => by go_simp⟩) hS ?_)
    refine wpAnyH_done (by kernel_rfl) ?_ _
    by_cases h0 : I.1 = 0
    · have HZ2 : Hid (Z = I.2.sync s) := Lib.hid (by rw [HZZ.out, if_neg (by rw [h0]; simp)])
      have HCS := Lib.hid (logsync_any q base p I.2 s HNM.out HI1.out.few w3 HQ3.out HD3.out)
      generalize I.2.sync s = Y at *
      go_wp2_with (go_at_call 19; (with_reducible refine (HCS.out).mono ?_); rintro e w4 ⟨rfl, hd4, hb4⟩; have HD4 := Lib.hid hd4; have HB4 := Lib.hid hb4; clear hd4 hb4)
      go_ret
      rw [HZ2.out]
      exact ⟨rfl, HD4.out, HB3.out.trans HB4.out⟩
    · have HZ2 : Hid (Z = I) := Lib.hid (by rw [HZZ.out, if_pos h0])
      go_wp2
      go_ret
      rw [HZ2.out]
      exact ⟨rfl, HD3.out, HB3.out⟩
  · simp only [if_neg hlt] at hZ
    rw [if_neg (by simp)] at hZ
    rw [hZ]
    clear hZ
    have hge : (b.length : Int) ≤ (z : Int) := by omega
    have HCS := Lib.hid (logsync_any q base p X s hs hf.few w hq h)
    generalize X.sync s = Z at *
    clear hs hf hq h hS
    go_enter Tryd.func42, Tryd.ntmps42
    go_wp2_with (go_at_call 19; (with_reducible refine (HCS.out).mono ?_); rintro e w4 ⟨rfl, hd4, hb4⟩; have HD4 := Lib.hid hd4; have HB4 := Lib.hid hb4; clear hd4 hb4)
    go_ret
    exact ⟨rfl, HD4.out, HB4.out⟩
set_option maxRecDepth 100000 in
theorem dkread_len {w : World} {base p : Nat} {X : DX} (h : DkIs w base p X) (s : List UInt8) : (X.read s).1.length ≤ 4194304 := by
  obtain ⟨mb, ms, h⟩ := h
  unfold DX.read
  split
  · simp
  · cases e : lookF X.fs s with
    | none => simp
    | some f => exact Nat.le_trans (List.le_sum_of_mem' (List.mem_map.2 ⟨f, (lookF_some e).1, rfl⟩)) h.tot
set_option maxRecDepth 100000 in
theorem dkread_nil (s : List UInt8) (w : World) : Calls Tryd.prog 28 #[.pointer none, str s] w fun e w' => e = .returned (.tuple #[.slice none 0 0, .int .i64 2]) ∧ w' = w := by
  go_enter Tryd.func28, Tryd.ntmps28
  go_wp2
  go_ret2
  exact ⟨rfl, rfl⟩
set_option maxRecDepth 100000 in
theorem walopen_nil (s : List UInt8) (w : World) : Calls Tryd.prog 13 #[.pointer none, str s] w fun e w' => e = .returned (.tuple #[.pointer none, .slice none 0 0, .int .i64 2]) ∧ Below w.heap.size w w' := by
  have HB : Hid (Below w.heap.size w (w.alloc (.cells #[.pointer none, str s] 79))) := (Below.refl _ _).alloc (Nat.le_refl _) _
  have HC := Lib.hid (dkread_nil s (w.alloc (.cells #[.pointer none, str s] 79)))
  go_enter Tryd.func13, Tryd.ntmps13
  go_wp2_with (go_at_call 28; (with_reducible refine (HC.out).mono ?_); rintro e w4 ⟨rfl, rfl⟩)
  go_ret3
  exact ⟨rfl, HB.out⟩
end Go.Proofs.YtapdnoellleimaaDoor

namespace Go.Proofs.YtapdnoellleimaaDoor
open Go.RowKit Go.Maps

set_option maxRecDepth 100000 in
theorem wopen_none {X : DX} {s : List UInt8} (h : (X.read s).2 = 7) : X.wopen s = (0, [], X) := by
  unfold DX.wopen
  rw [if_pos h]
set_option maxRecDepth 100000 in
theorem wopen_err {X : DX} {s : List UInt8} (h : (X.read s).2 ≠ 7) (h2 : (X.read s).2 ≠ 0) : X.wopen s = ((X.read s).2, [], X) := by
  unfold DX.wopen
  rw [if_neg h, if_pos h2]
set_option maxRecDepth 100000 in
theorem wopen_settle {X : DX} {s : List UInt8} (h : (X.read s).2 = 0) : X.wopen s = ((X.settle s (X.read s).1 (framesB (splitB (X.read s).1)).length).1, (if (X.settle s (X.read s).1 (framesB (splitB (X.read s).1)).length).1 = 0 then splitB (X.read s).1 else []), (X.settle s (X.read s).1 (framesB (splitB (X.read s).1)).length).2) := by
  unfold DX.wopen DX.settle
  rw [if_neg (by rw [h]; decide), if_neg (by rw [h]; simp), splitB_take]
  generalize (if (framesB (splitB (X.read s).1)).length < (X.read s).1.length then X.install s (framesB (splitB (X.read s).1)) else (0, X)) = I
  simp only
  by_cases h0 : I.1 = 0
  · have hn0 : ¬ I.1 ≠ 0 := by simpa using h0
    rw [if_neg hn0, if_neg hn0]
    by_cases h1 : (I.2.sync s).1 = 0
    · have hn1 : ¬ (I.2.sync s).1 ≠ 0 := by simpa using h1
      rw [if_neg hn1, if_pos h1, h1]
    · rw [if_pos h1, if_neg h1]
  · rw [if_pos h0, if_pos h0, if_neg h0]
/-- What Open answers, and leaves. -/
def OpenIs (w : World) (base p : Nat) (s : List UInt8) (Z : Int × List (List UInt8) × DX) (e : Ending) (w' : World) : Prop := ∃ q v ts, e = .returned (.tuple #[if Z.1 = 0 then .pointer (some ⟨q, 0, none⟩) else .pointer none, v, .int .i64 Z.1]) ∧
  w.heap.size ≤ q ∧ LogW w' q p s ∧ RecsW w' w.heap.size v ts ∧ ts.map TX.l = Z.2.1 ∧ DkIs w' base p Z.2.2 ∧ Bt false base w w'
set_option maxRecDepth 100000 in
set_option maxHeartbeats 2000000 in
theorem walopen_any (base p : Nat) (X : DX) (s : List UInt8) (hs : s.length ≤ maxLen) (hf : X.Room 2) (w : World) (h : DkIs w base p X) (hR : Roots w) :
    Calls Tryd.prog 13 #[.pointer (some ⟨p, 0, none⟩), str s] w (OpenIs w base p s (X.wopen s)) := by
  have hbw : base ≤ w.heap.size := by obtain ⟨mb, ms, h⟩ := h; have := h.low; have := h.box.lt; omega
  obtain ⟨w1, hw1⟩ : ∃ w1, w1 = w.alloc (.cells #[.pointer (some ⟨p, 0, none⟩), str s] 79) := ⟨_, rfl⟩
  have hb1 : Below w.heap.size w w1 := by rw [hw1]; exact (Below.refl _ _).alloc (Nat.le_refl _) _
  have HQ1 : Hid (LogW w1 w.heap.size p s) := Lib.hid (by rw [hw1]; exact Box.made _ _ _)
  have HD1 := Lib.hid (h.call hb1)
  have HB1 := Lib.hid hb1
  have HBW := Lib.hid hbw
  have HRD := Lib.hid (dkread_any base p X s hs w1 HD1.out)
  have HRL := Lib.hid (dkread_len HD1.out s)
  have HR := Lib.hid hR
  have HF := Lib.hid hf
  have HS := Lib.hid hs
  obtain ⟨Z, hZ⟩ : ∃ Z, Z = X.wopen s := ⟨_, rfl⟩
  rw [← hZ]
  have h7 := wopen_none (X := X) (s := s)
  have h8 := wopen_err (X := X) (s := s)
  have h9 := wopen_settle (X := X) (s := s)
  rw [← hZ] at h7 h8 h9
  generalize X.read s = R at *
  obtain ⟨b, r⟩ := R
  dsimp only at h7 h8 h9 HRD HRL
  have H7 := Lib.hid h7
  have H8 := Lib.hid h8
  have H9 := Lib.hid h9
  clear hb1 h hR hf hs hbw hZ h7 h8 h9
  go_enter Tryd.func13, Tryd.ntmps13
  go_upto_region 2 with fail
  rw [← hw1]
  clear hw1
  go_upto_region 3 with (go_at_call 28; (with_reducible refine (HRD.out).mono ?_); rintro e w2 ⟨A2, c2, rfl, ho2, hb2⟩)
  have HD2 := Lib.hid (HD1.out.call hb2)
  have HQ2 := Lib.hid (HQ1.out.call hb2)
  have HB2 : Hid (Below w.heap.size w w2) := Lib.hid (HB1.out.trans (hb2.mono HB1.out.size))
  have HO2 := Lib.hid ho2
  clear ho2 hb2 HRD HD1 HQ1
  by_cases e7 : r = 7
  · have HZ7 := Lib.hid (H7.out e7)
    subst e7
    go_wp2
    go_ret3
    rw [HZ7.out]
    exact ⟨w.heap.size, .slice none 0 0, [], rfl, Nat.le_refl _, HQ2.out, ⟨EK.own_nil _ _ _, fun t ht => by cases ht⟩, rfl, HD2.out, bt_call HB2.out HBW.out⟩
  · by_cases e0 : r = 0
    rotate_left
    · have HZ8 := Lib.hid (H8.out e7 e0)
      go_wp2
      go_ret3
      rw [HZ8.out]
      refine ⟨w.heap.size, .slice none 0 0, [], ?_, Nat.le_refl _, HQ2.out, ⟨EK.own_nil _ _ _, fun t ht => by cases ht⟩, rfl, HD2.out, bt_call HB2.out HBW.out⟩
      rw [if_neg e0]
      rfl
    · subst e0
      have h9 := H9.out rfl
      have hbd := HO2.out.bounds
      have HCS := Lib.hid (split_any b A2 c2 HRL.out hbd.2.1 hbd.2.2.1 w2 (DB_sees HO2.out.see) (HR.out.of_below HB2.out))
      have HZN : Hid ((framesB (splitB b)).length ≤ b.length) := Lib.hid (splitB_len b)
      obtain ⟨N, hN⟩ : ∃ N, N = (framesB (splitB b)).length := ⟨_, rfl⟩
      rw [← hN] at h9 HCS HZN
      obtain ⟨Y, hY⟩ : ∃ Y, Y = X.settle s b N := ⟨_, rfl⟩
      rw [← hY] at h9
      have HYY := Lib.hid hY
      have HZ9 := Lib.hid h9
      have HCP := Lib.hid hbd.2.1
      clear h9 hbd hN hY e7
      go_upto_region 8 with (go_at_call 41; (with_reducible refine (HCS.out).mono ?_); rintro e w3 ⟨v, ts, rfl, hts, hrec, hb3⟩)
      have HREC := Lib.hid hrec
      have HTS := Lib.hid hts
      have HB3 := Lib.hid hb3
      have HST := Lib.hid (settle_any w.heap.size base p X s b A2 c2 N HS.out (HF.out.less (by omega)) HZN.out HRL.out HCP.out w3 (HQ2.out.call hb3) (HD2.out.call hb3) ((DB_sees (EK.Own.keep HO2.out hb3).see)))
      rw [← HYY.out] at HST
      clear hrec hts hb3
      by_cases hy : Y.1 = 0
      · go_wp2_with (go_at_call 42; (with_reducible refine (HST.out).mono ?_); rintro e w4 ⟨rfl, hd4, hb4⟩; have HD4 := Lib.hid hd4; have HB4 := Lib.hid hb4; clear hd4 hb4)
        go_ret3
        rw [HZ9.out]
        refine ⟨w.heap.size, v, ts, ?_, Nat.le_refl _, (HQ2.out.call HB3.out).bt HB4.out, (HREC.out.low HB2.out.size).bt HB4.out, ?_, HD4.out, ((bt_call HB2.out HBW.out).trans (bt_call HB3.out (Nat.le_trans HBW.out HB2.out.size))).trans HB4.out⟩
        · rw [if_pos hy, hy]
          rfl
        · show _ = if Y.1 = 0 then _ else _
          rw [if_pos hy, HTS.out]
      · go_wp2_with (go_at_call 42; (with_reducible refine (HST.out).mono ?_); rintro e w4 ⟨rfl, hd4, hb4⟩; have HD4 := Lib.hid hd4; have HB4 := Lib.hid hb4; clear hd4 hb4)
        go_ret3
        rw [HZ9.out]
        refine ⟨w.heap.size, .slice none 0 0, [], ?_, Nat.le_refl _, (HQ2.out.call HB3.out).bt HB4.out, ⟨EK.own_nil _ _ _, fun t ht => by cases ht⟩, ?_, HD4.out, ((bt_call HB2.out HBW.out).trans (bt_call HB3.out (Nat.le_trans HBW.out HB2.out.size))).trans HB4.out⟩
        · rw [if_neg hy]
          rfl
        · show _ = if Y.1 = 0 then _ else _
          rw [if_neg hy]
          rfl
end Go.Proofs.YtapdnoellleimaaDoor

namespace Go.Proofs.YtapdnoellleimaaDoor
open Go.RowKit Go.Maps

/-- A call of a script. -/
structure CaX where
  kind : Int
  A : Option Addr
  ts : List TX
  c : Nat
  n : Int
  k : Int
  b : TX
def CaX.cells (x : CaX) : List Value := [.int .i64 x.kind, .slice x.A x.ts.length x.c, .int .i64 x.n, .int .i64 x.k, .slice x.b.A x.b.l.length x.b.c]
noncomputable def CaK : EK CaX where
  e := 44
  sl := 23
  k := 5
  bys := 72
  z := .agg #[.int .i64 0, .slice none 0 0, .int .i64 0, .int .i64 0, .slice none 0 0]
  enc := CaX.cells
  hk := by decide
  und := Tryd.underlying23
  els := by kernel_rfl
  info := by kernel_rfl
  hzs := rfl
  zone := by
    intro v hv
    simp only [Value.cells, List.mem_cons, List.not_mem_nil, or_false] at hv
    rcases hv with rfl | rfl | rfl | rfl | rfl <;> rfl
  len := fun _ => rfl
  one := by
    intro x v hv
    simp only [CaX.cells, List.mem_cons, List.not_mem_nil, or_false] at hv
    rcases hv with rfl | rfl | rfl | rfl | rfl <;> rfl
  hby := by decide
noncomputable def ldCa (v : Value) : Sem Value := Instr.loadAt 44 v
set_option maxRecDepth 100000 in
theorem ldCa_def (v : Value) : Instr.loadAt 44 v = ldCa v := rfl
noncomputable def stCa (p v : Value) : Sem Unit := Instr.storeAt 44 p v
set_option maxRecDepth 100000 in
theorem stCa_def (p v : Value) : Instr.storeAt 44 p v = stCa p v := rfl
set_option maxRecDepth 100000 in
theorem ca_size (x : CaX) : (Tryd.prog.info? 44).map (·.size) = some x.cells.toArray.size := by
  show _ = some 5
  kernel_rfl
set_option maxRecDepth 100000 in
theorem ca_list (x : CaX) : (Tryd.prog.info? 44).map (·.size) = some x.cells.toArray.toList.length := by
  show _ = some 5
  kernel_rfl
set_option maxRecDepth 100000 in
theorem ca_one (x : CaX) : ∀ v ∈ x.cells, v.oneCell' = true := CaK.one x
set_option maxRecDepth 100000 in
theorem range_ca {w : World} {g o : Nat} {x : CaX} (h : w.rangeAt g o x.cells) : (ldCa (.pointer (some ⟨g, o, none⟩))).run Tryd.prog w = .ok (.agg x.cells.toArray) w :=
  run_loadAt_mid (P := Tryd.prog) w g o 44 x.cells.toArray.toList _ h Tryd.underlying44 rfl (ca_list x)
set_option maxRecDepth 100000 in
theorem Box.s_ca {w : World} {g : Nat} {t : TypeId} {cs : Array Value} (h : Box w g t cs) (hs : cs.size = 5) (x : CaX) :
    ∃ w', (stCa (.pointer (some ⟨g, 0, none⟩)) (.agg x.cells.toArray)).run Tryd.prog w = .ok () w' ∧ Box w' g t x.cells.toArray ∧ w.grownBy w' (some g) := by
  refine ⟨w.setCells g 0 x.cells.toArray.toList, ?_, h.cells_all x.cells.toArray (by rw [hs]; rfl), only_cells (g := g) _ 0 _⟩
  exact run_storeAt_mid (P := Tryd.prog) _ g 0 44 x.cells.toArray (fun j hj => by
    have hj4 : j < 5 := hj
    rw [h.cell, h.free, Array.getElem?_eq_getElem (by omega)]
    exact ⟨rfl, rfl⟩) (ca_size x) (by have := all_oneCell_toArray (ca_one x); simpa using this)
set_option maxRecDepth 100000 in
theorem laid_ca (w : World) (zs : Array Value) (hz : zs.size = 5) (x : CaX) : ∃ w', (stCa (.pointer (some ⟨w.heap.size, 0, none⟩)) (.agg x.cells.toArray)).run Tryd.prog (w.alloc (.cells zs 44)) = .ok () w' ∧ Box w' w.heap.size 44 x.cells.toArray ∧ Below w.heap.size w w' := by
  obtain ⟨w', h1, h2, h3⟩ := (Box.made w 44 zs).s_ca hz x
  exact ⟨w', h1, h2, ((Below.refl _ _).alloc (Nat.le_refl _) _).trans (below_only h3 (Nat.le_refl _) (by simp))⟩
set_option maxRecDepth 100000 in
theorem CaK_at {w : World} {B : Nat} {A : Option Addr} {xs : List CaX} (h : CaK.See w B A xs) {i : Nat} (hi : i < xs.length) : ∃ g o, A = some ⟨g, o, none⟩ ∧ w.rangeAt g (o + i * 5) xs[i].cells := by
  obtain ⟨g, o, rfl, _, hc⟩ := EK.See.range (K := CaK) h hi
  exact ⟨g, o, rfl, hc i hi⟩

def sumT (ts : List TX) : Nat := (ts.map fun t => t.l.length).sum
def wgtC (xs : List CaX) : Nat := (xs.map fun x => x.b.l.length + sumT x.ts).sum
set_option maxRecDepth 100000 in
theorem sumT_succ (ts : List TX) (k : Nat) (h : k < ts.length) : sumT (ts.take (k + 1)) = sumT (ts.take k) + ts[k].l.length := by
  unfold sumT
  rw [List.take_succ_eq_append_getElem h, List.map_append, List.sum_append]
  simp
set_option maxRecDepth 100000 in
theorem wgtC_succ (xs : List CaX) (k : Nat) (h : k < xs.length) : wgtC (xs.take (k + 1)) = wgtC (xs.take k) + (xs[k].b.l.length + sumT xs[k].ts) := by
  unfold wgtC
  rw [List.take_succ_eq_append_getElem h, List.map_append, List.sum_append]
  simp
set_option maxRecDepth 100000 in
theorem sumT_frames (ts : List TX) : (framesB (ts.map TX.l)).length = 12 * ts.length + sumT ts := by
  unfold sumT
  induction ts with
  | nil => rfl
  | cons t r ih =>
    rw [List.map_cons, framesB_cons, List.length_append, frameB_len, ih, List.map_cons, List.sum_cons, List.length_cons]
    omega
set_option maxRecDepth 100000 in
theorem sumT_mem {ts : List TX} {t : TX} (h : t ∈ ts) : t.l.length ≤ sumT ts := List.le_sum_of_mem' (List.mem_map.2 ⟨t, h, rfl⟩)

/-- What can be seen of a script. -/
structure CaSee (w : World) (A : Option Addr) (xs : List CaX) : Prop where
  rows : CaK.See w w.heap.size A xs
  lists : ∀ x ∈ xs, TK.See w w.heap.size x.A x.ts
  few : ∀ x ∈ xs, x.b.l.length ≤ 140737488351232 ∧ x.ts.length ≤ 140737488351232 ∧ ∀ t ∈ x.ts, t.l.length ≤ 140737488351232
  len : xs.length ≤ 140737488351232

/-- What great answers. -/
def GreatIs (w : World) (xs : List CaX) (e : Ending) (w' : World) : Prop := ∃ r, e = .returned (.bool r) ∧ (r = false → xs.length ≤ 40 ∧ wgtC xs ≤ 8192 ∧ ∀ x ∈ xs, x.ts.length ≤ 20) ∧ Below w.heap.size w w'
section
attribute [local go_sem ↓] ldCa_def stCa_def
set_option maxRecDepth 100000 in
set_option maxHeartbeats 2000000 in
theorem great_any17 (xs : List CaX) (A : Option Addr) (c : Nat) (w : World) (hS : CaSee w A xs) :
    Calls Tryd.prog 9 #[.slice A xs.length c] w (GreatIs w xs) := by
  have HS := Lib.hid hS
  have hn : (xs.length : Int) ≤ 140737488351232 := by have := hS.len; omega
  clear hS
  go_enter Tryd.func9, Tryd.ntmps9
  go_wp2
  go_loopw [3, 10] (fun s i wr => ∃ k : Nat, k ≤ xs.length ∧ i = .int .i64 (k : Int) ∧ s = .int .i64 ((wgtC (xs.take k) : Nat) : Int) ∧ Hid (wgtC (xs.take k) ≤ 8192 ∧ ∀ x ∈ xs.take k, x.ts.length ≤ 20) ∧ Hid (Below w.heap.size w wr)) (fun _ i _ => xs.length - (intOf i).toNat)
  case atStart => exact ⟨0, Nat.zero_le _, rfl, rfl, ⟨Nat.zero_le _, fun x hx => by cases hx⟩, Below.refl _ _⟩
  case round =>
    obtain ⟨k, hk, rfl, rfl, HW, HB⟩ := hrel
    by_cases hlt : k < xs.length
    · obtain ⟨g, o, rfl, hrg⟩ := CaK_at (EK.See.far HS.out.rows HB.out) hlt
      have hld := range_ca hrg
      have HSU := Lib.hid (wgtC_succ xs k hlt)
      have hmem := List.getElem_mem hlt
      obtain ⟨x, hx⟩ : ∃ x, x = xs[k] := ⟨_, rfl⟩
      rw [← hx] at hld hmem HSU
      have HXM := Lib.hid hmem
      have hfew := HS.out.few x hmem
      have hb1 : (x.b.l.length : Int) ≤ 140737488351232 := by omega
      have hb2 : (x.ts.length : Int) ≤ 140737488351232 := by omega
      have hb3 : ((wgtC (xs.take k) : Nat) : Int) ≤ 8192 := by have := HW.out.1; omega
      have HTF := Lib.hid hfew.2.2
      have HTS : Hid (TK.See wr wr.heap.size x.A x.ts) := Lib.hid (EK.See.far (HS.out.lists x hmem) HB.out)
      obtain ⟨w2, hst, hbx, hbl⟩ := laid_ca wr #[.int .i64 0, .slice none 0 0, .int .i64 0, .int .i64 0, .slice none 0 0] rfl x
      have c1 : w2.cell? ⟨wr.heap.size, 1, none⟩ = some (.slice x.A x.ts.length x.c) := hbx.cell 1
      have c4 : w2.cell? ⟨wr.heap.size, 4, none⟩ = some (.slice x.b.A x.b.l.length x.b.c) := hbx.cell 4
      have HBL := Lib.hid hbl
      have HX := Lib.hid hx
      clear hrg hmem hfew hbx hbl hx
      by_cases h20 : x.ts.length ≤ 20
      rotate_left
      · go_wp2
        go_ret
        exact ⟨true, rfl, (fun h => by cases h), HB.out.trans (HBL.out.mono HB.out.size)⟩
      · have HTS2 : Hid (TK.See w2 w2.heap.size x.A x.ts) := Lib.hid (EK.See.far HTS.out HBL.out)
        clear HTS
        go_wp2
        go_loopw [3, 26] (fun s i wq => ∃ j : Nat, j ≤ x.ts.length ∧ i = .int .i64 (j : Int) ∧ s = .int .i64 ((wgtC (xs.take k) : Int) + (x.b.l.length : Int) + (sumT (x.ts.take j) : Int)) ∧ Hid (sumT (x.ts.take j) ≤ j * 140737488351232) ∧ wq = w2) (fun _ i _ => x.ts.length - (intOf i).toNat)
        case atStart => exact ⟨0, Nat.zero_le _, rfl, by simp [sumT], Nat.zero_le _, rfl⟩
        case round =>
          obtain ⟨j, hj, rfl, rfl, HJ, rfl⟩ := hrel
          have hjb : ((sumT (x.ts.take j) : Nat) : Int) ≤ 2814749767024640 := by
            have h1 := HJ.out
            have h2 : j * 140737488351232 ≤ 20 * 140737488351232 := Nat.mul_le_mul_right _ (by omega)
            omega
          by_cases hjl : j < x.ts.length
          · obtain ⟨g2, o2, he2, hc2⟩ := TK_at HTS2.out hjl
            have htl := HTF.out _ (List.getElem_mem hjl)
            have HTU := Lib.hid (sumT_succ x.ts j hjl)
            obtain ⟨t, ht⟩ : ∃ t, t = x.ts[j] := ⟨_, rfl⟩
            rw [← ht] at hc2 htl HTU
            have htb : (t.l.length : Int) ≤ 140737488351232 := by omega
            have HTL := Lib.hid htl
            rw [he2]
            clear ht htl he2
            go_wp2
            go_roundw
            case rel => exact ⟨j + 1, by omega, by go_num, by rw [HTU.out, Int.natCast_add]; simp only [Int.add_assoc], by show _ ≤ _; have := HTU.out; have := HJ.out; have := HTL.out; rw [Nat.add_mul]; omega, trivial⟩
            case measure => simp [intOf]; omega
          · have hje : j = x.ts.length := by omega
            subst hje
            rw [List.take_length] at hjb HJ ⊢
            clear hjl hj
            have HWX : Hid (wgtC (xs.take (k + 1)) = wgtC (xs.take k) + (x.b.l.length + sumT x.ts)) := HSU
            by_cases hbig : (wgtC (xs.take k) : Int) + (x.b.l.length : Int) + (sumT x.ts : Int) ≤ 8192
            · have HBG := Lib.hid hbig
              have HTK : Hid (∀ y ∈ xs.take (k + 1), y.ts.length ≤ 20) := Lib.hid (fun y hy => by
                rw [List.take_succ_eq_append_getElem hlt] at hy
                rcases List.mem_append.1 hy with hy | hy
                · exact HW.out.2 y hy
                · rw [List.mem_singleton.1 hy, ← HX.out]
                  exact h20)
              go_wp2
              go_roundw
              case rel => exact ⟨k + 1, by omega, by go_num, by rw [HWX.out, Int.natCast_add, Int.natCast_add, Int.add_assoc], ⟨by have := HBG.out; have := HWX.out; omega, HTK.out⟩, HB.out.trans (HBL.out.mono HB.out.size)⟩
              case measure => simp [intOf]; omega
            · go_wp2
              go_ret
              exact ⟨true, rfl, (fun h => by cases h), HB.out.trans (HBL.out.mono HB.out.size)⟩
    · have hkl : k = xs.length := by omega
      subst hkl
      rw [List.take_length] at HW
      clear hlt hk
      by_cases h40 : xs.length ≤ 40
      · go_wp2
        go_ret
        exact ⟨_, rfl, fun _ => ⟨h40, HW.out⟩, HB.out⟩
      · go_wp2
        go_ret
        exact ⟨_, rfl, (fun h => by simp at h; omega), HB.out⟩
end
end Go.Proofs.YtapdnoellleimaaDoor

namespace Go.Proofs.YtapdnoellleimaaDoor
open Go.RowKit Go.Maps

def strL (xs : List (List UInt8)) : List ByteArray := xs.map fun l => ⟨l.toArray⟩
set_option maxRecDepth 100000 in
theorem SK_at17 {w : World} {B : Nat} {A : Option Addr} {ss : List ByteArray} (h : SK.See w B A ss) {i : Nat} (hi : i < ss.length) : ∃ g o, A = some ⟨g, o, none⟩ ∧ w.cell? ⟨g, o + i, none⟩ = some (.string ss[i]) := by
  obtain ⟨g, o, rfl, _, hc⟩ := EK.See.range (K := SK) h hi
  refine ⟨g, o, rfl, ?_⟩
  have := hc i hi 0 (.string ss[i]) rfl
  simpa [SK] using this

section
attribute [local go_sem ↓] apAll_def bsT_def
set_option maxRecDepth 100000 in
set_option maxHeartbeats 2000000 in
theorem texts_any17 (ts : List TX) (A : Option Addr) (c : Nat) (hn : ts.length ≤ 1000000) (w : World) (hS : TK.See w w.heap.size A ts) (ht : ∀ t ∈ ts, Sees w w.heap.size t.A (t.l.map bv)) :
    Calls Tryd.prog 18 #[.slice A ts.length c] w fun e w' => ∃ v, e = .returned v ∧ SK.Own w' w.heap.size v (strL (ts.map TX.l)) ∧ Below w.heap.size w w' := by
  have HS := Lib.hid hS
  have HT := Lib.hid ht
  have hn2 : (ts.length : Int) ≤ 1000000 := by omega
  clear hS ht hn
  go_enter Tryd.func18, Tryd.ntmps18
  go_wp2
  go_loopw [3, 8] (fun v i wr => ∃ k : Nat, k ≤ ts.length ∧ i = .int .i64 (k : Int) ∧ Hid (SK.Own wr w.heap.size v (strL ((ts.take k).map TX.l))) ∧ Hid (Below w.heap.size w wr)) (fun _ i _ => ts.length - (intOf i).toNat)
  case atStart => exact ⟨0, Nat.zero_le _, rfl, EK.own_nil _ _ _, Below.refl _ _⟩
  case round =>
    obtain ⟨k, hk, rfl, HO, HB⟩ := hrel
    by_cases hlt : k < ts.length
    · obtain ⟨g, o, rfl, hc⟩ := TK_at (EK.See.far HS.out HB.out) hlt
      have hx := (HT.out _ (List.getElem_mem hlt))
      have hsu : strL ((ts.take (k + 1)).map TX.l) = strL ((ts.take k).map TX.l) ++ [⟨ts[k].l.toArray⟩] := by
        unfold strL
        rw [List.take_succ_eq_append_getElem hlt, List.map_append, List.map_append]
        rfl
      have hlk : (strL ((ts.take k).map TX.l)).length = k := by unfold strL; rw [List.length_map, List.length_map, List.length_take]; omega
      obtain ⟨t, htt⟩ : ∃ t, t = ts[k] := ⟨_, rfl⟩
      rw [← htt] at hc hx hsu
      have hcv := bytes_conv17 ((hx.below HB.out).more HB.out.size) t.c
      have hbs : (bsT 39 1 #[(0, str t.l)]).run Tryd.prog wr = .ok (.slice (some ⟨wr.heap.size, 0, none⟩) 1 1) (wr.alloc (.cells (SK.enc ⟨t.l.toArray⟩).toArray SK.e)) := EK.build1 SK ⟨t.l.toArray⟩ (.string ⟨t.l.toArray⟩) rfl (by decide) wr
      have hb2 : Below wr.heap.size wr (wr.alloc (.cells (SK.enc ⟨t.l.toArray⟩).toArray SK.e)) := (Below.refl _ _).alloc (Nat.le_refl _) _
      have hs2 := EK.see_one SK wr ⟨t.l.toArray⟩
      obtain ⟨v3, w3, hap0, ho3, hg3⟩ := EK.append SK (EK.Own.keep HO.out hb2) (m := 1) (c := 1) (es := [⟨t.l.toArray⟩]) rfl hs2 (by rw [hlk]; omega) (by rw [hlk]; show (k + 1) * 16 ≤ _; omega) (Nat.le_trans HB.out.size hb2.size)
      have hap := hap0
      rw [show SK.sl = 39 from rfl] at hap
      rw [← hsu] at ho3
      have HO3 := Lib.hid ho3
      have HB3 : Hid (Below w.heap.size w w3) := Lib.hid ((HB.out.trans (hb2.mono HB.out.size)).trans (below_own (EK.Own.keep HO.out hb2) hg3 (Nat.le_trans HB.out.size hb2.size)))
      generalize hw2 : wr.alloc (.cells (SK.enc ⟨t.l.toArray⟩).toArray SK.e) = w2 at *
      clear hx hsu hlk hb2 hs2 ho3 hg3 htt hw2 hap0
      go_wp2
      go_roundw
      case rel => exact ⟨k + 1, by omega, by go_num, HO3, HB3⟩
      case measure => simp [intOf]; omega
    · have hkl : k = ts.length := by omega
      subst hkl
      rw [List.take_length] at HO
      clear hlt hk
      go_wp2
      go_ret
      exact ⟨_, rfl, HO.out, HB.out⟩
end
set_option maxRecDepth 100000 in
set_option maxHeartbeats 2000000 in
theorem same_true17 (ts : List TX) (A : Option Addr) (c : Nat) (ss : List ByteArray) (B : Option Addr) (n d : Nat) (hn : n = ss.length) (he : ss = strL (ts.map TX.l)) (hl : ts.length ≤ 1000000) (w : World) (hS : TK.See w w.heap.size A ts) (ht : ∀ t ∈ ts, Sees w w.heap.size t.A (t.l.map bv)) (hB : SK.See w w.heap.size B ss) :
    Calls Tryd.prog 15 #[.slice A ts.length c, .slice B n d] w fun e w' => e = .returned (.bool true) ∧ Below w.heap.size w w' := by
  have hne : n = ts.length := by rw [hn, he]; unfold strL; rw [List.length_map, List.length_map]
  subst hne
  have HS := Lib.hid hS
  have HT := Lib.hid ht
  have HBB := Lib.hid hB
  have HE := Lib.hid he
  have HN := Lib.hid hn
  have hl2 : (ts.length : Int) ≤ 1000000 := by omega
  clear hS ht hB he hn hl
  go_enter Tryd.func15, Tryd.ntmps15
  go_wp2
  go_loopw [13] (fun i wr => ∃ k : Nat, k ≤ ts.length ∧ i = .int .i64 (k : Int) ∧ Hid (Below w.heap.size w wr)) (fun i _ => ts.length - (intOf i).toNat)
  case atStart => exact ⟨0, Nat.zero_le _, rfl, Below.refl _ _⟩
  case round =>
    obtain ⟨k, hk, rfl, HB⟩ := hrel
    by_cases hlt : k < ts.length
    · obtain ⟨g, o, rfl, hc⟩ := TK_at (EK.See.far HS.out HB.out) hlt
      obtain ⟨g2, o2, rfl, hc2⟩ := SK_at17 (EK.See.far HBB.out HB.out) (by rw [← HN.out]; exact hlt : k < ss.length)
      have hx := (HT.out _ (List.getElem_mem hlt))
      have hsee := (hx.below HB.out).more HB.out.size
      have hcv : ∀ n, (convert 22 9 (.slice ts[k].A ts[k].l.length ts[k].c)).run Tryd.prog (wr.drewN n) = .ok (str ts[k].l) (wr.drewN n) := fun n => bytes_conv17 (Sees.keep (w' := wr.drewN n) hsee (fun _ _ => rfl)) ts[k].c
      have hse : ss[k]'(by rw [← HN.out]; exact hlt) = ⟨ts[k].l.toArray⟩ := by
        have h1 : ss[k]? = some ⟨ts[k].l.toArray⟩ := by
          rw [HE.out]
          unfold strL
          rw [List.getElem?_map, List.getElem?_map, List.getElem?_eq_getElem hlt]
          rfl
        rw [List.getElem?_eq_getElem (by rw [← HN.out]; exact hlt)] at h1
        injection h1
      rw [hse] at hc2
      generalize ts[k] = t at *
      clear hx hse hsee
      go_upto_region 6 with fail
      go_quiet (fail)
      have HF2 := Lib.hid (HB.out.trans ((below_drewN (Below.refl wr.heap.size wr) nq).mono HB.out.size))
      clear hcv hc hc2
      generalize wr.drewN nq = w5 at *
      go_wp2
      go_roundw
      case rel => exact ⟨k + 1, by omega, by go_num, HF2⟩
      case measure => simp [intOf]; omega
    · go_wp2
      go_ret
      exact ⟨rfl, HB.out⟩
end Go.Proofs.YtapdnoellleimaaDoor

namespace Go.Proofs.YtapdnoellleimaaDoor
open Go.RowKit Go.Maps

/-! ### A walk's calls -/
set_option maxRecDepth 100000 in
theorem DkC.roots {w0 w : World} {base p : Nat} {X : DX} (h : DkC w0 w base p X) (hb : base = w0.heap.size) (hR : Roots w0) : Roots w := by
  refine hR.of_below ?_
  rw [← hb]
  exact h.below
set_option maxRecDepth 100000 in
theorem lgappend_c {w0 w : World} {base p q : Nat} {X : DX} {s : List UInt8} (h : DkC w0 w base p X) (hq : LogW w q p s) (hb : base = w0.heap.size) (hR : Roots w0) (ts : List TX) (A : Option Addr) (n c : Nat) (hn : n = ts.length) (hs : s.length ≤ maxLen) (hf : X.Few)
    (hl : (framesB (ts.map TX.l)).length ≤ 1000000000) (hS : TK.See w w.heap.size A ts) (ht : ∀ t ∈ ts, Sees w w.heap.size t.A (t.l.map bv)) (e0 : Int) (Y : DX) (hZ : X.append s (framesB (ts.map TX.l)) = (e0, Y)) :
    Calls Tryd.prog 16 #[.pointer (some ⟨q, 0, none⟩), .slice A n c] w fun e w' => e = .returned (.int .i64 e0) ∧ DkC w0 w' base p Y ∧ Bt true base w w' := by
  subst hn
  refine (logappend_any q base p X s ts A c hs hf hl w hq h.is_ hS ht (h.roots hb hR)).mono ?_
  rw [hZ]
  rintro e w' ⟨he, hd, hbt⟩
  exact ⟨he, h.next hd hbt.lo, hbt⟩
set_option maxRecDepth 100000 in
theorem lgreset_c {w0 w : World} {base p q : Nat} {X : DX} {s : List UInt8} (h : DkC w0 w base p X) (hq : LogW w q p s) (hb : base = w0.heap.size) (hR : Roots w0) (ts : List TX) (A : Option Addr) (n c : Nat) (hn : n = ts.length) (hs : s.length ≤ maxLen) (hf : X.Few)
    (hl : (framesB (ts.map TX.l)).length ≤ 1000000000) (hS : TK.See w w.heap.size A ts) (ht : ∀ t ∈ ts, Sees w w.heap.size t.A (t.l.map bv)) (e0 : Int) (Y : DX) (hZ : X.install s (framesB (ts.map TX.l)) = (e0, Y)) :
    Calls Tryd.prog 21 #[.pointer (some ⟨q, 0, none⟩), .slice A n c] w fun e w' => e = .returned (.int .i64 e0) ∧ DkC w0 w' base p Y ∧ Bt false base w w' := by
  subst hn
  refine (logreset_any q base p X s ts A c hs hf hl w hq h.is_ hS ht (h.roots hb hR)).mono ?_
  rw [hZ]
  rintro e w' ⟨he, hd, hbt⟩
  exact ⟨he, h.next hd hbt.lo, hbt⟩
set_option maxRecDepth 100000 in
theorem lgsync_c {w0 w : World} {base p q : Nat} {X : DX} {s : List UInt8} (h : DkC w0 w base p X) (hq : LogW w q p s) (hs : s.length ≤ maxLen) (hf : X.Few) (e0 : Int) (Y : DX) (hZ : X.sync s = (e0, Y)) :
    Calls Tryd.prog 19 #[.pointer (some ⟨q, 0, none⟩)] w fun e w' => e = .returned (.int .i64 e0) ∧ DkC w0 w' base p Y ∧ Bt false base w w' := by
  refine (logsync_any q base p X s hs hf w hq h.is_).mono ?_
  rw [hZ]
  rintro e w' ⟨he, hd, hbt⟩
  exact ⟨he, h.next hd hbt.lo, hbt⟩
set_option maxRecDepth 100000 in
theorem lgopen_c {w0 w : World} {base p : Nat} {X : DX} (h : DkC w0 w base p X) (hb : base = w0.heap.size) (hR : Roots w0) (s : List UInt8) (hs : s.length ≤ maxLen) (hf : X.Room 2) (L : List (List UInt8)) (Y : DX) (hZ : X.wopen s = (0, L, Y)) :
    Calls Tryd.prog 13 #[.pointer (some ⟨p, 0, none⟩), str s] w fun e w' => ∃ q v ts, e = .returned (.tuple #[.pointer (some ⟨q, 0, none⟩), v, .int .i64 0]) ∧ LogW w' q p s ∧ RecsW w' w.heap.size v ts ∧ ts.map TX.l = L ∧ DkC w0 w' base p Y ∧ Bt false base w w' := by
  refine (walopen_any base p X s hs hf w h.is_ (h.roots hb hR)).mono ?_
  rw [hZ]
  rintro e w' ⟨q, v, ts, he, _, hq, hr, hl, hd, hbt⟩
  exact ⟨q, v, ts, he, hq, hr, hl, h.next hd hbt.lo, hbt⟩
set_option maxRecDepth 100000 in
theorem lgopen_not {w0 w : World} {base p : Nat} {X : DX} (h : DkC w0 w base p X) (hb : base = w0.heap.size) (hR : Roots w0) (s : List UInt8) (hs : s.length ≤ maxLen) (hf : X.Room 2) (r : Int) (hr0 : r ≠ 0) (Y : DX) (hZ : X.wopen s = (r, [], Y)) :
    Calls Tryd.prog 13 #[.pointer (some ⟨p, 0, none⟩), str s] w fun e w' => ∃ v, e = .returned (.tuple #[.pointer none, v, .int .i64 r]) ∧ RecsW w' w.heap.size v [] ∧ DkC w0 w' base p Y ∧ Bt false base w w' := by
  refine (walopen_any base p X s hs hf w h.is_ (h.roots hb hR)).mono ?_
  rw [hZ]
  rintro e w' ⟨q, v, ts, he, _, _, hr, hl, hd, hbt⟩
  obtain rfl : ts = [] := by simpa using hl
  refine ⟨v, ?_, hr, h.next hd hbt.lo, hbt⟩
  rw [he, if_neg hr0]
set_option maxRecDepth 100000 in
theorem dkoff_cb {w0 w : World} {base p : Nat} {X : DX} (h : DkC w0 w base p X) (k : Int) (hk : -9223372036854775808 ≤ k ∧ k < 9223372036854775808) :
    Calls Tryd.prog 23 #[.pointer (some ⟨p, 0, none⟩), .int .i64 k] w fun e w' => e = .returned (.tuple #[]) ∧ DkC w0 w' base p (X.off k) ∧ Bt false base w w' := by
  refine (dkoff_bt base p X k hk w h.is_).mono ?_
  rintro e w' ⟨he, hd, hbl⟩
  exact ⟨he, h.next hd hbl.lo, hbl⟩
set_option maxRecDepth 100000 in
theorem dkon_cb {w0 w : World} {base p : Nat} {X : DX} (h : DkC w0 w base p X) :
    Calls Tryd.prog 25 #[.pointer (some ⟨p, 0, none⟩)] w fun e w' => e = .returned (.tuple #[]) ∧ DkC w0 w' base p X.on ∧ Bt false base w w' := by
  refine (dkon_bt base p X w h.is_).mono ?_
  rintro e w' ⟨he, hd, hbl⟩
  exact ⟨he, h.next hd hbl.lo, hbl⟩
set_option maxRecDepth 100000 in
theorem dkarm_cb {w0 w : World} {base p : Nat} {X : DX} (h : DkC w0 w base p X) (n k : Int) (hn : -9223372036854775808 ≤ n ∧ n < 9223372036854775808) (hk : -9223372036854775808 ≤ k ∧ k < 9223372036854775808) :
    Calls Tryd.prog 26 #[.pointer (some ⟨p, 0, none⟩), .int .i64 n, .int .i64 k] w fun e w' => e = .returned (.tuple #[]) ∧ DkC w0 w' base p (X.arm n k) ∧ Bt false base w w' := by
  refine (dkarm_bt base p X n k hn hk w h.is_).mono ?_
  rintro e w' ⟨he, hd, hbl⟩
  exact ⟨he, h.next hd hbl.lo, hbl⟩

/-! ### A disk with one file -/
set_option maxRecDepth 100000 in
theorem takes_no17 {X : DX} (hd : X.down = false) {m : Int} (h : m ≤ 4194304 - (totF X.fs : Int)) : X.takes m = 0 := by
  unfold DX.takes
  rw [hd, if_neg (by simp), if_neg (by omega)]
abbrev LG : List UInt8 := [108, 111, 103]
abbrev oneX (d : List UInt8) (sf : Nat) (down : Bool) (a f k : Int) : DX := ⟨[⟨LG, d, sf⟩], down, a, f, k⟩
def fuseN (f : Int) : Int := if f = 0 then 0 else f - 1
set_option maxRecDepth 100000 in
theorem one_takes {d : List UInt8} {sf : Nat} {a f k m : Int} (h : (d.length : Int) + m ≤ 4194304) : (oneX d sf false a f k).takes m = 0 := by
  refine takes_no17 rfl ?_
  show m ≤ 4194304 - ((([⟨LG, d, sf⟩] : List FX).map fun f => f.data.length).sum : Int)
  simp
  omega
set_option maxRecDepth 100000 in
theorem one_put (d : List UInt8) (sf : Nat) (g : FX → FX) : putF [⟨LG, d, sf⟩] LG g = [g ⟨LG, d, sf⟩] := by simp [putF, openF, hasF, updF]
set_option maxRecDepth 100000 in
theorem one_append {d l : List UInt8} {sf : Nat} {a f k : Int} (hf : f ≠ 1) (h : d.length + l.length ≤ 4194304) : (oneX d sf false a f k).append LG l = (0, oneX (d ++ l) sf false (a + 1) (fuseN f) k) := by
  have ht : (oneX d sf false a f k).takes (l.length : Int) = 0 := one_takes (by omega)
  have hb : (oneX d sf false a f k).burns = false := decide_eq_false hf
  unfold DX.append
  rw [if_neg (by rw [ht]; simp), hb, if_neg (by simp)]
  have hp := one_put d sf (fun f => ⟨f.name, f.data ++ l, f.safe⟩)
  unfold DX.put DX.tick
  simp only [hp]
  rfl
set_option maxRecDepth 100000 in
theorem one_sync {d : List UInt8} {sf : Nat} {a f k : Int} (hf : f ≠ 1) (h : d.length ≤ 4194304) : (oneX d sf false a f k).sync LG = (0, oneX d d.length false (a + 1) (fuseN f) k) := by
  have ht : (oneX d sf false a f k).takes 0 = 0 := one_takes (by omega)
  have hb : (oneX d sf false a f k).burns = false := decide_eq_false hf
  unfold DX.sync
  rw [if_neg (by rw [ht]; simp), hb, if_neg (by simp)]
  show ((0 : Int), (⟨putF [⟨LG, d, sf⟩] LG _, false, a + 1, fuseN f, k⟩ : DX)) = _
  rw [one_put _ _ _]
set_option maxRecDepth 100000 in
theorem one_read (d : List UInt8) (sf : Nat) (a f k : Int) : (oneX d sf false a f k).read LG = (d, 0) := rfl
set_option maxRecDepth 100000 in
theorem one_few (d : List UInt8) (sf : Nat) (b : Bool) (a f k : Int) (h : 0 ≤ a ∧ a < 1000000) : (oneX d sf b a f k).Few := ⟨h, by show 1 < 1000000; decide⟩
set_option maxRecDepth 100000 in
theorem one_room (d : List UInt8) (sf : Nat) (b : Bool) (a f k : Int) (n : Nat) (h : 0 ≤ a ∧ a + n < 1000000) (hn : n < 900000) : (oneX d sf b a f k).Room n := ⟨h, by show 1 + n < 1000000; omega⟩
set_option maxRecDepth 100000 in
/-- A log that is whole is opened. -/
theorem one_open {d : List UInt8} {sf : Nat} {a f k : Int} (hf : f ≠ 1) (h : d.length ≤ 4194304) (hw : framesB (splitB d) = d) : (oneX d sf false a f k).wopen LG = (0, splitB d, oneX d d.length false (a + 1) (fuseN f) k) := by
  have hr := one_read d sf a f k
  unfold DX.wopen
  rw [hr]
  simp only
  rw [if_neg (by decide), if_neg (by simp), hw, if_neg (show ¬ d.length < d.length by omega)]
  show (if (0 : Int) ≠ 0 then _ else if ((oneX d sf false a f k).sync LG).1 ≠ 0 then _ else _) = _
  rw [if_neg (by simp), one_sync hf h]
  rfl
set_option maxRecDepth 100000 in
theorem new_open (s : List UInt8) (a f k : Int) : (⟨[], false, a, f, k⟩ : DX).wopen s = (0, [], ⟨[], false, a, f, k⟩) := rfl
set_option maxRecDepth 100000 in
theorem new_append {l : List UInt8} {a f k : Int} (hf : f ≠ 1) (h : l.length ≤ 4194304) : (⟨[], false, a, f, k⟩ : DX).append LG l = (0, oneX l 0 false (a + 1) (fuseN f) k) := by
  have ht : (⟨[], false, a, f, k⟩ : DX).takes (l.length : Int) = 0 := takes_no17 rfl (by show (l.length : Int) ≤ 4194304 - ((0 : Nat) : Int); omega)
  have hb : (⟨[], false, a, f, k⟩ : DX).burns = false := decide_eq_false hf
  unfold DX.append
  rw [if_neg (by rw [ht]; simp), hb, if_neg (by simp)]
  rfl
set_option maxRecDepth 100000 in
theorem one_off {d : List UInt8} {sf : Nat} {a f k : Int} (k' : Int) (h : sf ≤ d.length) : ∃ c, sf ≤ c ∧ c ≤ d.length ∧ (k' ≤ 0 → c = sf) ∧ (oneX d sf false a f k).off k' = oneX (d.take c) c true a 0 k := by
  refine ⟨keptF k' ⟨LG, d, sf⟩, (keptF_le (k := k') (f := ⟨LG, d, sf⟩) h).1, (keptF_le (k := k') (f := ⟨LG, d, sf⟩) h).2, fun hk => ?_, rfl⟩
  unfold keptF
  simp only
  omega
end Go.Proofs.YtapdnoellleimaaDoor

namespace Go.Proofs.YtapdnoellleimaaDoor
open Go.RowKit Go.Maps

set_option maxRecDepth 100000 in
/-- A marked row of bytes. -/
theorem row_mark (w : World) (l : List UInt8) (c : Nat) (fr : Nat × Nat) (hw : World) (h : Below (w.heap.size + 1) (w.alloc (.cells (l.map bv).toArray 5 fr)) hw) : RowB hw w.heap.size ⟨some ⟨w.heap.size, 0, none⟩, l, c⟩ :=
  ⟨w.heap.size, _, fr, rfl, Nat.le_refl _, (h.block _ (Nat.lt_succ_self _)).trans (heap_alloc_new w _), fun j u hu => by simpa using hu⟩
set_option maxRecDepth 100000 in
theorem RecsW.see {w : World} {base : Nat} {v : Value} {ts : List TX} (h : RecsW w base v ts) : ∃ A c, v = .slice A ts.length c ∧ TK.See w w.heap.size A ts ∧ ∀ t ∈ ts, Sees w w.heap.size t.A (t.l.map bv) := by
  obtain ⟨A, c, e⟩ := h.own.slice
  subst e
  exact ⟨A, c, rfl, h.own.see, fun t ht => (h.rows t ht).sees⟩
set_option maxRecDepth 100000 in
/-- Records that a literal has laid. -/
theorem TK_lit {w wr : World} (ts : List TX) (h : Below (w.heap.size + 1) (w.alloc (.cells (TK.flat ts).toArray 22)) wr) (h2 : w.heap.size < wr.heap.size) : TK.See wr wr.heap.size (some ⟨w.heap.size, 0, none⟩) ts := by
  have hb : Box (w.alloc (.cells (TK.flat ts).toArray 22)) w.heap.size 22 (TK.flat ts).toArray := Box.made _ _ _
  exact Sees.of_box (hb.below h (Nat.lt_succ_self _)) h2

set_option maxRecDepth 100000 in
theorem const_two (w : World) (C C' : Array Value) (fr : Nat × Nat) (n c : Nat) : (convert 22 22 (.slice (some ⟨w.heap.size + 1, 0, none⟩) n c)).run Tryd.prog ((w.alloc (.cells C' 5 fr)).alloc (.cells C 5)) = .ok (.slice (some ⟨w.heap.size + 1, 0, none⟩) n c) ((w.alloc (.cells C' 5 fr)).alloc (.cells C 5 (C.size, C.size + 1))) := by
  have h := Lib.run_convert_bytes_const (P := Tryd.prog) (w.alloc (.cells C' 5 fr)) 22 5 C n c Tryd.underlying22 Tryd.underlying5
  have hs : (w.alloc (.cells C' 5 fr)).heap.size = w.heap.size + 1 := by simp
  rw [hs] at h
  exact h
def alF : List UInt8 := framesB [[97], [98]]
def alG : List UInt8 := framesB [[99]]
set_option maxRecDepth 100000 in
theorem alF_len : alF.length = 26 := by
  unfold alF
  rw [framesB_cons, framesB_cons, List.length_append, List.length_append, frameB_len, frameB_len]
  rfl
set_option maxRecDepth 100000 in
theorem alG_len : alG.length = 13 := by
  unfold alG
  rw [framesB_cons, List.length_append, frameB_len]
  rfl
set_option maxRecDepth 100000 in
theorem alF_split : splitB alF = [[97], [98]] := splitB_all _ (by decide)
set_option maxRecDepth 100000 in
theorem al17_2 : newX.append LG alF = (0, oneX alF 0 false 1 0 0) := new_append (by decide) (by rw [alF_len]; decide)
set_option maxRecDepth 100000 in
theorem al17_3 : (oneX alF 0 false 1 0 0).sync LG = (0, oneX alF 26 false 2 0 0) := by
  have h := one_sync (d := alF) (sf := 0) (a := 1) (f := 0) (k := 0) (by decide) (by rw [alF_len]; decide)
  rw [alF_len] at h
  exact h
set_option maxRecDepth 100000 in
theorem al17_4 : (oneX alF 26 false 2 0 0).append LG alG = (0, oneX (alF ++ alG) 26 false 3 0 0) := one_append (by decide) (by rw [alF_len, alG_len]; decide)
set_option maxRecDepth 100000 in
theorem al17_5 : (oneX (alF ++ alG) 26 false 3 0 0).off 0 = oneX alF 26 true 3 0 0 := by
  obtain ⟨c, _, _, hc, h⟩ := one_off (d := alF ++ alG) (sf := 26) (a := 3) (f := 0) (k := 0) 0 (by rw [List.length_append, alF_len]; omega)
  rw [hc (Int.le_refl _)] at h
  rw [h, List.take_left' alF_len]
set_option maxRecDepth 100000 in
theorem al17_6 : (oneX alF 26 true 3 0 0).on = oneX alF 26 false 3 0 0 := rfl
set_option maxRecDepth 100000 in
theorem al17_7 : (oneX alF 26 false 3 0 0).wopen LG = (0, [[97], [98]], oneX alF 26 false 4 0 0) := by
  have h := one_open (d := alF) (sf := 26) (a := 3) (f := 0) (k := 0) (by decide) (by rw [alF_len]; decide) (by rw [alF_split]; rfl)
  rw [alF_split, alF_len] at h
  exact h
set_option maxRecDepth 100000 in
theorem LG_small : LG.length ≤ maxLen := by decide

set_option maxRecDepth 100000 in
theorem al17_lit {w0 w : World} {base p q : Nat} (h : DkC w0 w base p (oneX alF 26 false 2 0 0)) (hq : LogW w q p LG) (hb : base = w0.heap.size) (hR : Roots w0) (wD : World) (hwD : wD = (w.alloc (.cells #[.int .u8 99] 5 (1, 2))).alloc (.cells #[.slice (some ⟨w.heap.size, 0, none⟩) 1 1] 22)) :
    Calls Tryd.prog 16 #[.pointer (some ⟨q, 0, none⟩), .slice (some ⟨w.heap.size + 1, 0, none⟩) 1 1] wD fun e w' => e = .returned (.int .i64 0) ∧ DkC w0 w' base p (oneX (alF ++ alG) 26 false 3 0 0) ∧ Bt true base wD w' := by
  have hbC : Below w.heap.size w wD := by rw [hwD]; exact ((Below.refl _ _).alloc (Nat.le_refl _) _).alloc (by simp) _
  have hCs : wD.heap.size = w.heap.size + 2 := by rw [hwD]; simp
  have hC1 : RowB wD w.heap.size ⟨some ⟨w.heap.size, 0, none⟩, [99], 1⟩ := row_mark w [99] 1 (1, 2) wD (by rw [hwD]; exact (Below.refl _ _).alloc (by simp) _)
  have hC3 : TK.See wD wD.heap.size (some ⟨w.heap.size + 1, 0, none⟩) [⟨some ⟨w.heap.size, 0, none⟩, [99], 1⟩] := by
    have h := TK_lit (w := w.alloc (.cells #[.int .u8 99] 5 (1, 2))) (wr := wD) [⟨some ⟨w.heap.size, 0, none⟩, [99], 1⟩] (by rw [hwD]; exact Below.refl _ _) (by rw [hCs]; simp)
    simpa using h
  exact lgappend_c (h.call hbC) (hq.call hbC) hb hR [⟨some ⟨w.heap.size, 0, none⟩, [99], 1⟩] (some ⟨w.heap.size + 1, 0, none⟩) 1 1 rfl LG_small ⟨by decide, by decide⟩ (by show alG.length ≤ _; rw [alG_len]; decide) hC3 (by
    intro t ht
    rw [List.mem_singleton.1 ht]
    exact hC1.sees) 0 _ al17_4
set_option maxRecDepth 100000 in
set_option maxHeartbeats 2000000 in
theorem alive_any17 (w : World) (hR : Roots w) : Calls Tryd.prog 8 #[] w fun e w' => e = .returned (.bool true) ∧ Below w.heap.size w w' := by
  obtain ⟨base, hbase⟩ : ∃ base, base = w.heap.size := ⟨_, rfl⟩
  have HN := Lib.hid (dknew_c w base hbase)
  have HBB := Lib.hid hbase
  have HRR := Lib.hid hR
  rw [← hbase]
  clear hbase hR
  have kc := fun (w : World) (C : Array Value) (n c : Nat) => Lib.run_convert_bytes_const (P := Tryd.prog) w 22 5 C n c Tryd.underlying22 Tryd.underlying5
  have kc2 := fun (w : World) (C C' : Array Value) (fr : Nat × Nat) (n c : Nat) => const_two w C C' fr n c
  go_enter Tryd.func8, Tryd.ntmps8
  go_upto_region 2 with (go_at_call 10; (with_reducible refine (HN.out).mono ?_); rintro e w1 ⟨p, rfl, hd⟩; have HO2 := Lib.hid (lgopen_c hd HBB.out HRR.out LG LG_small ⟨by decide, by decide⟩ [] newX (new_open LG 0 0 0)); clear hd)
  go_upto_region 3 with (go_at_call 13; (with_reducible refine (HO2.out).mono ?_); rintro e w2 ⟨q, v, ts, rfl, hq, _, _, hd, _⟩)
  obtain ⟨wC, hwC⟩ : ∃ wC, wC = ((w2.alloc (.cells #[.int .u8 97] 5 (1, 2))).alloc (.cells #[.int .u8 98] 5 (1, 2))).alloc (.cells #[.slice (some ⟨w2.heap.size, 0, none⟩) 1 1, .slice (some ⟨w2.heap.size + 1, 0, none⟩) 1 1] 22) := ⟨_, rfl⟩
  have hbC : Below w2.heap.size w2 wC := by rw [hwC]; exact (((Below.refl _ _).alloc (Nat.le_refl _) _).alloc (by simp) _).alloc (by simp; omega) _
  have hCs : wC.heap.size = w2.heap.size + 3 := by rw [hwC]; simp
  have hC1 : RowB wC w2.heap.size ⟨some ⟨w2.heap.size, 0, none⟩, [97], 1⟩ := row_mark w2 [97] 1 (1, 2) wC (by rw [hwC]; exact ((Below.refl _ _).alloc (by simp) _).alloc (by simp) _)
  have hC2 : RowB wC (w2.heap.size + 1) ⟨some ⟨w2.heap.size + 1, 0, none⟩, [98], 1⟩ := by
    have h := row_mark (w2.alloc (.cells #[.int .u8 97] 5 (1, 2))) [98] 1 (1, 2) wC (by rw [hwC]; exact (Below.refl _ _).alloc (by simp) _)
    simpa using h
  have hC3 : TK.See wC wC.heap.size (some ⟨w2.heap.size + 2, 0, none⟩) [⟨some ⟨w2.heap.size, 0, none⟩, [97], 1⟩, ⟨some ⟨w2.heap.size + 1, 0, none⟩, [98], 1⟩] := by
    have h := TK_lit (w := (w2.alloc (.cells #[.int .u8 97] 5 (1, 2))).alloc (.cells #[.int .u8 98] 5 (1, 2))) (wr := wC) [⟨some ⟨w2.heap.size, 0, none⟩, [97], 1⟩, ⟨some ⟨w2.heap.size + 1, 0, none⟩, [98], 1⟩] (by rw [hwC]; exact Below.refl _ _) (by rw [hCs]; simp)
    simpa using h
  have HA := Lib.hid (lgappend_c (hd.call hbC) (hq.call hbC) HBB.out HRR.out [⟨some ⟨w2.heap.size, 0, none⟩, [97], 1⟩, ⟨some ⟨w2.heap.size + 1, 0, none⟩, [98], 1⟩] (some ⟨w2.heap.size + 2, 0, none⟩) 2 2 rfl LG_small ⟨by decide, by decide⟩ (by show alF.length ≤ _; rw [alF_len]; decide) hC3 (by
    intro t ht
    rcases List.mem_cons.1 ht with rfl | ht
    · exact hC1.sees
    · rw [List.mem_singleton.1 ht]
      exact hC2.sees) 0 (oneX alF 0 false 1 0 0) al17_2)
  have HQC := Lib.hid (hq.call hbC)
  clear hd hq hC1 hC2 hC3 hbC hCs
  go_upto_region 5 with (first
    | (rw [← hwC]; go_at_call 16; (with_reducible refine (HA.out).mono ?_); rintro e w3 ⟨rfl, hd3, hb3⟩; clear hwC HA; have HQ3 := Lib.hid (HQC.out.bt hb3); have HS3 := Lib.hid (lgsync_c hd3 HQ3.out LG_small ⟨by decide, by decide⟩ 0 _ al17_3); clear hd3 hb3)
    | (go_at_call 19; (with_reducible refine (HS3.out).mono ?_); rintro e w4 ⟨rfl, hd4, hb4⟩; have HQ4 := Lib.hid (HQ3.out.bt hb4); have HD4 := Lib.hid hd4; clear hd4 hb4; obtain ⟨wD, hwD⟩ : ∃ wD, wD = (w4.alloc (.cells #[.int .u8 99] 5 (1, 2))).alloc (.cells #[.slice (some ⟨w4.heap.size, 0, none⟩) 1 1] 22) := ⟨_, rfl⟩; have HA4 := Lib.hid (al17_lit HD4.out HQ4.out HBB.out HRR.out wD hwD))
    | (rw [← hwD]; go_at_call 16; (with_reducible refine (HA4.out).mono ?_); rintro e w5 ⟨rfl, hd5, hb5⟩; clear hwD; have HD5 := Lib.hid hd5; clear hd5 hb5))
  have HF6 := dkoff_cb HD5.out 0 (by decide)
  rw [al17_5] at HF6
  have HF6 := Lib.hid HF6
  clear kc kc2
  go_upto_region 7 with (first
    | (go_at_call 23; (with_reducible refine (HF6.out).mono ?_); rintro e w6 ⟨rfl, hd6, _⟩; have hf7 := dkon_cb hd6; rw [al17_6] at hf7; have HF7 := Lib.hid hf7; clear hf7 hd6)
    | (go_at_call 25; (with_reducible refine (HF7.out).mono ?_); rintro e w7 ⟨rfl, hd7, _⟩; have HO8 := Lib.hid (lgopen_c hd7 HBB.out HRR.out LG LG_small ⟨by decide, by decide⟩ _ _ al17_7); clear hd7))
  go_upto_region 8 with (go_at_call 13; (with_reducible refine (HO8.out).mono ?_); rintro e w8 ⟨q8, v8, ts8, rfl, _, hr8, hl8, hd8, _⟩)
  obtain ⟨A8, c8, rfl, hs8, hq8⟩ := hr8.see
  have hn8 : ts8.length = 2 := by
    have := congrArg List.length hl8
    simpa using this
  obtain ⟨w9, hw9⟩ : ∃ w9, w9 = w8.alloc (.cells #[str [97], str [98]] 9) := ⟨_, rfl⟩
  have hb9 : Below w8.heap.size w8 w9 := by rw [hw9]; exact (Below.refl _ _).alloc (Nat.le_refl _) _
  have hss : SK.See w9 w9.heap.size (some ⟨w8.heap.size, 0, none⟩) [⟨#[97]⟩, ⟨#[98]⟩] := by
    have hb : Box w9 w8.heap.size 9 #[str [97], str [98]] := by rw [hw9]; exact Box.made _ _ _
    have h := Sees.of_box hb hb.lt
    exact h
  have HSM := same_true17 ts8 A8 c8 [⟨#[97]⟩, ⟨#[98]⟩] (some ⟨w8.heap.size, 0, none⟩) 2 2 rfl (by rw [hl8]; rfl) (by omega) w9 (EK.See.far hs8 hb9) (fun t ht => ((hq8 t ht).below hb9).more hb9.size) hss
  rw [hn8] at HSM ⊢
  have HSM := Lib.hid HSM
  have HBF : Hid (Below base w w9) := Lib.hid (hd8.below.trans (hb9.mono hd8.size))
  have HSZ : Hid (base ≤ w9.heap.size) := Lib.hid (Nat.le_trans hd8.size hb9.size)
  clear hs8 hq8 hn8 hb9 hss hl8 hr8 hd8
  go_wp2_with (rw [← hw9]; go_at_call 15; (with_reducible refine (HSM.out).mono ?_); rintro e w10 ⟨rfl, hb10⟩)
  go_ret
  exact ⟨rfl, HBF.out.trans (hb10.mono HSZ.out)⟩
end Go.Proofs.YtapdnoellleimaaDoor
