/-
  (*vote.Box).Reached: the greatest round in which, or behind which, so many members voted.
  What the laws of layer 13 ask first: that a vote is made, signed, right, and counted once (wapentakelaw13.alive). Written by gen_voalive.py.
  VoteGrows: the walk.
-/
import Derived.Test.YtadnnnbdlkjnkaaGreatDoorVC
import Derived.Test.YtadnnnbdlkjnkaaGreatDoorVD
import Derived.Test.YtadnnnbdlkjnkaaGreatDoorKD
import Derived.Test.YtadnnnbdlkjnkaaGreatDoorNC
import Derived.Deep.RegionHeld3
namespace Go.Proofs.YtadnnnbdlkjnkaaGreatDoor
open Go.RowKit Go.Maps Go.Sort

/-! ### On plain lists -/
/-- The greatest round that so many reached; -1: none. -/
def ReachIs (xs : List VtX) (n z : Int) : Prop :=
  (z = -1 ∧ ∀ x ∈ xs, ¬ (1 ≤ n ∧ n ≤ (votN xs x.round : Int))) ∨
  (∃ x ∈ xs, x.round = z ∧ 1 ≤ n ∧ n ≤ (votN xs z : Int) ∧ ∀ y ∈ xs, n ≤ (votN xs y.round : Int) → y.round ≤ z)
set_option maxRecDepth 100000 in
theorem ReachIs.uniq {xs : List VtX} {n z z' : Int} (h : ReachIs xs n z) (h' : ReachIs xs n z') : z = z' := by
  rcases h with ⟨rfl, h1⟩ | ⟨x, hx, rfl, h2, h3, h4⟩ <;> rcases h' with ⟨rfl, k1⟩ | ⟨y, hy, rfl, k2, k3, k4⟩
  · rfl
  · exact absurd ⟨k2, k3⟩ (h1 y hy)
  · exact absurd ⟨h2, h3⟩ (k1 x hx)
  · have := h4 y hy k3
    have := k4 x hx h3
    omega
set_option maxRecDepth 100000 in
theorem sorted_suffix {zs : List Int} (hs : zs.Pairwise (· ≤ ·)) {k : Nat} (hk : k < zs.length) (t : Int) : (t ≤ zs[k] → zs.length - k ≤ (zs.filter fun z => decide (t ≤ z)).length) ∧ (zs[k] < t → (zs.filter fun z => decide (t ≤ z)).length ≤ zs.length - k - 1) := by
  rw [List.pairwise_iff_getElem] at hs
  constructor
  · intro ht
    have h1 : ((zs.drop k).filter fun z => decide (t ≤ z)) = zs.drop k := List.filter_eq_self.2 fun z hz => by
      obtain ⟨j, hj, rfl⟩ := List.mem_iff_getElem.1 hz
      rw [List.length_drop] at hj
      rw [List.getElem_drop]
      rcases Nat.eq_zero_or_pos j with rfl | hj0
      · simpa using ht
      · have := hs k (k + j) hk (by omega) (by omega)
        exact decide_eq_true (by omega)
    have h2 : zs.filter (fun z => decide (t ≤ z)) = (zs.take k).filter (fun z => decide (t ≤ z)) ++ (zs.drop k).filter (fun z => decide (t ≤ z)) := by
      rw [← List.filter_append, List.take_append_drop]
    rw [h2, h1, List.length_append, List.length_drop]
    omega
  · intro ht
    have h1 : ((zs.take (k + 1)).filter fun z => decide (t ≤ z)) = [] := List.filter_eq_nil_iff.2 fun z hz => by
      obtain ⟨j, hj, rfl⟩ := List.mem_iff_getElem.1 hz
      rw [List.length_take] at hj
      rw [List.getElem_take]
      have h3 : zs[j]'(by omega) ≤ zs[k] := by
        rcases Nat.lt_or_ge j k with h | h
        · exact hs j k (by omega) hk h
        · have : j = k := by omega
          subst this
          exact Int.le_refl _
      simp only [decide_eq_true_eq]
      omega
    have h2 : zs.filter (fun z => decide (t ≤ z)) = (zs.take (k + 1)).filter (fun z => decide (t ≤ z)) ++ (zs.drop (k + 1)).filter (fun z => decide (t ≤ z)) := by
      rw [← List.filter_append, List.take_append_drop]
    rw [h2, h1, List.nil_append]
    have h4 := List.length_filter_le (fun z => decide (t ≤ z)) (zs.drop (k + 1))
    rw [List.length_drop] at h4
    omega
set_option maxRecDepth 100000 in
theorem reach_is {xs : List VtX} {ls : List (ZX × Value)} (h : LastQ (xs.map prX) ls) (hn : (ls.map Prod.fst).Nodup) (hx : ∀ x ∈ xs, 1 ≤ x.frm ∧ x.frm ≤ 63) (n : Int) :
    (1 ≤ n → n ≤ (ls.length : Int) → ∃ z, (srt (ls.map fun e => valOf e.2))[ls.length - n.toNat]? = some z ∧ ReachIs xs n z) ∧ (¬ (1 ≤ n ∧ n ≤ (ls.length : Int)) → ReachIs xs n (-1)) := by
  obtain ⟨zs, hzs⟩ : ∃ zs, zs = srt (ls.map fun e => valOf e.2) := ⟨_, rfl⟩
  have hperm : zs.Perm (ls.map fun e => valOf e.2) := by rw [hzs]; exact srt_perm _
  have hsort : zs.Pairwise (· ≤ ·) := by rw [hzs]; exact srt_sorted _
  have hlen : zs.length = ls.length := by rw [hperm.length_eq, List.length_map]
  have hcount : ∀ t, (zs.filter fun z => decide (t ≤ z)).length = votN xs t := fun t => by
    rw [← late_count h hn hx t, (hperm.filter _).length_eq, List.filter_map, List.length_map]
    rfl
  constructor
  · intro h1 h2
    have hk : ls.length - n.toNat < zs.length := by omega
    obtain ⟨z, hz⟩ : ∃ z, z = zs[ls.length - n.toNat] := ⟨_, rfl⟩
    refine ⟨z, by rw [← hzs, List.getElem?_eq_getElem hk, hz], .inr ?_⟩
    have hmem : z ∈ ls.map fun e => valOf e.2 := hperm.mem_iff.1 (by rw [hz]; exact List.getElem_mem hk)
    obtain ⟨e, he, e1⟩ := List.mem_map.1 hmem
    obtain ⟨r, h3, h4, _⟩ := h.val e he
    obtain ⟨x, hx1, e2⟩ := List.mem_map.1 h4
    unfold prX at e2
    simp only [Prod.mk.injEq] at e2
    have hzr : x.round = z := by
      rw [e2.2, ← e1, h3]
      rfl
    refine ⟨x, hx1, hzr, h1, ?_, fun y hy hny => ?_⟩
    · have := (sorted_suffix hsort hk z).1 (by rw [hz]; exact Int.le_refl _)
      rw [hcount] at this
      omega
    · by_cases hle : y.round ≤ z
      · exact hle
      · have := (sorted_suffix hsort hk y.round).2 (by rw [← hz]; omega)
        rw [hcount] at this
        omega
  · intro h1
    refine .inl ⟨rfl, fun x hx1 h2 => h1 ⟨h2.1, ?_⟩⟩
    have h3 := hcount x.round
    have h4 := List.length_filter_le (fun z => decide (x.round ≤ z)) zs
    omega

set_option maxRecDepth 100000 in
set_option maxHeartbeats 4000000 in
theorem reached_any (pv mv : Option Nat) (vs : List VtM) (n : Int) (hl : vs.length < 1000000) (w : World) (hB : BoxOr w pv mv vs) :
    Calls Tryz.prog 15 #[ptrO pv, .int .i64 n] w fun e w' => ∃ z, e = .returned (.int .i64 z) ∧ ReachIs (vs.map VtM.x) n z ∧ Below w.heap.size w w' := by
  have HLS := Lib.hid (last_any pv mv vs hl (fun m hm => (hB.ok m hm).1.low) w hB)
  have HG : Hid (∀ x ∈ vs.map VtM.x, 1 ≤ x.frm ∧ x.frm ≤ 63) := Lib.hid (fun x hx => by
    obtain ⟨m, hm, rfl⟩ := List.mem_map.1 hx
    exact ⟨(hB.ok m hm).1.one, (hB.ok m hm).1.most⟩)
  have HL := Lib.hid hl
  obtain ⟨pp, hpp⟩ : ∃ pp, pp = ptrO pv := ⟨_, rfl⟩
  rw [← hpp] at HLS ⊢
  clear hpp hl hB
  go_enter Tryz.func15, Tryz.ntmps15
  go_upto_region 2 with (first
    | (go_at_call 28; (with_reducible refine (HLS.out).mono ?_); rintro e w2 ⟨mb, ls, rfl, hm2, hq2, hl2, hb2⟩; have HM2 := Lib.hid hm2; have HQ2 := Lib.hid hq2; have HL2 := Lib.hid hl2; have HF2 := Lib.hid hb2; clear hm2 hq2 hl2 hb2)
    | (go_at_call 30; (with_reducible refine (values_any _ _).mono ?_); rintro e w3 ⟨rfl, hw3⟩; have HB3 : Hid (Box w3 w2.heap.size 74 #[.map (some mb)]) := Lib.hid (by rw [hw3]; exact Box.made _ _ _); have HF3 : Hid (Below w2.heap.size w2 w3) := Lib.hid (by rw [hw3]; exact (Below.refl _ _).alloc (Nat.le_refl _) _); have HS3 := Lib.hid (sorted_vals w2.heap.size mb ls (by have := HL2.out; have := HL.out; omega) w3 HB3.out.lt (HB3.out.cell 0) (HM2.out.call HF3.out) (fun e he => by obtain ⟨r, h1, _⟩ := HQ2.out.val e he; exact ⟨r, h1⟩)); clear hw3)
    | (go_at_call 29; (with_reducible refine (HS3.out).mono ?_); rintro e w4 ⟨v4, rfl, ho4, hb4⟩; have HO4 := Lib.hid ho4; have HF4 := Lib.hid ((HF2.out.trans (HF3.out.mono HF2.out.size)).trans (hb4.mono (Nat.le_trans HF2.out.size HF3.out.size))); clear ho4 hb4))
  have HRI := Lib.hid (reach_is HQ2.out HM2.out.keys HG.out n)
  obtain ⟨A, c, rfl⟩ := HO4.out.slice
  have hzl : (srt (ls.map fun e => valOf e.2)).length = ls.length := by rw [srt_len, List.length_map]
  have HZL := Lib.hid hzl
  rw [hzl] at HO4 ⊢
  have HVW := Lib.hid (fun w => vwithin_any n 1 (ls.length : Int) w)
  have HSE := Lib.hid (EK.Own.see HO4.out)
  clear HLS HB3 HF3 HS3 HM2 HQ2 HG HF2
  by_cases h1 : 1 ≤ n ∧ n ≤ (ls.length : Int)
  · have hr : rqIn n 1 (ls.length : Int) = true := by unfold rqIn; simp [h1.1, h1.2]
    rw [hr] at HVW
    obtain ⟨z, hz, hR⟩ := HRI.out.1 h1.1 h1.2
    have HR := Lib.hid hR
    have wk : IntKind.i64.wrap ((ls.length : Int) - n) = ((ls.length - n.toNat : Nat) : Int) := by
      rw [IntKind.wrap_i64]
      have := HL.out
      have := HL2.out
      omega
    obtain ⟨g, o, rfl, hg, hrg⟩ := EK.See.range HSE.out (i := ls.length - n.toNat) (by have := HZL.out; omega)
    have hc : w4.cell? ⟨g, o + (ls.length - n.toNat), none⟩ = some (.int .i64 z) := by
      have h2 : w4.cell? ⟨g, o + (ls.length - n.toNat) * 1 + 0, none⟩ = some (.int .i64 z) := hrg (ls.length - n.toNat) (by have := HZL.out; omega) 0 (.int .i64 z) (by
        rw [List.getElem?_eq_getElem (by have := HZL.out; omega)] at hz
        injection hz with hz
        rw [hz]
        rfl)
      rw [Nat.mul_one] at h2
      exact h2
    have i1 : ((ls.length - n.toNat : Nat) : Int) < (ls.length : Int) := by omega
    have i0 : (0 : Int) ≤ ((ls.length - n.toNat : Nat) : Int) := by omega
    clear hr hR hz hrg HSE HO4 hzl
    go_wp2_with (go_at_call 31; (with_reducible refine (HVW.out _).mono ?_); rintro e w5 ⟨rfl, rfl⟩)
    go_ret
    exact ⟨z, rfl, HR.out, HF4.out⟩
  · have hr : rqIn n 1 (ls.length : Int) = false := by
      unfold rqIn
      by_cases h2 : 1 ≤ n
      · have h3 : ¬ n ≤ (ls.length : Int) := fun h3 => h1 ⟨h2, h3⟩
        rw [decide_eq_false h3, Bool.and_false]
      · rw [decide_eq_false h2, Bool.false_and]
    rw [hr] at HVW
    have HR := Lib.hid (HRI.out.2 h1)
    clear hr hzl HSE HO4
    go_wp2_with (go_at_call 31; (with_reducible refine (HVW.out _).mono ?_); rintro e w5 ⟨rfl, rfl⟩)
    go_ret
    exact ⟨-1, rfl, HR.out, HF4.out⟩
end Go.Proofs.YtadnnnbdlkjnkaaGreatDoor

namespace Go.Proofs.YtadnnnbdlkjnkaaGreatDoor
open Go.RowKit Go.Maps Go.Sort

noncomputable def bdVt (parts : Array (Nat × Value)) : Sem Value := Instr.build 37 parts
set_option maxRecDepth 100000 in
theorem bdVt_def (parts : Array (Nat × Value)) : Instr.build 37 parts = bdVt parts := rfl
noncomputable def bdDg (parts : Array (Nat × Value)) : Sem Value := Instr.build 24 parts
set_option maxRecDepth 100000 in
theorem bdDg_def (parts : Array (Nat × Value)) : Instr.build 24 parts = bdDg parts := rfl
noncomputable def bdCf (parts : Array (Nat × Value)) : Sem Value := Instr.build 64 parts
set_option maxRecDepth 100000 in
theorem bdCf_def (parts : Array (Nat × Value)) : Instr.build 64 parts = bdCf parts := rfl
noncomputable def stSg (p v : Value) : Sem Unit := Instr.storeAt 35 p v
set_option maxRecDepth 100000 in
theorem stSg_def (p v : Value) : Instr.storeAt 35 p v = stSg p v := rfl
def aliveX : VtX := ⟨1, 0, 1, 0, zeros, 1, 0, [], [], [], rfl⟩
def aliveM : VtM := ⟨aliveX, none, 0, none, 0, none, 0⟩
set_option maxRecDepth 100000 in
theorem alive_cells13 : aliveM.cells.toArray = #[.int .i64 1, .int .i64 0, .int .i64 1, .int .i64 0, .int .u8 0, .int .u8 0, .int .u8 0, .int .u8 0, .int .u8 0, .int .u8 0, .int .u8 0, .int .u8 0, .int .u8 0, .int .u8 0, .int .u8 0, .int .u8 0, .int .u8 0, .int .u8 0, .int .u8 0, .int .u8 0, .int .u8 0, .int .u8 0, .int .u8 0, .int .u8 0, .int .u8 0, .int .u8 0, .int .u8 0, .int .u8 0, .int .u8 0, .int .u8 0, .int .u8 0, .int .u8 0, .int .u8 0, .int .u8 0, .int .u8 0, .int .u8 0, .int .i64 1, .int .i64 0, .slice none 0 0, .slice none 0 0, .slice none 0 0] := rfl
set_option maxRecDepth 100000 in
theorem bd_alive (w : World) : (bdVt #[(0, .int .i64 1), (2, .int .i64 1), (5, .int .i64 1)]).run Tryz.prog w = .ok (.agg aliveM.cells.toArray) w := run_build w _ _ _ (by kernel_rfl)
set_option maxRecDepth 100000 in
theorem bd_dg1 (w : World) : (bdDg #[(0, .int .u8 1)]).run Tryz.prog w = .ok (.agg (oneSeed.map bv).toArray) w := run_build w _ _ _ (by kernel_rfl)
set_option maxRecDepth 100000 in
theorem bd_dg0 (w : World) : (bdDg #[]).run Tryz.prog w = .ok (.agg (zeros.map bv).toArray) w := run_build w _ _ _ (by kernel_rfl)
set_option maxRecDepth 100000 in
theorem bd_cf1 (A : Option Addr) (n c : Nat) (w : World) : (bdCf #[(1, .slice A n c)]).run Tryz.prog w = .ok (.agg (cfgV 0 A n c)) w := run_build w _ _ _ (by kernel_rfl)
set_option maxRecDepth 100000 in
theorem voteD_eq {x y : VtX} (h1 : x.kind = y.kind) (h2 : x.epoch = y.epoch) (h3 : x.height = y.height) (h4 : x.round = y.round) (h5 : x.frm = y.frm) (h6 : x.dig = y.dig) : voteD x = voteD y := by
  unfold voteD headB
  rw [h1, h2, h3, h4, h5, h6]
def aliveN (X Y P : List (List UInt8)) (g1 g2 : Nat) (C : Option Addr) (c : Nat) : VtM := ⟨⟨1, 0, 1, 0, zeros, 1, 0, X, Y, P, rfl⟩, some ⟨g1, 0, none⟩, 32, some ⟨g2, 0, none⟩, 32, C, c⟩
set_option maxRecDepth 100000 in
theorem aliveN_ok {X Y P : List (List UInt8)} {g1 g2 : Nat} {C : Option Addr} {c : Nat} (hx : X.length = 32) (hy : Y.length = 32) (hp : P.length ≤ 200) :
    VOk (aliveN X Y P g1 g2 C c).x ∧ VFew (aliveN X Y P g1 g2 C c).x ∧ vGood (aliveN X Y P g1 g2 C c).x = true ∧ voteD (aliveN X Y P g1 g2 C c).x = voteD aliveX ∧ (aliveN X Y P g1 g2 C c).x.dig = zeros :=
  ⟨⟨show (Lit.int .i64 1).wf = true by decide, show (Lit.int .i64 0).wf = true by decide, show (Lit.int .i64 1).wf = true by decide, show (0 : Int) ≤ 0 by decide, show (1 : Int) ≤ 1 by decide, show (1 : Int) ≤ 63 by decide⟩, ⟨by show X.length ≤ 200; rw [hx]; decide, by show Y.length ≤ 200; rw [hy]; decide, hp⟩,
    show (rqIn 1 1 2 && rqIn 0 0 1073741824 && rqIn 1 1 1024 && rqIn 0 0 1024 && rqIn 1 1 63) = true by decide, voteD_eq rfl rfl rfl rfl rfl rfl, rfl⟩
set_option maxRecDepth 100000 in
theorem aliveN_sg (X Y P : List (List UInt8)) (g1 g2 : Nat) (C : Option Addr) (c : Nat) : (aliveN X Y P g1 g2 C c).sg.n = 0 ∧ (aliveN X Y P g1 g2 C c).sg.X = X ∧ (aliveN X Y P g1 g2 C c).sg.Y = Y ∧ (aliveN X Y P g1 g2 C c).sg.P = P ∧ (aliveN X Y P g1 g2 C c).x.epoch = 0 ∧ (aliveN X Y P g1 g2 C c).x.frm = 1 ∧ (aliveN X Y P g1 g2 C c).x.kind = 1 ∧ (aliveN X Y P g1 g2 C c).x.round = 0 := ⟨rfl, rfl, rfl, rfl, rfl, rfl, rfl, rfl⟩
set_option maxRecDepth 100000 in
theorem aliveN_cells {X Y P : List (List UInt8)} {g1 g2 : Nat} {C : Option Addr} {c : Nat} {w : World} {q : Nat} {t : TypeId} (h : Box w q t (VtM.cells ⟨⟨aliveM.x.kind, aliveM.x.epoch, aliveM.x.height, aliveM.x.round, aliveM.x.dig, aliveM.x.frm, 0, X, Y, P, aliveM.x.len⟩, some ⟨g1, 0, none⟩, 32, some ⟨g2, 0, none⟩, 32, C, c⟩).toArray) : Box w q t (aliveN X Y P g1 g2 C c).cells.toArray := h
set_option maxRecDepth 100000 in
theorem aliveN_see {X Y P : List (List UInt8)} {g1 g2 : Nat} {C : Option Addr} {c : Nat} {w : World} (h1 : Digs w w.heap.size (some ⟨g1, 0, none⟩) X) (h2 : Digs w w.heap.size (some ⟨g2, 0, none⟩) Y) (h3 : Digs w w.heap.size C P) (h4 : P.length ≤ c) : SgSee w (aliveN X Y P g1 g2 C c).sg := ⟨h1, h2, h3, h4⟩
set_option maxRecDepth 100000 in
theorem right_one {R : List UInt8} (hR : R.length = 32) {m : VtM} {vd : List UInt8} {X Y P : List (List UInt8)} (h1 : vGood m.x = true) (h2 : voteD m.x = vd) (h3 : m.sg.n = 0 ∧ m.sg.X = X ∧ m.sg.Y = Y ∧ m.sg.P = P ∧ m.x.epoch = 0 ∧ m.x.frm = 1 ∧ m.x.kind = 1 ∧ m.x.round = 0)
    (hg : goodK R vd ((0 : Nat) : Int) ((0 : Nat) : Int) X Y P = true) : rightB [⟨1, R, 0, hR⟩] 0 m = true := by
  obtain ⟨e1, e2, e3, e4, e5, e6, _, _⟩ := h3
  have hh : hasB [⟨1, R, 0, hR⟩] 1 = true := by unfold hasB posN; simp
  have hf : findM [⟨1, R, 0, hR⟩] 1 = ⟨1, R, 0, hR⟩ := by unfold findM posN; simp
  unfold rightB sgGood
  rw [h1, h2, e1, e2, e3, e4, e5, e6, hh, hf]
  simpa using hg
set_option maxRecDepth 100000 in
theorem one_vote {m : VtM} (h1 : m.x.kind = 1) (h2 : m.x.round = 0) (h3 : m.x.dig = zeros) : ((forF 1 0 zeros [m.x]).length : Int) = 1 := by
  unfold forF isFor
  simp [h1, h2, h3]
def vtP (x : VtX) : List Value := .int .i64 x.kind :: .int .i64 x.epoch :: .int .i64 x.height :: .int .i64 x.round :: (x.dig.map bv ++ [.int .i64 x.frm])
set_option maxRecDepth 100000 in
/-- A vote's signature is written. -/
theorem Box.st_vsg {w : World} {g : Nat} {t : TypeId} {m : VtM} (hb : Box w g t m.cells.toArray) (s : SgM) : ∃ w', (stSg (.pointer (some ⟨g, 37, none⟩)) (.agg s.cells)).run Tryz.prog w = .ok () w' ∧ Box w' g t (VtM.cells ⟨⟨m.x.kind, m.x.epoch, m.x.height, m.x.round, m.x.dig, m.x.frm, s.n, s.X, s.Y, s.P, m.x.len⟩, s.A, s.a, s.B, s.b, s.C, s.c⟩).toArray ∧ w.grownBy w' (some g) := by
  have hb2 : Box w g t (vtP m.x ++ (m.sg.cells.toList ++ [])).toArray := by
    have e : vtP m.x ++ (m.sg.cells.toList ++ []) = m.cells := by
      unfold VtM.cells vtL VtM.sg SgM.cells vtP
      simp
    rw [e]
    exact hb
  have hp : (vtP m.x).length = 37 := by unfold vtP; simp [m.x.len]
  have h3 := Box.put_mid hb2 hp (vs := s.cells.toList) rfl
  refine ⟨w.setCells g 37 s.cells.toList, ?_, ?_, only_cells (g := g) _ 37 w⟩
  · exact run_storeAt_mid (P := Tryz.prog) _ g 37 35 s.cells (fun j hj => by
      have hj4 : j < 4 := hj
      rw [hb.cell, hb.free, Array.getElem?_eq_getElem (by rw [List.size_toArray, m.cells_len]; omega)]
      exact ⟨rfl, rfl⟩) (sig_size _ _ _ _ _ _ _ _ _ _) (by have := all_oneCell_toArray (sig_one s.n s.A s.X.length s.a s.B s.Y.length s.b s.C s.P.length s.c); exact this)
  · have e : vtP m.x ++ (s.cells.toList ++ []) = (VtM.cells ⟨⟨m.x.kind, m.x.epoch, m.x.height, m.x.round, m.x.dig, m.x.frm, s.n, s.X, s.Y, s.P, m.x.len⟩, s.A, s.a, s.B, s.b, s.C, s.c⟩) := by
      unfold VtM.cells vtL SgM.cells vtP
      simp
    rw [e] at h3
    exact h3

set_option maxRecDepth 100000 in
theorem vsee_of {w : World} {m : VtM} (h : SgSee w m.sg) : VSee w m := ⟨h.A, h.B, h.C⟩
set_option maxRecDepth 100000 in
theorem has_self (x : VtX) : hasPl [x] x = true := by
  unfold hasPl
  rw [List.any_cons, samePl_iff.2 ⟨rfl, rfl, rfl⟩]
  rfl

attribute [local go_sem ↓] ldVt_def stVt_def alVt_def bdVt_def bdDg_def bdCf_def bdMem_def stSg_def bsT_def
set_option maxRecDepth 100000 in
set_option maxHeartbeats 8000000 in
theorem alive_any13 (w : World) (hR : Roots w) : Calls Tryz.prog 4 #[] w fun e w' => e = .returned (.bool true) ∧ Below w.heap.size w w' := by
  have HR := Lib.hid hR
  have HNW : Hid (Calls Tryz.prog 21 #[.agg (oneSeed.map bv).toArray, .int .i64 0] w (NewIs w oneSeed 0)) := new_any oneSeed rfl 0 (by decide) w hR
  have hb1 := bd_dg1
  have hb2 := bd_alive
  have hal := al_vt
  generalize hos : (oneSeed.map bv).toArray = OS at *
  clear hR
  go_enter Tryz.func4, Tryz.ntmps4
  go_upto_region 4 with (go_at_call 21; (with_reducible refine (HNW.out).mono ?_); rintro e w1 ⟨a, g, rfl, ht, hb, _, _⟩; have HT1 := Lib.hid ht; have HB1 := Lib.hid hb; clear ht hb)
  clear hb1 hos
  obtain ⟨w2, hst2, hx2, hbl2⟩ := laid_vt w1 aliveM
  have HX2 := Lib.hid hx2
  have HB2 := Lib.hid (HB1.out.trans (hbl2.mono HB1.out.size))
  have HT2 := Lib.hid (HT1.out.call hbl2)
  have HQ : Hid (w.heap.size ≤ w1.heap.size) := Lib.hid HB1.out.size
  clear hx2 hbl2
  generalize haq : aliveM.cells.toArray = AM at hb2 hst2
  go_upto_region 5 with fail
  clear hst2 hb2 hal HT1 HB1 HNW
  generalize w1.heap.size = q at *
  have lv : (ldVt (.pointer (some ⟨q, 0, none⟩))).run Tryz.prog w2 = .ok (.agg AM) w2 := by rw [← haq]; exact HX2.out.ld_vt
  have HSN0 := Lib.hid (signs_any aliveM w2 (HR.out.of_below HB2.out))
  rw [haq] at HSN0
  have HSN : Hid (Calls Tryz.prog 23 #[.agg AM] w2 fun e w' => e = .returned (.agg ((voteD aliveX).map bv).toArray) ∧ Below w2.heap.size w2 w') := HSN0
  clear HSN0
  have HSG : Hid (∀ w', Below w2.heap.size w2 w' → Calls Tryz.prog 22 #[.pointer (some ⟨a, 0, none⟩), .int .i64 0, .agg ((voteD aliveX).map bv).toArray] w' (TSignIs w' ((0 : Nat) : Int) (openT oneSeed ((0 : Nat) : Int) (voteD aliveX)) (shutT oneSeed ((0 : Nat) : Int) (voteD aliveX)) (pathT (leavesT oneSeed 0) 0))) := Lib.hid (fun w' hb => tsign_any a g oneSeed rfl 0 0 (by decide) (by decide) (voteD aliveX) rfl w' (HT2.out.call hb) (HR.out.of_below (HB2.out.trans (hb.mono HB2.out.size))))
  have HGK : Hid (goodK (keyT oneSeed 0) (voteD aliveX) ((0 : Nat) : Int) ((0 : Nat) : Int) (openT oneSeed ((0 : Nat) : Int) (voteD aliveX)) (shutT oneSeed ((0 : Nat) : Int) (voteD aliveX)) (pathT (leavesT oneSeed 0) 0) = true) := Lib.hid (goodK_own oneSeed (voteD aliveX) 0 0 (by decide) (by decide))
  have HLN := Lib.hid (sign_lens oneSeed ((0 : Nat) : Int) (voteD aliveX))
  have HXA := Lib.hid (open_all oneSeed 0 (voteD aliveX))
  have HYA := Lib.hid (shut_all oneSeed 0 (voteD aliveX))
  have HPL : Hid ((pathT (leavesT oneSeed 0) 0).length ≤ 200) := Lib.hid (by
    have h := pathT_short (leavesT oneSeed 0) 0 (by rw [leaves_len]; decide)
    rw [leaves_len] at h
    omega)
  have HKL := Lib.hid (keyT_len oneSeed 0)
  generalize openT oneSeed ((0 : Nat) : Int) (voteD aliveX) = X at *
  generalize shutT oneSeed ((0 : Nat) : Int) (voteD aliveX) = Y at *
  generalize pathT (leavesT oneSeed 0) 0 = P at *
  have HVD : Hid (voteD aliveX = voteD aliveX) := Lib.hid rfl
  generalize hvd : voteD aliveX = vd at *
  go_upto_region 6 with (first
    | (go_at_call 23; (with_reducible refine (HSN.out).mono ?_); rintro e w3 ⟨rfl, hb⟩; have HB3 := Lib.hid hb; clear hb)
    | (go_at_call 22; (with_reducible refine (HSG.out _ HB3.out).mono ?_); rintro e w4 ⟨g1, g2, C, c, rfl, b1, b2, hp, l1, l2⟩; obtain ⟨w5, hst0, hx5, hg5⟩ := Box.st_vsg (m := aliveM) (HX2.out.below (HB3.out.trans (hp.far.mono HB3.out.size)) HX2.out.lt) ⟨0, X, Y, P, some ⟨g1, 0, none⟩, 32, some ⟨g2, 0, none⟩, 32, C, c⟩; have hst : (stSg (.pointer (some ⟨q, 37, none⟩)) (.agg (sigV 0 (some ⟨g1, 0, none⟩) 32 32 (some ⟨g2, 0, none⟩) 32 32 C P.length c))).run Tryz.prog w4 = .ok () w5 := (by unfold SgM.cells at hst0; simp only [HLN.out.1, HLN.out.2] at hst0; exact hst0); have HX5 := Lib.hid hx5; have HG5 := Lib.hid hg5; have HP4 := Lib.hid hp; have HC4 := Lib.hid (And.intro b1 b2); have HL4 := Lib.hid (And.intro l1 l2); clear hst0 hx5 hg5 b1 b2 hp l1 l2))
  obtain ⟨m, hm⟩ : ∃ m : VtM, m = aliveN X Y P g1 g2 C c := ⟨_, rfl⟩
  have HV5 : Hid (Box w5 q 37 m.cells.toArray) := by rw [hm]; exact Lib.hid (aliveN_cells HX5.out)
  have hq2 : q < w2.heap.size := HX2.out.lt
  have HF4 : Hid (Below w2.heap.size w2 w4) := Lib.hid (HB3.out.trans (HP4.out.far.mono HB3.out.size))
  have HS5 : Hid (SgSee w5 m.sg) := Lib.hid (by
    have hq3 := Nat.lt_of_lt_of_le hq2 HB3.out.size
    have k1 := HC4.out.1.grown HG5.out (by intro e; injection e with e; have := HL4.out.1; omega)
    have k2 := HC4.out.2.grown HG5.out (by intro e; injection e with e; have := HL4.out.2; omega)
    have k3 := World.ownsRow.kept HP4.out.own HG5.out (by
      cases hob : (Value.slice C P.length c).ownBlock with
      | none => exact .inl rfl
      | some gb => exact .inr (fun e => by injection e with e; have := own_ge HP4.out.own gb hob; omega))
    rw [hm]
    exact aliveN_see ⟨HXA.out, Sees.of_box k1 k1.lt⟩ ⟨HYA.out, Sees.of_box k2 k2.lt⟩ (OwnD.digs k3 HP4.out.all) (OwnD.form k3).1)
  have HT5 : Hid (TreeW w5 a g oneSeed 0) := Lib.hid (by
    have k := HT2.out.call HF4.out
    exact ⟨k.tree.grown HG5.out (by intro e; injection e with e; exact Box.apart k.tree (HX2.out.below HF4.out HX2.out.lt) (by decide) e), k.leaves.grown HG5.out (by intro e; injection e with e; exact Box.apart k.leaves (HX2.out.below HF4.out HX2.out.lt) (by decide) e)⟩)
  have HB5 : Hid (Below w.heap.size w w5) := Lib.hid ((HB2.out.trans (HF4.out.mono HB2.out.size)).trans (below_only HG5.out HQ.out (Nat.le_trans HB2.out.size HF4.out.size)))
  have HMX : Hid (VOk m.x ∧ VFew m.x ∧ vGood m.x = true ∧ voteD m.x = vd ∧ m.x.dig = zeros) := Lib.hid (by
    rw [hm, ← hvd]
    exact aliveN_ok HLN.out.1 HLN.out.2 HPL.out)
  have HMG : Hid (m.sg.n = 0 ∧ m.sg.X = X ∧ m.sg.Y = Y ∧ m.sg.P = P ∧ m.x.epoch = 0 ∧ m.x.frm = 1 ∧ m.x.kind = 1 ∧ m.x.round = 0) := Lib.hid (by rw [hm]; exact aliveN_sg X Y P g1 g2 C c)
  clear hst hm lv haq HSN HSG HX2 HX5 HG5 HP4 HC4 HL4 HB3 HF4 HT2 HB2 HXA HYA HPL HLN HVD hvd hq2 HQ
  go_upto_region 7 with (go_at_call 5; (with_reducible refine (newbox_any _).mono ?_); rintro e w6 ⟨p, mb, rfl, hbx, lmb, _, hb⟩; have HBX := Lib.hid hbx; have HLM := Lib.hid lmb; have HF6 := Lib.hid hb; clear hbx hb lmb)
  obtain ⟨u6, hu6⟩ : ∃ u6, u6 = w6.drew := ⟨_, rfl⟩
  have hbd : Below w6.heap.size w6 u6 := by rw [hu6]; exact (Below.refl _ _).drew
  have hb5 := HF6.out.trans (hbd.mono HF6.out.size)
  have HBXu := Lib.hid (HBX.out.call hbd)
  have HSGu := Lib.hid (HS5.out.call hb5)
  have HTu := Lib.hid (HT5.out.call hb5)
  have HVu := Lib.hid (HV5.out.below hb5 HV5.out.lt)
  have HBW := Lib.hid (HB5.out.trans (hb5.mono HB5.out.size))
  have HRu := Lib.hid (HR.out.of_below HBW.out)
  have HKY := Lib.hid (tkey_any a oneSeed (keyT oneSeed 0) rfl (keyT_len oneSeed 0) ((0 : Nat) : Int) (.slice (some ⟨g, 0, none⟩) (2 ^ 0) (2 ^ 0)) u6 HTu.out.tree)
  have HLM5 : Hid (w.heap.size ≤ mb) := Lib.hid (Nat.le_trans HB5.out.size HLM.out)
  have HRLen : Hid ((keyT oneSeed 0).length = 32) := Lib.hid (keyT_len oneSeed 0)
  have HRB : Hid (rightB [⟨1, keyT oneSeed 0, 0, HRLen.out⟩] 0 m = true) := Lib.hid (right_one HRLen.out HMX.out.2.2.1 HMX.out.2.2.2.1 HMG.out HGK.out)
  have HFF : Hid (((forF 1 0 zeros [m.x]).length : Int) = 1) := Lib.hid (one_vote HMG.out.2.2.2.2.2.2.1 HMG.out.2.2.2.2.2.2.2 HMX.out.2.2.2.2)
  have HLV : Hid (∀ w', Box w' q 37 m.cells.toArray → (ldVt (.pointer (some ⟨q, 0, none⟩))).run Tryz.prog w' = .ok (.agg m.cells.toArray) w') := Lib.hid (fun w' h => h.ld_vt)
  generalize keyT oneSeed 0 = R at *
  have HBM : Hid (∀ w', (bdMem #[(0, .int .i64 1), (1, .agg (keyV R 0))]).run Tryz.prog w' = .ok (.agg (memL 1 R 0).toArray) w') := Lib.hid (fun w' => bd_mem 1 HRLen.out 0 w')
  have HBD : Hid (∀ w', (bdDg #[]).run Tryz.prog w' = .ok (.agg (zeros.map bv).toArray) w') := Lib.hid bd_dg0
  have HVS : Hid (VSee u6 m ↔ VSee u6 m) := Lib.hid Iff.rfl
  clear hbd hb5 HBX HS5 HT5 HV5 HB5 HF6 HTu HGK HLM HR
  refine wp_region_held_drew (S := fun w' => Box w' q 37 m.cells.toArray) (by kernel_rfl) (by rw [← hu6]; exact HVu.out) (fun hS => ?_)
  rw [← hu6] at hS ⊢
  clear hu6 HVu HVS
  (refine take_at8 (i := 0) (d := 22) (v := .int .i64 0) rfl (by kernel_rfl) (by kernel_rfl) (by kernel_rfl) (fun _ _ _ h => h) rfl (Or.inl ⟨by kernel_rfl, fun w hSw => by go_simp⟩) hS ?_)
  (refine take_at8 (i := 1) (d := 23) (v := .bool true) rfl (by kernel_rfl) (by kernel_rfl) (by kernel_rfl) (fun _ _ _ h => h) rfl (Or.inl ⟨by kernel_rfl, fun w hSw => by go_simp⟩) hS ?_)
  (refine take_at8 (i := 2) (d := 24) (v := .bool true) rfl (by kernel_rfl) (by kernel_rfl) (by kernel_rfl) (fun _ _ _ h => h) rfl (Or.inl ⟨by kernel_rfl, fun w hSw => by go_simp⟩) hS ?_)
  (refine take_at8 (i := 3) (d := 25) (v := .pointer (some ⟨a, 0, none⟩)) rfl (by kernel_rfl) (by kernel_rfl) (by kernel_rfl) (fun _ _ _ h => h) rfl (Or.inl ⟨by kernel_rfl, fun w hSw => by go_simp⟩) hS ?_)
  (refine take_at8 (i := 8) (d := 30) (v := .agg m.cells.toArray) rfl (by kernel_rfl) (by kernel_rfl) (by kernel_rfl) (fun _ _ _ h => h) rfl (Or.inl ⟨by kernel_rfl, fun w hSw => by have hc := HLV.out w hSw; go_simp⟩) hS ?_)
  refine wpAnyH_ready (rs := [4]) (by decide +kernel) (by simp) (AllReadyH.cons rfl (fun K hK => ?_) AllReadyH.nil)
  go_simp
  (go_at_call 25; (with_reducible refine (HKY.out).mono ?_); rintro e u7 ⟨rfl, hb⟩)
  have HB7 := Lib.hid hb
  have HX7 := Lib.hid ((HBXu.out).call hb)
  have HG7 := Lib.hid ((HSGu.out).call hb)
  refine hK.out _ _ (hS.below hb hS.lt) (fun hS => ?_)
  clear hK K
  (try simp only [Act.put])
  clear hb HKY HBXu HSGu
  (refine take_at8 (i := 5) (d := 27) (v := .agg (memL 1 R 0).toArray) rfl (by kernel_rfl) (by kernel_rfl) (by kernel_rfl) (fun _ _ _ h => h) rfl (Or.inl ⟨by kernel_rfl, fun w hSw => by have hc := HBM.out w; go_simp⟩) hS ?_)
  have hbs : (bsT 62 1 #[(0, .agg (memL 1 R 0).toArray)]).run Tryz.prog u7 = .ok (.slice (some ⟨u7.heap.size, 0, none⟩) 1 1) (u7.alloc (.cells (memL 1 R 0).toArray 61)) := MK.build1 ⟨1, R, 0, HRLen.out⟩ (.agg (memL 1 R 0).toArray) rfl (by decide) u7
  have hal7 : Below u7.heap.size u7 (u7.alloc (.cells (memL 1 R 0).toArray 61)) := (Below.refl _ _).alloc (Nat.le_refl _) _
  have hmm : Mems (u7.alloc (.cells (memL 1 R 0).toArray 61)) (u7.alloc (.cells (memL 1 R 0).toArray 61)).heap.size (some ⟨u7.heap.size, 0, none⟩) [⟨1, R, 0, HRLen.out⟩] := by
    have h := MK.see_one u7 ⟨1, R, 0, HRLen.out⟩
    have e : flatM [⟨1, R, 0, HRLen.out⟩] = MK.flat [⟨1, R, 0, HRLen.out⟩] := rfl
    show Sees _ _ _ (flatM [⟨1, R, 0, HRLen.out⟩])
    rw [e]
    exact h
  have HR8 := Lib.hid ((HRu.out.of_below HB7.out).of_below hal7)
  have HRT := Lib.hid (right_any13 [⟨1, R, 0, HRLen.out⟩] 0 (some ⟨u7.heap.size, 0, none⟩) 1 (show 1 ≤ maxLen by decide) m _ hmm ((HG7.out).call hal7) HR8.out)
  rw [HRB.out] at HRT
  have HRT2 : Hid (Calls Tryz.prog 24 #[.agg (cfgV 0 (some ⟨u7.heap.size, 0, none⟩) 1 1), .agg m.cells.toArray] (u7.alloc (.cells (memL 1 R 0).toArray 61)) fun e w' => e = .returned (.bool true) ∧ Below (u7.alloc (.cells (memL 1 R 0).toArray 61)).heap.size (u7.alloc (.cells (memL 1 R 0).toArray 61)) w') := HRT
  clear HRT
  have HX8 := Lib.hid (HX7.out.call hal7)
  have HG8 := Lib.hid (HG7.out.call hal7)
  have HB8 := Lib.hid (HB7.out.trans (hal7.mono HB7.out.size))
  have HS8 := Lib.hid (hS.below hal7 hS.lt)
  clear hmm hal7
  refine wpAnyH_ready (rs := [6]) (by decide +kernel) (by simp) (AllReadyH.cons rfl (fun K hK => ?_) AllReadyH.nil)
  go_simp
  refine hK.out _ _ (HS8.out) (fun hS => ?_)
  clear hK K
  (try simp only [Act.put])
  clear hbs HS8
  have HBC : Hid (∀ w', (bdCf #[(1, .slice (some ⟨u7.heap.size, 0, none⟩) 1 1)]).run Tryz.prog w' = .ok (.agg (cfgV 0 (some ⟨u7.heap.size, 0, none⟩) 1 1)) w') := Lib.hid (fun w' => bd_cf1 _ 1 1 w')
  (refine take_at8 (i := 7) (d := 29) (v := .agg (cfgV 0 (some ⟨u7.heap.size, 0, none⟩) 1 1)) rfl (by kernel_rfl) (by kernel_rfl) (by kernel_rfl) (fun _ _ _ h => h) rfl (Or.inl ⟨by kernel_rfl, fun w hSw => by have hc := HBC.out w; go_simp⟩) hS ?_)
  refine wpAnyH_ready (rs := [9]) (by decide +kernel) (by simp) (AllReadyH.cons rfl (fun K hK => ?_) AllReadyH.nil)
  go_simp
  (go_at_call 24; (with_reducible refine (HRT2.out).mono ?_); rintro e u9 ⟨rfl, hb⟩)
  have HX9 := Lib.hid (HX8.out.call hb)
  have HG9 := Lib.hid (HG8.out.call hb)
  have HB9 := Lib.hid (HB8.out.trans (hb.mono HB8.out.size))
  have HAD := Lib.hid (add_any13 p mb [] m HMX.out.1 HMX.out.2.1 (by simp) u9 HX9.out (vsee_of HG9.out))
  rw [show hasPl (([] : List VtM).map VtM.x) m.x = false from rfl] at HAD
  refine hK.out _ _ (hS.below hb hS.lt) (fun hS => ?_)
  clear hK K
  (try simp only [Act.put])
  clear hb HRT2 HX8 HG8 HB8
  (refine take_at8 (i := 10) (d := 32) (v := .bool true) rfl (by kernel_rfl) (by kernel_rfl) (by kernel_rfl) (fun _ _ _ h => h) rfl (Or.inl ⟨by kernel_rfl, fun w hSw => by go_simp⟩) hS ?_)
  (refine take_at8 (i := 11) (d := 33) (v := .bool true) rfl (by kernel_rfl) (by kernel_rfl) (by kernel_rfl) (fun _ _ _ h => h) rfl (Or.inl ⟨by kernel_rfl, fun w hSw => by go_simp⟩) hS ?_)
  (refine take_at8 (i := 12) (d := 34) (v := .pointer (some ⟨p, 0, none⟩)) rfl (by kernel_rfl) (by kernel_rfl) (by kernel_rfl) (fun _ _ _ h => h) rfl (Or.inl ⟨by kernel_rfl, fun w hSw => by go_simp⟩) hS ?_)
  (refine take_at8 (i := 13) (d := 35) (v := .agg m.cells.toArray) rfl (by kernel_rfl) (by kernel_rfl) (by kernel_rfl) (fun _ _ _ h => h) rfl (Or.inl ⟨by kernel_rfl, fun w hSw => by have hc := HLV.out w hSw; go_simp⟩) hS ?_)
  refine wpAnyH_ready (rs := [14]) (by decide +kernel) (by simp) (AllReadyH.cons rfl (fun K hK => ?_) AllReadyH.nil)
  go_simp
  (go_at_call 8; (with_reducible refine (HAD.out).mono ?_); rintro e u10 ⟨rfl, vs1, hb1, hx1, hg1, _⟩)
  have HX10 := Lib.hid hb1
  have HE10 : Hid (vs1.map VtM.x = [m.x]) := Lib.hid hx1
  have HS10 : Hid (VSee u10 m) := Lib.hid ((vsee_of HG9.out).aside hg1 HX9.out.map.cell_ne)
  have HB10 : Hid (Below w6.heap.size w6 u10 ∨ True) := Lib.hid (.inr trivial)
  have HN10 : Hid (vs1.length = 1) := Lib.hid (by have h := congrArg List.length hx1; simpa [addX, hasPl] using h)
  have HBW10 := Lib.hid (HBW.out.trans ((HB9.out.mono HBW.out.size).trans (below_only hg1 HLM5.out (Nat.le_trans HBW.out.size HB9.out.size))))
  have HA2 := Lib.hid (add_any13 p mb vs1 m HMX.out.1 HMX.out.2.1 (by have := HN10.out; omega) u10 HX10.out HS10.out)
  rw [HE10.out, has_self] at HA2
  refine hK.out _ _ (hS.grown hg1 (fun e => HX9.out.map.ne hS (by injection e))) (fun hS => ?_)
  clear hK K
  (try simp only [Act.put])
  clear hb1 hx1 hg1 HAD HX9 HG9 HB9 HB10
  (refine take_at8 (i := 15) (d := 37) (v := .bool true) rfl (by kernel_rfl) (by kernel_rfl) (by kernel_rfl) (fun _ _ _ h => h) rfl (Or.inl ⟨by kernel_rfl, fun w hSw => by go_simp⟩) hS ?_)
  (refine take_at8 (i := 16) (d := 38) (v := .bool true) rfl (by kernel_rfl) (by kernel_rfl) (by kernel_rfl) (fun _ _ _ h => h) rfl (Or.inl ⟨by kernel_rfl, fun w hSw => by go_simp⟩) hS ?_)
  (refine take_at8 (i := 17) (d := 39) (v := .pointer (some ⟨p, 0, none⟩)) rfl (by kernel_rfl) (by kernel_rfl) (by kernel_rfl) (fun _ _ _ h => h) rfl (Or.inl ⟨by kernel_rfl, fun w hSw => by go_simp⟩) hS ?_)
  (refine take_at8 (i := 18) (d := 40) (v := .agg m.cells.toArray) rfl (by kernel_rfl) (by kernel_rfl) (by kernel_rfl) (fun _ _ _ h => h) rfl (Or.inl ⟨by kernel_rfl, fun w hSw => by have hc := HLV.out w hSw; go_simp⟩) hS ?_)
  refine wpAnyH_ready (rs := [19]) (by decide +kernel) (by simp) (AllReadyH.cons rfl (fun K hK => ?_) AllReadyH.nil)
  go_simp
  (go_at_call 8; (with_reducible refine (HA2.out).mono ?_); rintro e u11 ⟨rfl, vs2, hb2, hx2, hg2, _⟩)
  have hx3 : vs2.map VtM.x = [m.x] := by
    rw [hx2]
    unfold addX
    rw [has_self]
    rfl
  have hn3 : vs2.length = 1 := by have h := congrArg List.length hx3; simpa using h
  have HBW11 := Lib.hid (HBW10.out.trans (below_only hg2 HLM5.out HBW10.out.size))
  have HCT := Lib.hid (count_any13 (some p) (some mb) vs2 1 0 zeros rfl (by omega) u11 hb2)
  rw [hx3, HFF.out] at HCT
  have HCT2 : Hid (Calls Tryz.prog 12 #[.pointer (some ⟨p, 0, none⟩), .int .i64 1, .int .i64 0, .agg (zeros.map bv).toArray] u11 fun e w' => e = .returned (.int .i64 1) ∧ Below u11.heap.size u11 w') := HCT
  clear HCT
  refine hK.out _ _ (hS.grown hg2 (fun e => HX10.out.map.ne hS (by injection e))) (fun hS => ?_)
  clear hK K
  (try simp only [Act.put])
  clear hb2 hx2 hx3 hn3 hg2 HA2 HX10 HE10 HS10 HN10 HBW10
  (refine take_at8 (i := 20) (d := 42) (v := .bool true) rfl (by kernel_rfl) (by kernel_rfl) (by kernel_rfl) (fun _ _ _ h => h) rfl (Or.inl ⟨by kernel_rfl, fun w hSw => by go_simp⟩) hS ?_)
  (refine take_at8 (i := 21) (d := 43) (v := .bool true) rfl (by kernel_rfl) (by kernel_rfl) (by kernel_rfl) (fun _ _ _ h => h) rfl (Or.inl ⟨by kernel_rfl, fun w hSw => by go_simp⟩) hS ?_)
  (refine take_at8 (i := 22) (d := 44) (v := .bool true) rfl (by kernel_rfl) (by kernel_rfl) (by kernel_rfl) (fun _ _ _ h => h) rfl (Or.inl ⟨by kernel_rfl, fun w hSw => by go_simp⟩) hS ?_)
  (refine take_at8 (i := 23) (d := 45) (v := .pointer (some ⟨p, 0, none⟩)) rfl (by kernel_rfl) (by kernel_rfl) (by kernel_rfl) (fun _ _ _ h => h) rfl (Or.inl ⟨by kernel_rfl, fun w hSw => by go_simp⟩) hS ?_)
  (refine take_at8 (i := 24) (d := 46) (v := .agg (zeros.map bv).toArray) rfl (by kernel_rfl) (by kernel_rfl) (by kernel_rfl) (fun _ _ _ h => h) rfl (Or.inl ⟨by kernel_rfl, fun w hSw => by have hc := HBD.out w; go_simp⟩) hS ?_)
  refine wpAnyH_ready (rs := [25]) (by decide +kernel) (by simp) (AllReadyH.cons rfl (fun K hK => ?_) AllReadyH.nil)
  go_simp
  (go_at_call 12; (with_reducible refine (HCT2.out).mono ?_); rintro e u12 ⟨rfl, hb⟩)
  have HBW12 := Lib.hid (HBW11.out.trans (hb.mono HBW11.out.size))
  refine hK.out _ _ (hS.below hb hS.lt) (fun hS => ?_)
  clear hK K
  (try simp only [Act.put])
  clear hb HCT2 HBW11
  (refine take_at8 (i := 26) (d := 48) (v := .bool true) rfl (by kernel_rfl) (by kernel_rfl) (by kernel_rfl) (fun _ _ _ h => h) rfl (Or.inl ⟨by kernel_rfl, fun w hSw => by go_simp⟩) hS ?_)
  (refine take_at8 (i := 27) (d := 49) (v := .bool true) rfl (by kernel_rfl) (by kernel_rfl) (by kernel_rfl) (fun _ _ _ h => h) rfl (Or.inl ⟨by kernel_rfl, fun w hSw => by go_simp⟩) hS ?_)
  (refine take_at8 (i := 28) (d := 0) (v := .bool true) rfl (by kernel_rfl) (by kernel_rfl) (by kernel_rfl) (fun _ _ _ h => h) rfl (Or.inl ⟨by kernel_rfl, fun w hSw => by go_simp⟩) hS ?_)
  refine wpAnyH_done (by kernel_rfl) ?_ _
  clear hS HLV HBM HBD HBC
  go_simp
  go_wp2
  go_ret
  exact ⟨rfl, HBW12.out⟩
end Go.Proofs.YtadnnnbdlkjnkaaGreatDoor

namespace Go.Proofs.YtadnnnbdlkjnkaaGreatDoor
open Go.RowKit Go.Maps Go.Sort

/-! ### On plain lists -/
set_option maxRecDepth 100000 in
theorem forF_mono (kind round : Int) (d : List UInt8) (xs : List VtX) (x : VtX) : (forF kind round d xs).length ≤ (forF kind round d (addX xs x)).length := by
  unfold addX
  split
  · exact Nat.le_refl _
  · unfold forF
    rw [List.filter_append, List.map_append, List.length_append]
    omega
set_option maxRecDepth 100000 in
theorem mem_addX {xs : List VtX} {x y : VtX} (h : y ∈ xs) : y ∈ addX xs x := by
  unfold addX
  split
  · exact h
  · exact List.mem_append.2 (.inl h)
set_option maxRecDepth 100000 in
theorem filter_mono {α : Type} {p q : α → Bool} : ∀ (l : List α), (∀ x ∈ l, p x = true → q x = true) → (l.filter p).length ≤ (l.filter q).length
  | [], _ => Nat.le_refl _
  | a :: r, h => by
    have ih := filter_mono r fun x hx => h x (List.mem_cons_of_mem _ hx)
    rw [List.filter_cons, List.filter_cons]
    cases hp : p a with
    | true =>
      rw [h a (List.mem_cons_self ..) hp]
      simpa using ih
    | false =>
      cases q a
      · simpa using ih
      · simp only [Bool.false_eq_true, if_false, if_true, List.length_cons]
        omega
set_option maxRecDepth 100000 in
theorem votN_mono (round : Int) (xs : List VtX) (x : VtX) : votN xs round ≤ votN (addX xs x) round := by
  unfold votN
  refine filter_mono _ fun f _ hf => ?_
  obtain ⟨y, hy, h1, h2⟩ := votB_iff.1 hf
  exact votB_iff.2 ⟨y, mem_addX hy, h1, h2⟩
set_option maxRecDepth 100000 in
theorem reach_mono {xs : List VtX} {x : VtX} {n z z' : Int} (h : ReachIs xs n z) (h' : ReachIs (addX xs x) n z') (hr : ∀ y ∈ addX xs x, 0 ≤ y.round) : z ≤ z' := by
  rcases h with ⟨rfl, _⟩ | ⟨y, hy, rfl, h2, h3, h4⟩
  · rcases h' with ⟨rfl, _⟩ | ⟨y, hy, rfl, _⟩
    · omega
    · have := hr y hy
      omega
  · have h5 := votN_mono y.round xs x
    rcases h' with ⟨rfl, k1⟩ | ⟨y', hy', rfl, k2, k3, k4⟩
    · exact absurd ⟨h2, by omega⟩ (k1 y (mem_addX hy))
    · exact k4 y (mem_addX hy) (by omega)
/-- No two votes of one place. -/
def Apart (xs : List VtX) : Prop := xs.Pairwise fun a b => samePl a b = false
set_option maxRecDepth 100000 in
theorem count_le {xs : List VtX} (hp : Apart xs) (hx : ∀ x ∈ xs, 1 ≤ x.frm ∧ x.frm ≤ 63) (kind round : Int) (d : List UInt8) : (forF kind round d xs).length ≤ votN xs round := by
  have h1 : ((xs.filter (isFor kind round d)).map fun x => x.frm.toNat).Nodup := by
    unfold List.Nodup
    rw [List.pairwise_map]
    refine List.Pairwise.imp_of_mem (fun {a b} ha hb hab e => ?_) (hp.filter _)
    obtain ⟨ha1, ha2⟩ := List.mem_filter.1 ha
    obtain ⟨hb1, hb2⟩ := List.mem_filter.1 hb
    unfold isFor at ha2 hb2
    simp only [Bool.and_eq_true, decide_eq_true_eq] at ha2 hb2
    have g1 := hx a ha1
    have g2 := hx b hb1
    have : samePl a b = true := samePl_iff.2 ⟨by rw [ha2.1.1, hb2.1.1], by rw [ha2.1.2, hb2.1.2], by omega⟩
    rw [hab] at this
    cases this
  have h2 := List.Nodup.length_le_of_subset h1 (l₂ := (List.range 64).filter (votB xs round)) fun f hf => by
    obtain ⟨x, hx1, rfl⟩ := List.mem_map.1 hf
    obtain ⟨h3, h4⟩ := List.mem_filter.1 hx1
    unfold isFor at h4
    simp only [Bool.and_eq_true, decide_eq_true_eq] at h4
    have g1 := hx x h3
    refine List.mem_filter.2 ⟨List.mem_range.2 (by omega), votB_iff.2 ⟨x, h3, by omega, by omega⟩⟩
  rw [List.length_map] at h2
  unfold votN
  refine Nat.le_trans ?_ h2
  unfold forF
  rw [List.length_map]
  exact Nat.le_refl _
set_option maxRecDepth 100000 in
theorem BoxIs.apart {w : World} {p mb : Nat} {vs : List VtM} (h : BoxIs w p mb vs) : Apart (vs.map VtM.x) := by
  have hk := h.map.keys
  rw [List.map_map] at hk
  unfold List.Nodup at hk
  rw [List.pairwise_map] at hk
  unfold Apart
  rw [List.pairwise_map]
  refine List.Pairwise.imp_of_mem (fun {a b} ha hb hab => ?_) hk
  cases e : samePl a.x b.x with
  | false => rfl
  | true => exact absurd ((at_eq (h.ok a ha).1 (h.ok b hb).1).2 e) hab
set_option maxRecDepth 100000 in
theorem BoxIs.rng {w : World} {p mb : Nat} {vs : List VtM} (h : BoxIs w p mb vs) : ∀ x ∈ vs.map VtM.x, (1 ≤ x.frm ∧ x.frm ≤ 63) ∧ 0 ≤ x.round := fun x hx => by
  obtain ⟨m, hm, rfl⟩ := List.mem_map.1 hx
  exact ⟨⟨(h.ok m hm).1.one, (h.ok m hm).1.most⟩, (h.ok m hm).1.low⟩
set_option maxRecDepth 100000 in
theorem addX_len (xs : List VtX) (x : VtX) : (addX xs x).length ≤ xs.length + 1 := by
  unfold addX
  split
  · omega
  · simp
set_option maxRecDepth 100000 in
theorem votN_le (xs : List VtX) (r : Int) : votN xs r ≤ 64 := by
  unfold votN
  refine Nat.le_trans (List.length_filter_le _ _) ?_
  simp
set_option maxRecDepth 100000 in
/-- A box's calls. -/
theorem count_box {p mb : Nat} {vs : List VtM} (kind round : Int) {d : List UInt8} (hd : d.length = 32) (hl : vs.length < 1000000) {w : World} (hB : BoxIs w p mb vs) :
    Calls Tryz.prog 12 #[.pointer (some ⟨p, 0, none⟩), .int .i64 kind, .int .i64 round, .agg (d.map bv).toArray] w fun e w' => e = .returned (.int .i64 ((forF kind round d (vs.map VtM.x)).length : Int)) ∧ Below w.heap.size w w' := count_any13 (some p) (some mb) vs kind round d hd hl w hB
set_option maxRecDepth 100000 in
theorem voters_box {p mb : Nat} {vs : List VtM} (round : Int) (hl : vs.length < 1000000) {w : World} (hB : BoxIs w p mb vs) :
    Calls Tryz.prog 13 #[.pointer (some ⟨p, 0, none⟩), .int .i64 round] w fun e w' => e = .returned (.int .i64 (votN (vs.map VtM.x) round : Int)) ∧ Below w.heap.size w w' := voters_any (some p) (some mb) vs round hl w hB
set_option maxRecDepth 100000 in
theorem reached_box {p mb : Nat} {vs : List VtM} (n : Int) (hl : vs.length < 1000000) {w : World} (hB : BoxIs w p mb vs) :
    Calls Tryz.prog 15 #[.pointer (some ⟨p, 0, none⟩), .int .i64 n] w fun e w' => ∃ z, e = .returned (.int .i64 z) ∧ ReachIs (vs.map VtM.x) n z ∧ Below w.heap.size w w' := reached_any (some p) (some mb) vs n hl w hB
/-- What is asked of a vote that is handed in. -/
structure VtArg (w : World) (m : VtM) : Prop where
  kind : (Lit.int .i64 m.x.kind).wf = true
  round : (Lit.int .i64 m.x.round).wf = true
  frm : (Lit.int .i64 m.x.frm).wf = true
  see : VSee w m
set_option maxRecDepth 100000 in
theorem VtArg.ok {w : World} {m : VtM} (h : VtArg w m) (hg : vGood m.x = true) : VOk m.x := by
  obtain ⟨_, _, _, h4, h5⟩ := vGood_iff.1 hg
  exact ⟨h.kind, h.round, h.frm, h4.1, h5.1, h5.2⟩
set_option maxRecDepth 100000 in
theorem few_of {x : VtX} (h : (decide (200 < x.opn.length) || decide (200 < x.sht.length) || decide (200 < x.pth.length)) = false) : VFew x := by
  simp only [Bool.or_eq_false_iff, decide_eq_false_iff_not] at h
  exact ⟨by omega, by omega, by omega⟩

attribute [local go_sem ↓] ldVt_def stVt_def alVt_def ldSg_def ldDigest_def
end Go.Proofs.YtadnnnbdlkjnkaaGreatDoor
