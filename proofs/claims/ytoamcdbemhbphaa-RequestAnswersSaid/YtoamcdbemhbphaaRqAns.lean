/-
  RequestAnswers: the walk.
-/
import Derived.Test.YtoamcdbemhbphaaRqSames
import Derived.Test.YtoamcdbemhbphaaRqReply
import Derived.Test.YtoamcdbemhbphaaRqRRdRep
import Derived.Test.YtoamcdbemhbphaaTG
namespace Go.Proofs.Ytoamcdbemhbphaa
open Go.RowKit

attribute [local go_sem ↓] ldRep_def stRep_def bdRep_def

set_option maxRecDepth 100000 in
theorem Fresh9.sees {w w' : World} {B m : Nat} {A : Option Addr} {xs : List Value} (hf : Fresh9 B A xs) (hs : Sees w w.heap.size A xs) (hg : w.grownBy w' (some m)) (hm : m < B) : Sees w' w'.heap.size A xs := by
  rcases hs with h | ⟨p, o, e, hp, hc⟩
  · exact .inl h
  rcases hf with h | ⟨g, e2, hge⟩
  · exact .inl h
  have hpg : p = g := by
    rw [e] at e2
    injection e2 with e2
    injection e2
  refine .inr ⟨p, o, e, Nat.lt_of_lt_of_le hp hg.size, fun j u hu => ?_⟩
  rw [World.cell?_of_block (hg.block p hp (fun e => by injection e with e; omega))]
  exact hc j u hu

set_option maxRecDepth 100000 in
/-- What the program's ReadReply leaves and answers, and then the document's. -/
theorem two_readrep (w7 : World) (a m : Nat) (l : List UInt8) (w : World) (h : TwX w7 a m l w) (C M K : Int) (V : List ByteArray) (F : List UInt8 × Bool) (hC : rpC l false = C) (hM : rpM l false = M) (hK : rpK l false = K) (hV : rpV l false = V) (hF : rpF l false = F) :
    Calls Try.prog 23 #[.pointer (some ⟨a, 0, none⟩)] w fun e w' => ∃ A z, e = .returned (.agg (repV C M K A V.length z)) ∧
      Calls Try.prog 24 #[.pointer (some ⟨m, 0, none⟩)] w' fun e w'' => ∃ A' z', e = .returned (.agg (repV C M K A' V.length z')) ∧ Sees w'' w''.heap.size A (V.map Value.string) ∧ Sees w'' w''.heap.size A' (V.map Value.string) ∧
        Rd w'' a F.1 F.2 ∧ RRd w'' m F.1 F.2 ∧ Below w7.heap.size w7 w'' := by
  subst hC hM hK hV hF
  refine (readrep_any a l false w h.rd).mono fun e w' ⟨A, z, he, hs, hr, hg, hf⟩ => ⟨A, z, he, ?_⟩
  have h2 : RRd w' m l false := h.rr.other hg (fun e => h.ne e.symm)
  refine (rreadrep_any m l false w' h2).mono fun e w'' ⟨A', z', he, hs2, hr2, hg2, _⟩ => ⟨A', z', he, hf.sees hs hg2 h.rr.lt, hs2, hr.past9 h2 h.ne hg2, hr2, ?_⟩
  have hb1 := h.far.trans (below_only hg h.ha h.far.size)
  exact hb1.trans (below_only hg2 h.hm hb1.size)
set_option maxRecDepth 100000 in
theorem idx_two0 (x y : List UInt8) (w : World) : (Instr.index 56 (.agg #[str x, str y]) (.int .i64 0)).run Try.prog w = .ok (str x) w := by kernel_rfl
set_option maxRecDepth 100000 in
theorem idx_two1 (x y : List UInt8) (w : World) : (Instr.index 56 (.agg #[str x, str y]) (.int .i64 1)).run Try.prog w = .ok (str y) w := by kernel_rfl
set_option maxRecDepth 100000 in
/-- Two replies laid into boxes of their own. -/
theorem two_laid (w : World) (c n k : Int) (A : Option Addr) (m z : Nat) (c' n' k' : Int) (A' : Option Addr) (m' z' : Nat) :
    ∃ w1 w2, (stRep (.pointer (some ⟨w.heap.size, 0, none⟩)) (.agg (repV c n k A m z))).run Try.prog ((w.alloc (.cells zrepV 51)).alloc (.cells zrepV 51)) = .ok () w1 ∧
      (stRep (.pointer (some ⟨w.heap.size + 1, 0, none⟩)) (.agg (repV c' n' k' A' m' z'))).run Try.prog w1 = .ok () w2 ∧
      Box w2 w.heap.size 51 (repV c n k A m z) ∧ Box w2 (w.heap.size + 1) 51 (repV c' n' k' A' m' z') ∧ Below w.heap.size w w2 := by
  have hX : Box ((w.alloc (.cells zrepV 51)).alloc (.cells zrepV 51)) w.heap.size 51 zrepV := (Box.made w _ _).alloc _
  have hY : Box ((w.alloc (.cells zrepV 51)).alloc (.cells zrepV 51)) (w.heap.size + 1) 51 zrepV := Box.made_at (by simp) _ _
  have hF : Below w.heap.size w ((w.alloc (.cells zrepV 51)).alloc (.cells zrepV 51)) := ((Below.refl _ _).alloc (Nat.le_refl _) _).alloc (by simp) _
  obtain ⟨w1, h1, hb1, hg1⟩ := hX.st_rep rfl c n k A m z
  have hY1 := hY.grown hg1 (by simp)
  obtain ⟨w2, h2, hb2, hg2⟩ := hY1.st_rep rfl c' n' k' A' m' z'
  have hF1 := hF.trans (below_only hg1 (Nat.le_refl _) hF.size)
  exact ⟨w1, w2, h1, h2, hb1.grown hg2 (by simp), hb2, hF1.trans (below_only hg2 (by omega) hF1.size)⟩

set_option maxRecDepth 100000 in
set_option maxHeartbeats 4000000 in
theorem answers_walk (c n k : Int) (h1 : R64 c) (h2 : R64 n) (h3 : R64 k) (A : Option Addr) (vs : List ByteArray) (z : Nat) (hl : vs.length ≤ maxLen) (hs : ∀ s ∈ vs, s.size ≤ 140737488351232) (c' n' k' : Int) (A' : Option Addr) (vs' : List ByteArray) (z' : Nat) (hl' : vs'.length ≤ maxLen) (hs' : ∀ s ∈ vs', s.size ≤ 140737488351232) (l : List UInt8) (AL : Option Addr) (cl : Nat) (w : World) (hA : Sees w w.heap.size A (vs.map Value.string)) (hB : Sees w w.heap.size A' (vs'.map Value.string)) (hL : Sees w w.heap.size AL (l.map bv)) :
    Calls Try.prog 4 #[.agg (repV c n k A vs.length z), .agg (repV c' n' k' A' vs'.length z'), .slice AL l.length cl] w fun e w' => e = .returned (.bool true) ∧ Below w.heap.size w w' := by
  obtain ⟨w2, hw2⟩ : ∃ w2, w2 = (w.alloc (.cells (repV c n k A vs.length z) 51)).alloc (.cells (repV c' n' k' A' vs'.length z') 51) := ⟨_, rfl⟩
  have HX : Hid (Box w2 w.heap.size 51 (repV c n k A vs.length z)) := by rw [hw2]; exact (Box.made w _ _).alloc _
  have HY : Hid (Box w2 (w.heap.size + 1) 51 (repV c' n' k' A' vs'.length z')) := by rw [hw2]; exact Box.made_at (by simp) _ _
  have HF : Hid (Below w.heap.size w w2) := by rw [hw2]; exact ((Below.refl _ _).alloc (Nat.le_refl _) _).alloc (by simp) _
  have HAL := Lib.hid (alive_any9 w2)
  have HRA : Hid (∀ w' base, w2.heap.size ≤ base → Below w2.heap.size w2 w' → Sees w' base A (vs.map Value.string)) := Lib.hid (fun w' base h hb => ((hA.below HF.out).below (hb.mono HF.out.size)).more (Nat.le_trans HF.out.size h))
  have HRB : Hid (∀ w' base, w2.heap.size ≤ base → Below w2.heap.size w2 w' → Sees w' base A' (vs'.map Value.string)) := Lib.hid (fun w' base h hb => ((hB.below HF.out).below (hb.mono HF.out.size)).more (Nat.le_trans HF.out.size h))
  have HRL : Hid (∀ w' base, w2.heap.size ≤ base → Below w2.heap.size w2 w' → Sees w' base AL (l.map bv)) := Lib.hid (fun w' base h hb => ((hL.below HF.out).below (hb.mono HF.out.size)).more (Nat.le_trans HF.out.size h))
  have HLX : Hid (∀ w', Below w2.heap.size w2 w' → (ldRep (.pointer (some ⟨w.heap.size, 0, none⟩))).run Try.prog w' = .ok (.agg (repV c n k A vs.length z)) w') := Lib.hid (fun w' hb => (HX.out.below hb HX.out.lt).ld_rep)
  have HLY : Hid (∀ w', Below w2.heap.size w2 w' → (ldRep (.pointer (some ⟨w.heap.size + 1, 0, none⟩))).run Try.prog w' = .ok (.agg (repV c' n' k' A' vs'.length z')) w') := Lib.hid (fun w' hb => (HY.out.below hb HY.out.lt).ld_rep)
  have HLA : Hid (∀ w', Below w2.heap.size w2 w' → Calls Try.prog 18 #[.agg (repV c n k A vs.length z)] w' fun e w'' => e = .returned (.bool (largeB vs)) ∧ Below w'.heap.size w' w'') := Lib.hid (fun w' hb => large_any9 c n k A vs z hs w' (HRA.out w' _ hb.size hb))
  have HLB : Hid (∀ w', Below w2.heap.size w2 w' → Calls Try.prog 18 #[.agg (repV c' n' k' A' vs'.length z')] w' fun e w'' => e = .returned (.bool (largeB vs')) ∧ Below w'.heap.size w' w'') := Lib.hid (fun w' hb => large_any9 c' n' k' A' vs' z' hs' w' (HRB.out w' _ hb.size hb))
  have HS1 : Hid (∀ w', Below w2.heap.size w2 w' → Calls Try.prog 21 #[.agg (repV c n k A vs.length z), .agg (repV c' n' k' A' vs'.length z')] w' fun e w'' => e = .returned (.bool (sameB c n k vs c' n' k' vs')) ∧ Below w'.heap.size w' w'') := Lib.hid (fun w' hb => same_any9 c n k A vs z c' n' k' A' vs' z' hl hl' w' (HRA.out w' _ hb.size hb) (HRB.out w' _ hb.size hb))
  have HS2 : Hid (∀ w', Below w2.heap.size w2 w' → Calls Try.prog 22 #[.agg (repV c n k A vs.length z), .agg (repV c' n' k' A' vs'.length z')] w' fun e w'' => e = .returned (.bool (sameB c n k vs c' n' k' vs')) ∧ Below w'.heap.size w' w'') := Lib.hid (fun w' hb => rsame_any9 c n k A vs z c' n' k' A' vs' z' hl hl' w' (HRA.out w' _ hb.size hb) (HRB.out w' _ hb.size hb))
  have HS3 : Hid (∀ w', Below w2.heap.size w2 w' → Calls Try.prog 21 #[.agg (repV c n k A vs.length z), .agg (repV c n k A vs.length z)] w' fun e w'' => e = .returned (.bool true) ∧ Below w'.heap.size w' w'') := Lib.hid (fun w' hb => by
    have h := same_any9 c n k A vs z c n k A vs z hl hl w' (HRA.out w' _ hb.size hb) (HRA.out w' _ hb.size hb)
    rw [sameB_self] at h
    exact h)
  have HGA : Hid (largeB vs = false → vs.length ≤ 400 ∧ totT vs ≤ 16384 ∧ (repB c n k vs).length ≤ 20000) := Lib.hid (large_small c n k)
  have H64 : Hid (R64 c ∧ R64 n ∧ R64 k) := ⟨h1, h2, h3⟩
  generalize hsm : sameB c n k vs c' n' k' vs' = sm at *
  clear hsm hA hB hL hl hl' hs hs' h1 h2 h3 HRB
  go_enter Try.func4, Try.ntmps4
  go_upto_region 1 with fail
  change Code.wp _ _ _ _ ((w.alloc (.cells (repV c n k A vs.length z) 51)).alloc (.cells (repV c' n' k' A' vs'.length z') 51))
  rw [← hw2]
  clear hw2
  obtain ⟨lg, hlg⟩ : ∃ lg, largeB vs = lg := ⟨_, rfl⟩
  obtain ⟨lh, hlh⟩ : ∃ lh, largeB vs' = lh := ⟨_, rfl⟩
  rw [hlg] at HLA HGA
  rw [hlh] at HLB
  clear hlg hlh
  rcases lg with _ | _
  case true =>
    go_wp2_with (first
      | (go_at_call 6; (with_reducible refine (HAL.out).mono ?_); rintro e w3 ⟨rfl, hb⟩; have HB3 := Lib.hid hb; have l3 := HLX.out w3 hb; clear hb)
      | (go_at_call 18; (with_reducible refine (HLA.out _ HB3.out).mono ?_); rintro e w4 ⟨rfl, hb⟩; have HB4 := Lib.hid (HB3.out.trans (hb.mono HB3.out.size)); have l4 := HLY.out w4 HB4.out; clear hb))
    go_ret
    exact ⟨rfl, HF.out.trans (HB4.out.mono HF.out.size)⟩
  rcases lh with _ | _
  case true =>
    go_wp2_with (first
      | (go_at_call 6; (with_reducible refine (HAL.out).mono ?_); rintro e w3 ⟨rfl, hb⟩; have HB3 := Lib.hid hb; have l3 := HLX.out w3 hb; clear hb)
      | (go_at_call 18; (with_reducible refine (HLA.out _ HB3.out).mono ?_); rintro e w4 ⟨rfl, hb⟩; have HB4 := Lib.hid (HB3.out.trans (hb.mono HB3.out.size)); have l4 := HLY.out w4 HB4.out; clear hb)
      | (go_at_call 18; (with_reducible refine (HLB.out _ HB4.out).mono ?_); rintro e w5 ⟨rfl, hb⟩; have HB5 := Lib.hid (HB4.out.trans (hb.mono HB4.out.size)); clear hb))
    go_ret
    exact ⟨rfl, HF.out.trans (HB5.out.mono HF.out.size)⟩
  have HG1 := Lib.hid (HGA.out rfl)
  clear HGA
  by_cases hlong : 16384 < l.length
  · have el : decide ((16384 : Int) < (l.length : Int)) = true := decide_eq_true (by omega)
    go_wp2_with (first
      | (go_at_call 6; (with_reducible refine (HAL.out).mono ?_); rintro e w3 ⟨rfl, hb⟩; have HB3 := Lib.hid hb; have l3 := HLX.out w3 hb; clear hb)
      | (go_at_call 18; (with_reducible refine (HLA.out _ HB3.out).mono ?_); rintro e w4 ⟨rfl, hb⟩; have HB4 := Lib.hid (HB3.out.trans (hb.mono HB3.out.size)); have l4 := HLY.out w4 HB4.out; clear hb)
      | (go_at_call 18; (with_reducible refine (HLB.out _ HB4.out).mono ?_); rintro e w5 ⟨rfl, hb⟩; have HB5 := Lib.hid (HB4.out.trans (hb.mono HB4.out.size)); clear hb))
    go_ret
    exact ⟨rfl, HF.out.trans (HB5.out.mono HF.out.size)⟩
  have el : decide ((16384 : Int) < (l.length : Int)) = false := decide_eq_false (by omega)
  have HLL : Hid (l.length ≤ 20000) := Lib.hid (by omega)
  go_upto_region 5 with (first
    | (go_at_call 6; (with_reducible refine (HAL.out).mono ?_); rintro e w3 ⟨rfl, hb⟩; have HB3 := Lib.hid hb; have l3 := HLX.out w3 hb; clear hb)
    | (go_at_call 18; (with_reducible refine (HLA.out _ HB3.out).mono ?_); rintro e w4 ⟨rfl, hb⟩; have HB4 := Lib.hid (HB3.out.trans (hb.mono HB3.out.size)); have l4 := HLY.out w4 HB4.out; clear hb)
    | (go_at_call 18; (with_reducible refine (HLB.out _ HB4.out).mono ?_); rintro e w5 ⟨rfl, hb⟩; have HB5 := Lib.hid (HB4.out.trans (hb.mono HB4.out.size)); clear hb))
  clear HLA HLB HAL HB3 HB4 l3 l4 hlong el
  have HSZ : Hid (w2.heap.size ≤ w5.heap.size) := HB5.out.size
  have HX1 : Hid (Box (w5.alloc (.cells #[.slice none 0 0] 44)) w5.heap.size 44 #[.slice none 0 0]) := Box.made w5 _ _
  have HB6 : Hid (Below w2.heap.size w2 (w5.alloc (.cells #[.slice none 0 0] 44))) := HB5.out.alloc HSZ.out _
  clear HB5
  go_upto_region 6 with fail
  generalize w5.alloc (.cells #[.slice none 0 0] 44) = w6 at *
  generalize w5.heap.size = a1 at *
  have l6 := HLX.out w6 HB6.out
  have HR1 : Hid (Wr w6 a1 a1 []) := wr_new HX1.out (Nat.le_refl _)
  have HC6 : Hid (Calls Try.prog 19 #[.pointer (some ⟨a1, 0, none⟩), .agg (repV c n k A vs.length z)] w6 fun e w' => e = .returned (.tuple #[]) ∧ Wr w' a1 a1 (repB c n k vs) ∧ WF a1 w6 w') := Lib.hid (by obtain ⟨k1, k2, k3⟩ := HG1.out; exact wreply_any a1 a1 [] c n k A vs z w6 HR1.out (by simp) (by omega) (by omega) (HRA.out w6 a1 HSZ.out HB6.out))
  have HRP : Hid (∀ w', Below w2.heap.size w2 w' → Calls Try.prog 20 #[.agg (repV c n k A vs.length z)] w' fun e w'' => e = .returned (str (repB c n k vs)) ∧ Below w'.heap.size w' w'') := Lib.hid (fun w' hb => by obtain ⟨k1, k2, k3⟩ := HG1.out; obtain ⟨i1, i2, i3⟩ := H64.out; exact repbytes_any c n k i1 i2 i3 A vs z (by omega) (by omega) w' (HRA.out w' _ hb.size hb))
  obtain ⟨B1, hB1⟩ : ∃ B1, repB c n k vs = B1 := ⟨_, rfl⟩
  rw [hB1] at HC6 HRP HG1
  clear hB1 H64
  go_upto_region 7 with (go_at_call 19; (with_reducible refine (HC6.out).mono ?_); rintro e w7 ⟨rfl, hw, hf⟩; have HB7 : Hid (Below w2.heap.size w2 w7) := Lib.hid (HB6.out.trans ((hf.below HR1.out).mono HSZ.out)); have HR7 := Lib.hid hw; clear hw hf)
  clear HC6 HX1 HR1 l6 HB6 HRA
  have HB7d : Hid (Below w7.heap.size w7 w7.drew) := (Below.refl _ _).drew
  have HT : Hid (∀ w', Below w7.heap.size w7 w' → Below w2.heap.size w2 w') := Lib.hid (fun w' hb => HB7.out.trans (hb.mono HB7.out.size))
  have HSX : Hid (∀ w', Below w7.heap.size w7 w' → w'.rangeAt w.heap.size 0 (repV c n k A vs.length z).toList) := Lib.hid (fun w' hb => Box.range (HX.out.below (HT.out w' hb) HX.out.lt))
  have HSY : Hid (∀ w', Below w7.heap.size w7 w' → w'.rangeAt (w.heap.size + 1) 0 (repV c' n' k' A' vs'.length z').toList) := Lib.hid (fun w' hb => Box.range (HY.out.below (HT.out w' hb) HY.out.lt))
  have HY1 : Hid (∀ w', Below w7.heap.size w7 w' → Calls Try.prog 16 #[.pointer (some ⟨a1, 0, none⟩)] w' (BytesIs w' B1)) := Lib.hid (fun w' hb => bytes_any a1 a1 B1 w' (HR7.out.below_size hb) (by have := HG1.out; omega))
  have hu3 := Try.underlying51
  have HZX := rep_list c n k A vs.length z
  have HZY := rep_list c' n' k' A' vs'.length z'
  go_cut [32, 33, 34, 35, 36, 37, 38, 39, 40, 41, 42, 43, 44, 45, 46, 47, 48, 49, 50, 51, 52] (fun _ _ _ _ _ _ _ _ _ _ _ _ _ _ _ _ _ _ _ _ t wx => t = .bool false ∧ Hid (Below w7.heap.size w7 wx))
  case first =>
    clear HR7 HX HY HB7
    refine wp_region_held_drew (S := fun w' => Below w7.heap.size w7 w') (by kernel_rfl) HB7d.out (fun hS => ?_)
    clear HB7d
    (refine wpAnyH_take (i := 0) (v := .pointer (some ⟨a1, 0, none⟩)) rfl (by kernel_rfl) (by kernel_rfl) (by kernel_rfl) (fun _ _ _ h => h) (Or.inl ⟨by kernel_rfl, fun w hSw => by go_simp⟩) hS ?_)
    (try simp only [Act.put])
    (refine wpAnyH_take (i := 3) (v := .agg (repV c n k A vs.length z)) rfl (by kernel_rfl) (by kernel_rfl) (by kernel_rfl) (fun _ _ _ h => h) (yieldsIf_load_mid (by kernel_rfl) 51 (.tmp 3) rfl w.heap.size (0) (by kernel_rfl) ((repV c n k A vs.length z).toList) _ (fun w h => HSX.out w h) hu3 rfl HZX) hS ?_)
    (try simp only [Act.put])
    refine wpAnyH_ready (rs := [1]) (by decide +kernel) (by simp) (AllReadyH.cons rfl (fun K hK => ?_) AllReadyH.nil)
    go_simp
    (go_at_call 16; (with_reducible refine (HY1.out _ hS).mono ?_); rintro e u1 ⟨A1, c1, rfl, _, _, hsee, hb⟩)
    have HV1 := Lib.hid hsee
    clear hsee
    refine hK.out _ _ (hS.trans (hb.mono hS.size)) (fun hS => ?_)
    clear hK K
    (try simp only [Act.put])
    clear hb
    refine wpAnyH_ready (rs := [2, 4]) (by decide +kernel) (by simp) (AllReadyH.cons rfl (fun K hK => ?_) (AllReadyH.cons rfl (fun K hK => ?_) AllReadyH.nil))
    · have hcv2 := convert_sees (P := Try.prog) 32 5 9 Try.underlying32 Try.underlying5 Try.underlying9 HV1.out c1
      go_simp
      refine hK.out _ _ (hS) (fun hS => ?_)
      clear hK K
      (try simp only [Act.put])
      refine wpAnyH_ready (rs := [4]) (by decide +kernel) (by simp) (AllReadyH.cons rfl (fun K hK => ?_) AllReadyH.nil)
      go_simp
      (go_at_call 20; (with_reducible refine (HRP.out _ (HT.out _ hS)).mono ?_); rintro e u4 ⟨rfl, hb⟩)
      refine hK.out _ _ (hS.trans (hb.mono hS.size)) (fun hS => ?_)
      clear hK K
      (try simp only [Act.put])
      clear hb
      (refine wpAnyH_take (i := 5) (v := .bool false) rfl (by kernel_rfl) (by kernel_rfl) (by kernel_rfl) (fun _ _ _ h => h) (Or.inl ⟨by kernel_rfl, fun w hSw => by go_simp⟩) hS ?_)
      (try simp only [Act.put])
      (refine wpAnyH_take (i := 6) (v := .bool false) rfl (by kernel_rfl) (by kernel_rfl) (by kernel_rfl) (fun _ _ _ h => h) (Or.inl ⟨by kernel_rfl, fun w hSw => by go_simp⟩) hS ?_)
      (try simp only [Act.put])
      (refine wpAnyH_take (i := 7) (v := .agg (repV c n k A vs.length z)) rfl (by kernel_rfl) (by kernel_rfl) (by kernel_rfl) (fun _ _ _ h => h) (yieldsIf_load_mid (by kernel_rfl) 51 (.tmp 3) rfl w.heap.size (0) (by kernel_rfl) ((repV c n k A vs.length z).toList) _ (fun w h => HSX.out w h) hu3 rfl HZX) hS ?_)
      (try simp only [Act.put])
      (refine wpAnyH_take (i := 8) (v := .agg (repV c' n' k' A' vs'.length z')) rfl (by kernel_rfl) (by kernel_rfl) (by kernel_rfl) (fun _ _ _ h => h) (yieldsIf_load_mid (by kernel_rfl) 51 (.tmp 4) rfl (w.heap.size + 1) (0) (by kernel_rfl) ((repV c' n' k' A' vs'.length z').toList) _ (fun w h => HSY.out w h) hu3 rfl HZY) hS ?_)
      (try simp only [Act.put])
      (refine wpAnyH_take (i := 10) (v := .agg (repV c n k A vs.length z)) rfl (by kernel_rfl) (by kernel_rfl) (by kernel_rfl) (fun _ _ _ h => h) (yieldsIf_load_mid (by kernel_rfl) 51 (.tmp 3) rfl w.heap.size (0) (by kernel_rfl) ((repV c n k A vs.length z).toList) _ (fun w h => HSX.out w h) hu3 rfl HZX) hS ?_)
      (try simp only [Act.put])
      (refine wpAnyH_take (i := 11) (v := .agg (repV c' n' k' A' vs'.length z')) rfl (by kernel_rfl) (by kernel_rfl) (by kernel_rfl) (fun _ _ _ h => h) (yieldsIf_load_mid (by kernel_rfl) 51 (.tmp 4) rfl (w.heap.size + 1) (0) (by kernel_rfl) ((repV c' n' k' A' vs'.length z').toList) _ (fun w h => HSY.out w h) hu3 rfl HZY) hS ?_)
      (try simp only [Act.put])
      refine wpAnyH_ready (rs := [9]) (by decide +kernel) (by simp) (AllReadyH.cons rfl (fun K hK => ?_) AllReadyH.nil)
      go_simp
      (go_at_call 21; (with_reducible refine (HS1.out _ (HT.out _ hS)).mono ?_); rintro e u9 ⟨rfl, hb⟩)
      refine hK.out _ _ (hS.trans (hb.mono hS.size)) (fun hS => ?_)
      clear hK K
      (try simp only [Act.put])
      clear hb
      refine wpAnyH_ready (rs := [12]) (by decide +kernel) (by simp) (AllReadyH.cons rfl (fun K hK => ?_) AllReadyH.nil)
      go_simp
      (go_at_call 22; (with_reducible refine (HS2.out _ (HT.out _ hS)).mono ?_); rintro e u12 ⟨rfl, hb⟩)
      refine hK.out _ _ (hS.trans (hb.mono hS.size)) (fun hS => ?_)
      clear hK K
      (try simp only [Act.put])
      clear hb
      (refine wpAnyH_take (i := 13) (v := .bool false) rfl (by kernel_rfl) (by kernel_rfl) (by kernel_rfl) (fun _ _ _ h => h) (Or.inl ⟨by kernel_rfl, fun w hSw => by go_simp⟩) hS ?_)
      (try simp only [Act.put])
      (refine wpAnyH_take (i := 14) (v := .bool false) rfl (by kernel_rfl) (by kernel_rfl) (by kernel_rfl) (fun _ _ _ h => h) (Or.inl ⟨by kernel_rfl, fun w hSw => by go_simp⟩) hS ?_)
      (try simp only [Act.put])
      (refine wpAnyH_take (i := 15) (v := .bool false) rfl (by kernel_rfl) (by kernel_rfl) (by kernel_rfl) (fun _ _ _ h => h) (Or.inl ⟨by kernel_rfl, fun w hSw => by go_simp⟩) hS ?_)
      (try simp only [Act.put])
      (refine wpAnyH_take (i := 16) (v := .agg (repV c n k A vs.length z)) rfl (by kernel_rfl) (by kernel_rfl) (by kernel_rfl) (fun _ _ _ h => h) (yieldsIf_load_mid (by kernel_rfl) 51 (.tmp 3) rfl w.heap.size (0) (by kernel_rfl) ((repV c n k A vs.length z).toList) _ (fun w h => HSX.out w h) hu3 rfl HZX) hS ?_)
      (try simp only [Act.put])
      (refine wpAnyH_take (i := 17) (v := .agg (repV c n k A vs.length z)) rfl (by kernel_rfl) (by kernel_rfl) (by kernel_rfl) (fun _ _ _ h => h) (yieldsIf_load_mid (by kernel_rfl) 51 (.tmp 3) rfl w.heap.size (0) (by kernel_rfl) ((repV c n k A vs.length z).toList) _ (fun w h => HSX.out w h) hu3 rfl HZX) hS ?_)
      (try simp only [Act.put])
      refine wpAnyH_ready (rs := [18]) (by decide +kernel) (by simp) (AllReadyH.cons rfl (fun K hK => ?_) AllReadyH.nil)
      go_simp
      (go_at_call 21; (with_reducible refine (HS3.out _ (HT.out _ hS)).mono ?_); rintro e u18 ⟨rfl, hb⟩)
      refine hK.out _ _ (hS.trans (hb.mono hS.size)) (fun hS => ?_)
      clear hK K
      (try simp only [Act.put])
      clear hb
      (refine wpAnyH_take (i := 19) (v := .bool false) rfl (by kernel_rfl) (by kernel_rfl) (by kernel_rfl) (fun _ _ _ h => h) (Or.inl ⟨by kernel_rfl, fun w hSw => by go_simp⟩) hS ?_)
      (try simp only [Act.put])
      (refine wpAnyH_take (i := 20) (v := .bool false) rfl (by kernel_rfl) (by kernel_rfl) (by kernel_rfl) (fun _ _ _ h => h) (Or.inl ⟨by kernel_rfl, fun w hSw => by go_simp⟩) hS ?_)
      (try simp only [Act.put])
      refine wpAnyH_done (by kernel_rfl) ?_ _
      have HSS := Lib.hid hS
      clear hS
      go_wp2_with fail
      go_meet
      exact ⟨rfl, HSS⟩
    · go_simp
      (go_at_call 20; (with_reducible refine (HRP.out _ (HT.out _ hS)).mono ?_); rintro e u4 ⟨rfl, hb⟩)
      have HV1 := Lib.hid ((HV1.out.below hb).more hb.size)
      refine hK.out _ _ (hS.trans (hb.mono hS.size)) (fun hS => ?_)
      clear hK K
      (try simp only [Act.put])
      clear hb
      refine wpAnyH_ready (rs := [2]) (by decide +kernel) (by simp) (AllReadyH.cons rfl (fun K hK => ?_) AllReadyH.nil)
      have hcv2 := convert_sees (P := Try.prog) 32 5 9 Try.underlying32 Try.underlying5 Try.underlying9 HV1.out c1
      go_simp
      refine hK.out _ _ (hS) (fun hS => ?_)
      clear hK K
      (try simp only [Act.put])
      (refine wpAnyH_take (i := 5) (v := .bool false) rfl (by kernel_rfl) (by kernel_rfl) (by kernel_rfl) (fun _ _ _ h => h) (Or.inl ⟨by kernel_rfl, fun w hSw => by go_simp⟩) hS ?_)
      (try simp only [Act.put])
      (refine wpAnyH_take (i := 6) (v := .bool false) rfl (by kernel_rfl) (by kernel_rfl) (by kernel_rfl) (fun _ _ _ h => h) (Or.inl ⟨by kernel_rfl, fun w hSw => by go_simp⟩) hS ?_)
      (try simp only [Act.put])
      (refine wpAnyH_take (i := 7) (v := .agg (repV c n k A vs.length z)) rfl (by kernel_rfl) (by kernel_rfl) (by kernel_rfl) (fun _ _ _ h => h) (yieldsIf_load_mid (by kernel_rfl) 51 (.tmp 3) rfl w.heap.size (0) (by kernel_rfl) ((repV c n k A vs.length z).toList) _ (fun w h => HSX.out w h) hu3 rfl HZX) hS ?_)
      (try simp only [Act.put])
      (refine wpAnyH_take (i := 8) (v := .agg (repV c' n' k' A' vs'.length z')) rfl (by kernel_rfl) (by kernel_rfl) (by kernel_rfl) (fun _ _ _ h => h) (yieldsIf_load_mid (by kernel_rfl) 51 (.tmp 4) rfl (w.heap.size + 1) (0) (by kernel_rfl) ((repV c' n' k' A' vs'.length z').toList) _ (fun w h => HSY.out w h) hu3 rfl HZY) hS ?_)
      (try simp only [Act.put])
      (refine wpAnyH_take (i := 10) (v := .agg (repV c n k A vs.length z)) rfl (by kernel_rfl) (by kernel_rfl) (by kernel_rfl) (fun _ _ _ h => h) (yieldsIf_load_mid (by kernel_rfl) 51 (.tmp 3) rfl w.heap.size (0) (by kernel_rfl) ((repV c n k A vs.length z).toList) _ (fun w h => HSX.out w h) hu3 rfl HZX) hS ?_)
      (try simp only [Act.put])
      (refine wpAnyH_take (i := 11) (v := .agg (repV c' n' k' A' vs'.length z')) rfl (by kernel_rfl) (by kernel_rfl) (by kernel_rfl) (fun _ _ _ h => h) (yieldsIf_load_mid (by kernel_rfl) 51 (.tmp 4) rfl (w.heap.size + 1) (0) (by kernel_rfl) ((repV c' n' k' A' vs'.length z').toList) _ (fun w h => HSY.out w h) hu3 rfl HZY) hS ?_)
      (try simp only [Act.put])
      refine wpAnyH_ready (rs := [9]) (by decide +kernel) (by simp) (AllReadyH.cons rfl (fun K hK => ?_) AllReadyH.nil)
      go_simp
      (go_at_call 21; (with_reducible refine (HS1.out _ (HT.out _ hS)).mono ?_); rintro e u9 ⟨rfl, hb⟩)
      refine hK.out _ _ (hS.trans (hb.mono hS.size)) (fun hS => ?_)
      clear hK K
      (try simp only [Act.put])
      clear hb
      refine wpAnyH_ready (rs := [12]) (by decide +kernel) (by simp) (AllReadyH.cons rfl (fun K hK => ?_) AllReadyH.nil)
      go_simp
      (go_at_call 22; (with_reducible refine (HS2.out _ (HT.out _ hS)).mono ?_); rintro e u12 ⟨rfl, hb⟩)
      refine hK.out _ _ (hS.trans (hb.mono hS.size)) (fun hS => ?_)
      clear hK K
      (try simp only [Act.put])
      clear hb
      (refine wpAnyH_take (i := 13) (v := .bool false) rfl (by kernel_rfl) (by kernel_rfl) (by kernel_rfl) (fun _ _ _ h => h) (Or.inl ⟨by kernel_rfl, fun w hSw => by go_simp⟩) hS ?_)
      (try simp only [Act.put])
      (refine wpAnyH_take (i := 14) (v := .bool false) rfl (by kernel_rfl) (by kernel_rfl) (by kernel_rfl) (fun _ _ _ h => h) (Or.inl ⟨by kernel_rfl, fun w hSw => by go_simp⟩) hS ?_)
      (try simp only [Act.put])
      (refine wpAnyH_take (i := 15) (v := .bool false) rfl (by kernel_rfl) (by kernel_rfl) (by kernel_rfl) (fun _ _ _ h => h) (Or.inl ⟨by kernel_rfl, fun w hSw => by go_simp⟩) hS ?_)
      (try simp only [Act.put])
      (refine wpAnyH_take (i := 16) (v := .agg (repV c n k A vs.length z)) rfl (by kernel_rfl) (by kernel_rfl) (by kernel_rfl) (fun _ _ _ h => h) (yieldsIf_load_mid (by kernel_rfl) 51 (.tmp 3) rfl w.heap.size (0) (by kernel_rfl) ((repV c n k A vs.length z).toList) _ (fun w h => HSX.out w h) hu3 rfl HZX) hS ?_)
      (try simp only [Act.put])
      (refine wpAnyH_take (i := 17) (v := .agg (repV c n k A vs.length z)) rfl (by kernel_rfl) (by kernel_rfl) (by kernel_rfl) (fun _ _ _ h => h) (yieldsIf_load_mid (by kernel_rfl) 51 (.tmp 3) rfl w.heap.size (0) (by kernel_rfl) ((repV c n k A vs.length z).toList) _ (fun w h => HSX.out w h) hu3 rfl HZX) hS ?_)
      (try simp only [Act.put])
      refine wpAnyH_ready (rs := [18]) (by decide +kernel) (by simp) (AllReadyH.cons rfl (fun K hK => ?_) AllReadyH.nil)
      go_simp
      (go_at_call 21; (with_reducible refine (HS3.out _ (HT.out _ hS)).mono ?_); rintro e u18 ⟨rfl, hb⟩)
      refine hK.out _ _ (hS.trans (hb.mono hS.size)) (fun hS => ?_)
      clear hK K
      (try simp only [Act.put])
      clear hb
      (refine wpAnyH_take (i := 19) (v := .bool false) rfl (by kernel_rfl) (by kernel_rfl) (by kernel_rfl) (fun _ _ _ h => h) (Or.inl ⟨by kernel_rfl, fun w hSw => by go_simp⟩) hS ?_)
      (try simp only [Act.put])
      (refine wpAnyH_take (i := 20) (v := .bool false) rfl (by kernel_rfl) (by kernel_rfl) (by kernel_rfl) (fun _ _ _ h => h) (Or.inl ⟨by kernel_rfl, fun w hSw => by go_simp⟩) hS ?_)
      (try simp only [Act.put])
      refine wpAnyH_done (by kernel_rfl) ?_ _
      have HSS := Lib.hid hS
      clear hS
      go_wp2_with fail
      go_meet
      exact ⟨rfl, HSS⟩
  case rest =>
    obtain ⟨rfl, HBC⟩ := hcut
    clear HY1 HS1 HS2 HS3 HR7 HSY HZY HB7d
    have HBCd : Hid (Below w7.heap.size w7 wc.drew) := HBC.out.drew
    have HCV : Hid (∀ w', Below w7.heap.size w7 w' → (convert 32 9 (.slice AL l.length cl)).run Try.prog w' = .ok (str l) w') := Lib.hid (fun w' hb => convert_sees (P := Try.prog) 32 5 9 Try.underlying32 Try.underlying5 Try.underlying9 (HRL.out w' _ (HT.out w' hb).size (HT.out w' hb)) cl)
    go_upto_region 9 with fail
    refine wp_region_held_drew (S := fun w' => Below w7.heap.size w7 w') (by kernel_rfl) HBCd.out (fun hS => ?_)
    clear HBCd HBC
    (refine wpAnyH_take (i := 0) (v := .slice AL l.length cl) rfl (by kernel_rfl) (by kernel_rfl) (by kernel_rfl) (fun _ _ _ h => h) (Or.inl ⟨by kernel_rfl, fun w hSw => by go_simp⟩) hS ?_)
    (try simp only [Act.put])
    (refine wpAnyH_take (i := 1) (v := (str l)) rfl (by kernel_rfl) (by kernel_rfl) (by kernel_rfl) (fun _ _ _ h => h) (Or.inl ⟨by kernel_rfl, fun w hSw => by have hc := HCV.out w hSw; go_simp⟩) hS ?_)
    (try simp only [Act.put])
    (refine wpAnyH_take (i := 2) (v := .agg (repV c n k A vs.length z)) rfl (by kernel_rfl) (by kernel_rfl) (by kernel_rfl) (fun _ _ _ h => h) (yieldsIf_load_mid (by kernel_rfl) 51 (.tmp 3) rfl w.heap.size (0) (by kernel_rfl) ((repV c n k A vs.length z).toList) _ (fun w h => HSX.out w h) hu3 rfl HZX) hS ?_)
    (try simp only [Act.put])
    (refine wpAnyH_take (i := 5) (v := .int .i64 0) rfl (by kernel_rfl) (by kernel_rfl) (by kernel_rfl) (fun _ _ _ h => h) (Or.inl ⟨by kernel_rfl, fun w hSw => by go_simp⟩) hS ?_)
    (try simp only [Act.put])
    refine wpAnyH_ready (rs := [3]) (by decide +kernel) (by simp) (AllReadyH.cons rfl (fun K hK => ?_) AllReadyH.nil)
    go_simp
    (go_at_call 20; (with_reducible refine (HRP.out _ (HT.out _ hS)).mono ?_); rintro e u3 ⟨rfl, hb⟩)
    refine hK.out _ _ (hS.trans (hb.mono hS.size)) (fun hS => ?_)
    clear hK K
    (try simp only [Act.put])
    clear hb
    (refine wpAnyH_take (i := 4) (v := .agg #[str l, str B1]) rfl (by kernel_rfl) (by kernel_rfl) (by kernel_rfl) (fun _ _ _ h => h) (Or.inl ⟨by kernel_rfl, fun w hSw => by go_simp⟩) hS ?_)
    (try simp only [Act.put])
    refine wpAnyH_done (by kernel_rfl) ?_ _
    have HB9 := Lib.hid hS
    clear hS
    go_simp
    go_upto_region 10 with fail
    have HBW := HB9
    clear HCV HRP HSX HX HY HLX HLY hu3 HZX HRL hS HB9
    generalize hu8 : u3 = u8 at *
    clear hu8
    go_loopw [58] (fun i wr => ∃ j : Nat, j ≤ 2 ∧ i = .int .i64 (j : Int) ∧ Hid (Below w7.heap.size w7 wr)) (fun i _ => 2 - (intOf i).toNat)
    case atStart => exact ⟨0, by omega, rfl, HBW⟩
    case round =>
      obtain ⟨j, hj, rfl, HBR⟩ := hrel
      obtain rfl | rfl | rfl : j = 0 ∨ j = 1 ∨ j = 2 := by omega
      · rw [show ((0 : Nat) : Int) = 0 from rfl]
        have TL : Hid (l.length ≤ 20000) := Lib.hid (by have := HLL.out; have := HG1.out; omega)
        have HP0 : Hid (Below w7.heap.size w7 wr) := HBR
        have hix := idx_two0 l B1 wr
        obtain ⟨cap, wv, hcv, hsv, hbv⟩ := conv_str l wr
        have HSV := Lib.hid hsv
        have HBV := Lib.hid hbv
        have HRD := Lib.hid (read_any wv.heap.size (some ⟨wr.heap.size, 0, none⟩) l cap wv hsv (Nat.le_refl _) (by have := TL.out; omega))
        clear hsv hbv
        go_upto_region 13 with (go_at_call 8; (with_reducible refine (HRD.out).mono ?_); rintro e w9 ⟨a9, rfl, hr, hge, hb⟩; have HR9 := Lib.hid hr; have HB9 := Lib.hid hb; have HE9 := Lib.hid hge; clear hr hb hge)
        have HTW : Hid (TwX wr a9 w9.heap.size l (w9.alloc (.cells #[str l, .bool false] 39))) := by
          have hs9 := HB9.out.size
          have h9 := HR9.out.lt
          have hbb := HBV.out.trans (HB9.out.mono HBV.out.size)
          exact ⟨HR9.out.alloc _, Box.made _ _ _, Nat.ne_of_lt h9, Nat.le_trans HBV.out.size HE9.out, hbb.size, hbb.alloc hbb.size _⟩
        generalize w9.alloc (.cells #[str l, .bool false] 39) = w10 at *
        generalize w9.heap.size = m9 at *
        clear hcv HSV HRD HR9 HB9 HE9 hix
        obtain ⟨C, hC⟩ : ∃ C, rpC l false = C := ⟨_, rfl⟩
        obtain ⟨M, hM⟩ : ∃ M, rpM l false = M := ⟨_, rfl⟩
        obtain ⟨K, hK⟩ : ∃ K, rpK l false = K := ⟨_, rfl⟩
        obtain ⟨V, hV⟩ : ∃ V, rpV l false = V := ⟨_, rfl⟩
        obtain ⟨F, hFF⟩ : ∃ F, rpF l false = F := ⟨_, rfl⟩
        have HVL : Hid (V.length ≤ maxLen) := Lib.hid (by rw [← hV]; exact Nat.le_trans (rpV_len _ _) (by simp [maxLen]))
        have HKR := Lib.hid (two_readrep wr a9 m9 l w10 HTW.out C M K V F hC hM hK hV hFF)
        clear hC hM hK hV hFF HTW HBV
        go_upto_region 14 with (first
          | (go_at_call 23; (with_reducible refine (HKR.out).mono ?_); rintro e w11 ⟨A11, z11, rfl, hc⟩; have HRK := Lib.hid hc; clear hc)
          | (go_at_call 24; (with_reducible refine (HRK.out).mono ?_); rintro e w12 ⟨A12, z12, rfl, hs1, hs2, hr, hrr, hb⟩; obtain ⟨w13, w14, hst1, hst2, hx, hy, hbl⟩ := two_laid w12 C M K A11 V.length z11 C M K A12 V.length z12; have HX14 := Lib.hid hx.ld_rep; have HY14 := Lib.hid hy.ld_rep; have HS11 := Lib.hid ((hs1.below hbl).more hbl.size); have HS12 := Lib.hid ((hs2.below hbl).more hbl.size); have HR14 := Lib.hid (hr.below hbl hr.lt); have HM14 := Lib.hid (hrr.below hbl hrr.lt); have HB14 := Lib.hid (hb.trans (hbl.mono hb.size)); clear hs1 hs2 hr hrr hb hx hy hbl))
        have lx := HX14.out
        have ly := HY14.out
        have hsm := rsame_any9 C M K A11 V z11 C M K A12 V z12 HVL.out HVL.out w14 HS11.out HS12.out
        rw [sameB_self] at hsm
        have HSM := Lib.hid hsm
        clear hst1 hst2 HKR HRK hsm HS11 HS12 HX14 HY14
        go_upto_region 16 with (first
          | (go_at_call 22; (with_reducible refine (HSM.out).mono ?_); rintro e w15 ⟨rfl, hb⟩; have HB15 := Lib.hid (HB14.out.trans (hb.mono HB14.out.size)); have hr15 := HR14.out.below hb HR14.out.lt; have hm15 := HM14.out.below hb HM14.out.lt; have HGA := Lib.hid (good_any a9 _ _ w15 hr15); have HGM := Lib.hid (rgood_any m9 _ _ w15 hm15); have HEA := Lib.hid (rdend_any a9 _ _ w15 hr15); have HEM := Lib.hid (rend_any m9 _ _ w15 hm15); clear hr15 hm15 hb)
          | (go_at_call 11; (with_reducible refine (HGA.out).mono ?_); rintro e w23 ⟨rfl, rfl⟩)
          | (go_at_call 12; (with_reducible refine (HGM.out).mono ?_); rintro e w24 ⟨rfl, rfl⟩)
          | (go_at_call 13; (with_reducible refine (HEA.out).mono ?_); rintro e w25 ⟨rfl, rfl⟩)
          | (go_at_call 14; (with_reducible refine (HEM.out).mono ?_); rintro e w26 ⟨rfl, rfl⟩))
        have HBN := Lib.hid (HP0.out.trans (HB15.out.mono HP0.out.size))
        clear HGA HGM HEA HEM HSM lx ly
        go_wp2_with fail
        go_roundw
        case rel => exact ⟨1, by omega, by first | rfl | go_num, HBN⟩
        case measure => simp [intOf]
      · rw [show ((1 : Nat) : Int) = 1 from rfl]
        have TL : Hid (B1.length ≤ 20000) := Lib.hid (by have := HLL.out; have := HG1.out; omega)
        have HP0 : Hid (Below w7.heap.size w7 wr) := HBR
        have hix := idx_two1 l B1 wr
        obtain ⟨cap, wv, hcv, hsv, hbv⟩ := conv_str B1 wr
        have HSV := Lib.hid hsv
        have HBV := Lib.hid hbv
        have HRD := Lib.hid (read_any wv.heap.size (some ⟨wr.heap.size, 0, none⟩) B1 cap wv hsv (Nat.le_refl _) (by have := TL.out; omega))
        clear hsv hbv
        go_upto_region 13 with (go_at_call 8; (with_reducible refine (HRD.out).mono ?_); rintro e w9 ⟨a9, rfl, hr, hge, hb⟩; have HR9 := Lib.hid hr; have HB9 := Lib.hid hb; have HE9 := Lib.hid hge; clear hr hb hge)
        have HTW : Hid (TwX wr a9 w9.heap.size B1 (w9.alloc (.cells #[str B1, .bool false] 39))) := by
          have hs9 := HB9.out.size
          have h9 := HR9.out.lt
          have hbb := HBV.out.trans (HB9.out.mono HBV.out.size)
          exact ⟨HR9.out.alloc _, Box.made _ _ _, Nat.ne_of_lt h9, Nat.le_trans HBV.out.size HE9.out, hbb.size, hbb.alloc hbb.size _⟩
        generalize w9.alloc (.cells #[str B1, .bool false] 39) = w10 at *
        generalize w9.heap.size = m9 at *
        clear hcv HSV HRD HR9 HB9 HE9 hix
        obtain ⟨C, hC⟩ : ∃ C, rpC B1 false = C := ⟨_, rfl⟩
        obtain ⟨M, hM⟩ : ∃ M, rpM B1 false = M := ⟨_, rfl⟩
        obtain ⟨K, hK⟩ : ∃ K, rpK B1 false = K := ⟨_, rfl⟩
        obtain ⟨V, hV⟩ : ∃ V, rpV B1 false = V := ⟨_, rfl⟩
        obtain ⟨F, hFF⟩ : ∃ F, rpF B1 false = F := ⟨_, rfl⟩
        have HVL : Hid (V.length ≤ maxLen) := Lib.hid (by rw [← hV]; exact Nat.le_trans (rpV_len _ _) (by simp [maxLen]))
        have HKR := Lib.hid (two_readrep wr a9 m9 B1 w10 HTW.out C M K V F hC hM hK hV hFF)
        clear hC hM hK hV hFF HTW HBV
        go_upto_region 14 with (first
          | (go_at_call 23; (with_reducible refine (HKR.out).mono ?_); rintro e w11 ⟨A11, z11, rfl, hc⟩; have HRK := Lib.hid hc; clear hc)
          | (go_at_call 24; (with_reducible refine (HRK.out).mono ?_); rintro e w12 ⟨A12, z12, rfl, hs1, hs2, hr, hrr, hb⟩; obtain ⟨w13, w14, hst1, hst2, hx, hy, hbl⟩ := two_laid w12 C M K A11 V.length z11 C M K A12 V.length z12; have HX14 := Lib.hid hx.ld_rep; have HY14 := Lib.hid hy.ld_rep; have HS11 := Lib.hid ((hs1.below hbl).more hbl.size); have HS12 := Lib.hid ((hs2.below hbl).more hbl.size); have HR14 := Lib.hid (hr.below hbl hr.lt); have HM14 := Lib.hid (hrr.below hbl hrr.lt); have HB14 := Lib.hid (hb.trans (hbl.mono hb.size)); clear hs1 hs2 hr hrr hb hx hy hbl))
        have lx := HX14.out
        have ly := HY14.out
        have hsm := rsame_any9 C M K A11 V z11 C M K A12 V z12 HVL.out HVL.out w14 HS11.out HS12.out
        rw [sameB_self] at hsm
        have HSM := Lib.hid hsm
        clear hst1 hst2 HKR HRK hsm HS11 HS12 HX14 HY14
        go_upto_region 16 with (first
          | (go_at_call 22; (with_reducible refine (HSM.out).mono ?_); rintro e w15 ⟨rfl, hb⟩; have HB15 := Lib.hid (HB14.out.trans (hb.mono HB14.out.size)); have hr15 := HR14.out.below hb HR14.out.lt; have hm15 := HM14.out.below hb HM14.out.lt; have HGA := Lib.hid (good_any a9 _ _ w15 hr15); have HGM := Lib.hid (rgood_any m9 _ _ w15 hm15); have HEA := Lib.hid (rdend_any a9 _ _ w15 hr15); have HEM := Lib.hid (rend_any m9 _ _ w15 hm15); clear hr15 hm15 hb)
          | (go_at_call 11; (with_reducible refine (HGA.out).mono ?_); rintro e w23 ⟨rfl, rfl⟩)
          | (go_at_call 12; (with_reducible refine (HGM.out).mono ?_); rintro e w24 ⟨rfl, rfl⟩)
          | (go_at_call 13; (with_reducible refine (HEA.out).mono ?_); rintro e w25 ⟨rfl, rfl⟩)
          | (go_at_call 14; (with_reducible refine (HEM.out).mono ?_); rintro e w26 ⟨rfl, rfl⟩))
        have HBN := Lib.hid (HP0.out.trans (HB15.out.mono HP0.out.size))
        clear HGA HGM HEA HEM HSM lx ly
        go_wp2_with fail
        go_roundw
        case rel => exact ⟨2, by omega, by first | rfl | go_num, HBN⟩
        case measure => simp [intOf]
      · rw [show ((2 : Nat) : Int) = 2 from rfl]
        go_wp2
        go_ret
        exact ⟨rfl, HF.out.trans ((HT.out _ HBR.out).mono HF.out.size)⟩
end Go.Proofs.Ytoamcdbemhbphaa
