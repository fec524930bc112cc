/-
  Replies read, by the document: wapentakeref09.ReadReply.
-/
import Derived.Test.YtoamcdbemhbphaaRqRRead
import Derived.Test.YtoamcdbemhbphaaRqRdRep
namespace Go.Proofs.Ytoamcdbemhbphaa
open Go.RowKit

set_option maxRecDepth 100000 in
theorem rrd_below {w w' : World} {a : Nat} {l : List UInt8} {b : Bool} (h : RRd w a l b) (hb : Below w.heap.size w w') : RRd w' a l b := Box.below h hb h.lt
set_option maxRecDepth 100000 in
theorem rrd_none {w w' : World} {a : Nat} {l : List UInt8} {b : Bool} (h : RRd w a l b) (hg : w.grownBy w' none) : RRd w' a l b := Box.grown h hg (by simp)

attribute [local go_sem ↓] ldRep_def stRep_def bdRep_def apAll_def
set_option maxRecDepth 100000 in
set_option maxHeartbeats 4000000 in
theorem rreadrep_any (a : Nat) (l : List UInt8) (b : Bool) (w : World) (h : RRd w a l b) :
    Calls Try.prog 24 #[.pointer (some ⟨a, 0, none⟩)] w (RepIs RRd a l b w) := by
  have HW1 : Hid (QW RRd 51 zrepV w a w.heap.size (w.heap.size + 1) zrepV (l, b) ((w.alloc (.cells zrepV 51)).alloc (.cells zrepV 51))) :=
    ⟨(Box.made _ _ _).alloc _, Box.made_at (by simp) _ _, Box.alloc (Box.alloc h _) _, only_trans (World.grownBy_alloc w _ _) (World.grownBy_alloc _ _ _), h.lt, Nat.le_refl _, by omega, by omega⟩
  have HIN : Hid (∀ w' cs (lo hi : Int) (s : List UInt8 × Bool) (r : Int × List UInt8 × Bool), inV lo hi s.1 s.2 = r → QW RRd 51 zrepV w a w.heap.size (w.heap.size + 1) cs s w' → Calls Try.prog 31 #[.pointer (some ⟨a, 0, none⟩), .int .i64 lo, .int .i64 hi] w' fun e w'' => e = .returned (.int .i64 r.1) ∧ QW RRd 51 zrepV w a w.heap.size (w.heap.size + 1) cs r.2 w'') :=
    Lib.hid (fun w' cs lo hi s r hr hw => by subst hr; exact (rin_any a lo hi s.1 s.2 w' hw.rd).mono fun e w'' ⟨he, hr, hg⟩ => ⟨he, hw.turn hg hr⟩)
  have HTX : Hid (∀ w' c n k v L (s : List UInt8 × Bool) (r : List UInt8 × List UInt8 × Bool), txtV 1024 s.1 s.2 = r → VW RRd w a w.heap.size (w.heap.size + 1) c n k v L s w' → Calls Try.prog 32 #[.pointer (some ⟨a, 0, none⟩), .int .i64 1024] w' fun e w'' => e = .returned (.string ⟨r.1.toArray⟩) ∧ VW RRd w a w.heap.size (w.heap.size + 1) c n k v L r.2 w'') :=
    Lib.hid (fun w' c n k v L s r hr hw => by subst hr; exact (rtext_any a 1024 s.1 s.2 w' hw.rd).mono fun e w'' ⟨he, hr, hg⟩ => ⟨he, hw.turn hg hr⟩)
  have HGD : Hid (∀ w' c n k v L (s : List UInt8 × Bool), VW RRd w a w.heap.size (w.heap.size + 1) c n k v L s w' → Calls Try.prog 12 #[.pointer (some ⟨a, 0, none⟩)] w' fun e w'' => e = .returned (.bool !s.2) ∧ w' = w'') := Lib.hid (fun w' c n k v L s hw => rgood_any a s.1 s.2 w' hw.rd)
  have hg := rp_good (l := l) (b := b)
  have hx := rp_bad (l := l) (b := b)
  have hF := rpF_eq l b
  have hN := rp3_in l b
  have hP := inV_left 0 256 (rp2 l b).2.1 (rp2 l b).2.2
  have e0 := rq0_eq l b
  have e1 := rq1_eq l b
  have e2 := rp2_eq l b
  have e3 := rp3_eq l b
  rw [e3] at hP
  unfold RepIs
  generalize rpC l b = C at *
  generalize rpM l b = M at *
  generalize rpK l b = K at *
  generalize rpV l b = V at *
  generalize rq0 l b = r0 at *
  generalize rq1 l b = r1 at *
  generalize rp2 l b = r2 at *
  generalize rp3 l b = r3 at *
  generalize rpN l b = N at *
  generalize rpF l b = F at *
  obtain ⟨hN1, hN2⟩ := hN
  have HG := Lib.hid hg
  have HX := Lib.hid hx
  have HF := Lib.hid hF
  have HN2 := Lib.hid hN2
  have HN1 := Lib.hid hN1
  have HP := Lib.hid hP
  have E0 := Lib.hid e0
  have E1 := Lib.hid e1
  have E2 := Lib.hid e2
  have E3 := Lib.hid e3
  clear hg hx hF hN1 hN2 hP e0 e1 e2 e3 h
  go_enter Try.func24, Try.ntmps24
  go_upto_region 2 with fail
  change Code.wp _ _ _ _ ((w.alloc (.cells zrepV 51)).alloc (.cells zrepV 51))
  generalize (w.alloc (.cells zrepV 51)).alloc (.cells zrepV 51) = w1 at *
  have HC := Lib.hid (HIN.out w1 _ 1 64 _ r0 E0.out HW1.out)
  go_upto_region 3 with (go_at_call 31; (with_reducible refine (HC.out).mono ?_); rintro e w2 ⟨rfl, hw⟩; have m0 : w2.cell? ⟨w.heap.size + 1, 0, none⟩ = some (.int .i64 0) := hw.box.cell 0; have f0 := hw.box.free 0; have HW2 := Lib.hid hw; clear hw)
  have HW3 : Hid (QW RRd 51 zrepV w a w.heap.size (w.heap.size + 1) #[.int .i64 r0.1, .int .i64 0, .int .i64 0, .slice none 0 0] r0.2 (w2.setCell ⟨w.heap.size + 1, 0, none⟩ (.int .i64 r0.1))) := Lib.hid (HW2.out.put rrd_put (Box.put HW2.out.box 0 _) (only_put (only_refl _ _) _ _))
  clear m0 f0 HC HW1 HW2
  generalize w2.setCell ⟨w.heap.size + 1, 0, none⟩ (.int .i64 r0.1) = w3 at *
  have HC := Lib.hid (HIN.out w3 _ 1 1099511627776 _ r1 E1.out HW3.out)
  go_upto_region 4 with (go_at_call 31; (with_reducible refine (HC.out).mono ?_); rintro e w4 ⟨rfl, hw⟩; have m0 : w4.cell? ⟨w.heap.size + 1, 1, none⟩ = some (.int .i64 0) := hw.box.cell 1; have f0 := hw.box.free 1; have HW4 := Lib.hid hw; clear hw)
  have HW5 : Hid (QW RRd 51 zrepV w a w.heap.size (w.heap.size + 1) #[.int .i64 r0.1, .int .i64 r1.1, .int .i64 0, .slice none 0 0] r1.2 (w4.setCell ⟨w.heap.size + 1, 1, none⟩ (.int .i64 r1.1))) := Lib.hid (HW4.out.put rrd_put (Box.put HW4.out.box 1 _) (only_put (only_refl _ _) _ _))
  clear m0 f0 HC HW3 HW4
  generalize w4.setCell ⟨w.heap.size + 1, 1, none⟩ (.int .i64 r1.1) = w5 at *
  have HC := Lib.hid (HIN.out w5 _ 0 1024 _ r2 E2.out HW5.out)
  go_upto_region 5 with (go_at_call 31; (with_reducible refine (HC.out).mono ?_); rintro e w6 ⟨rfl, hw⟩; have m0 : w6.cell? ⟨w.heap.size + 1, 2, none⟩ = some (.int .i64 0) := hw.box.cell 2; have f0 := hw.box.free 2; have HW6 := Lib.hid hw; clear hw)
  have HW7 : Hid (QW RRd 51 zrepV w a w.heap.size (w.heap.size + 1) #[.int .i64 r0.1, .int .i64 r1.1, .int .i64 r2.1, .slice none 0 0] r2.2 (w6.setCell ⟨w.heap.size + 1, 2, none⟩ (.int .i64 r2.1))) := Lib.hid (HW6.out.put rrd_put (Box.put HW6.out.box 2 _) (only_put (only_refl _ _) _ _))
  clear m0 f0 HC HW5 HW6
  generalize w6.setCell ⟨w.heap.size + 1, 2, none⟩ (.int .i64 r2.1) = w7 at *
  have HC := Lib.hid (HIN.out w7 _ 0 256 _ r3 E3.out HW7.out)
  go_upto_region 7 with (go_at_call 31; (with_reducible refine (HC.out).mono ?_); rintro e w8 ⟨rfl, hw⟩; have HW8 := Lib.hid (VW.of hw); clear hw)
  rw [HN1.out]
  clear HC HW7
  generalize r3.2 = s at *
  clear HIN HN1 E0 E1 E2 E3
  generalize r0.1 = x0 at *
  generalize r1.1 = x1 at *
  generalize r2.1 = x2 at *
  go_loopw [5] (fun i wr => ∃ (j : Nat) (v : Value), j ≤ N ∧ i = .int .i64 (j : Int) ∧ Hid (VW RRd w a w.heap.size (w.heap.size + 1) x0 x1 x2 v (rvsT j s.1 s.2) (rvS j s.1 s.2) wr)) (fun i _ => N - (intOf i).toNat)
  case atStart => exact ⟨0, _, Nat.zero_le _, rfl, Lib.hid (by rw [rvS_zero, rvsT_zero]; exact HW8.out)⟩
  case round =>
    clear HW8
    obtain ⟨j, v, hj, rfl, HW⟩ := hrel
    have HGK := Lib.hid (HGD.out _ _ _ _ _ _ _ HW.out)
    by_cases hlt : j < N
    · have i1 : decide ((j : Int) < (N : Int)) = true := decide_eq_true (by omega)
      have wk : IntKind.i64.wrap ((j : Int) + 1) = ((j + 1 : Nat) : Int) := by
        rw [IntKind.wrap_i64]
        have := HN2.out
        omega
      have i2 : decide (j < N) = true := decide_eq_true hlt
      have HLT := Lib.hid hlt
      obtain ⟨bd, hbd⟩ : ∃ bd, (rvS j s.1 s.2).2 = bd := ⟨_, rfl⟩
      rw [hbd] at HGK
      rcases bd with _ | _
      rotate_left
      · have HNL : Hid (rvS j s.1 s.2 = ([], true)) := Lib.hid (rvS_left HP.out hbd)
        have HFE : Hid (F = ([], true)) := Lib.hid (by rw [HF.out]; exact rvS_past (by omega) HNL.out)
        obtain ⟨z1, z2, z3, z4⟩ := HX.out (by rw [HFE.out])
        have HZ : Hid (C = 0 ∧ M = 0 ∧ K = 0 ∧ V = []) := ⟨z1, z2, z3, z4⟩
        have HRW : Hid (RRd wr a [] true) := by
          have h := HW.out.rd
          rw [HNL.out] at h
          exact h
        have hbd0 := bd_rep0 wr
        obtain ⟨wz, hst, hb, hg⟩ := HW.out.out.st_rep rfl 0 0 0 none 0 0
        have HBZ := Lib.hid hb
        have HRZ := Lib.hid (rrd_put HRW.out hg (Nat.lt_of_lt_of_le HW.out.ha (Nat.le_refl _)))
        have HGZ := Lib.hid (only_new HW.out.far hg (Nat.le_refl _))
        clear hb hg HW HX HG HF hbd z1 z2 z3 z4 HNL HRW
        go_wp2_with (go_at_call 12; (with_reducible refine (HGK.out).mono ?_); rintro e wg ⟨rfl, rfl⟩)
        obtain ⟨z1, z2, z3, z4⟩ := HZ.out
        exact ret_rep rfl rfl rfl HBZ.out ⟨none, 0, by rw [z1, z2, z3, z4]; rfl, .inl (by rw [z4]; rfl), by rw [HFE.out]; exact HRZ.out, HGZ.out, .inl (by rw [z4]; rfl)⟩
      clear hbd
      have HWd := Lib.hid (HW.out.call rrd_below ((Below.refl wr.heap.size wr).drew))
      have HTC := Lib.hid (HTX.out wr.drew _ _ _ _ _ _ _ rfl HWd.out)
      have HSU : Hid (rvsT (j + 1) s.1 s.2 = rvsT j s.1 s.2 ++ [⟨(txtV 1024 (rvS j s.1 s.2).1 (rvS j s.1 s.2).2).1.toArray⟩]) := rvsT_more j s.1 s.2
      have HSS : Hid (rvS (j + 1) s.1 s.2 = (txtV 1024 (rvS j s.1 s.2).1 (rvS j s.1 s.2).2).2) := rvS_succ j s.1 s.2
      have HLL : Hid ((rvsT j s.1 s.2).length = j) := rvsT_len _ _ _
      have c3 := HWd.out.box.cell 3
      simp only [List.getElem?_toArray, List.getElem?_cons_zero, List.getElem?_cons_succ] at c3
      clear hlt hj HX HG HF
      generalize txtV 1024 (rvS j s.1 s.2).1 (rvS j s.1 s.2).2 = tx at *
      generalize rvsT j s.1 s.2 = L at *
      generalize rvS j s.1 s.2 = sj at *
      go_wp2_with (go_at_call 12; (with_reducible refine (HGK.out).mono ?_); rintro e wg ⟨rfl, rfl⟩)
      refine wp_region_held_drew (S := fun _ => True) (by kernel_rfl) trivial (fun hS => ?_)
      (refine wpAnyH_take (i := 0) (v := .pointer (some ⟨w.heap.size + 1, 3, none⟩)) rfl (by kernel_rfl) (by kernel_rfl) (by kernel_rfl) (fun _ _ _ h => h) (Or.inl ⟨by kernel_rfl, fun w hSw => by go_simp⟩) hS ?_)
      (try simp only [Act.put])
      (refine wpAnyH_take (i := 2) (v := .pointer (some ⟨a, 0, none⟩)) rfl (by kernel_rfl) (by kernel_rfl) (by kernel_rfl) (fun _ _ _ h => h) (Or.inl ⟨by kernel_rfl, fun w hSw => by go_simp⟩) hS ?_)
      (try simp only [Act.put])
      refine wpAnyH_ready (rs := [1, 3]) (by decide +kernel) (by simp) (AllReadyH.cons rfl (fun K hK => ?_) (AllReadyH.cons rfl (fun K hK => ?_) AllReadyH.nil))
      · go_simp
        refine hK.out _ _ trivial (fun hS => ?_)
        clear hK K
        (try simp only [Act.put])
        refine wpAnyH_ready (rs := [3]) (by decide +kernel) (by simp) (AllReadyH.cons rfl (fun K hK => ?_) AllReadyH.nil)
        go_simp
        (go_at_call 32; (with_reducible refine (HTC.out).mono ?_); rintro e w5 ⟨rfl, hw⟩)
        refine hK.out _ _ trivial (fun hS => ?_)
        clear hK K
        (try simp only [Act.put])
        have HW5 := Lib.hid hw
        have c3b := hw.box.cell 3
        simp only [List.getElem?_toArray, List.getElem?_cons_zero, List.getElem?_cons_succ] at c3b
        clear hw
        refine wpAnyH_ready (rs := [4]) (by decide +kernel) (by simp) (AllReadyH.cons rfl (fun K hK => ?_) AllReadyH.nil)
        go_simp
        refine hK.out _ _ trivial (fun hS => ?_)
        clear hK K
        (try simp only [Act.put])
        have HW6 := Lib.hid (HW5.out.call rrd_below ((Below.refl w5.heap.size w5).alloc (Nat.le_refl _) (.cells #[.string ⟨tx.1.toArray⟩] 9)))
        have HQ6 : Hid (Box (w5.alloc (.cells #[.string ⟨tx.1.toArray⟩] 9)) w5.heap.size 9 #[.string ⟨tx.1.toArray⟩]) := Box.made _ _ _
        have c3c := HW6.out.box.cell 3
        simp only [List.getElem?_toArray, List.getElem?_cons_zero, List.getElem?_cons_succ] at c3c
        obtain ⟨g, cap, w7, hap, hc7, hf7, hw7⟩ := HW6.out.push rrd_put rrd_none HQ6.out (by rw [HLL.out]; have := HN2.out; have := HLT.out; omega)
        have HW7 := Lib.hid hw7
        clear hw7
        refine wpAnyH_ready (rs := [5]) (by decide +kernel) (by simp) (AllReadyH.cons rfl (fun K hK => ?_) AllReadyH.nil)
        go_simp
        refine hK.out _ _ trivial (fun hS => ?_)
        clear hK K
        (try simp only [Act.put])
        (refine wpAnyH_take (i := 6) (v := .pointer (some ⟨w.heap.size + 1, 3, none⟩)) rfl (by kernel_rfl) (by kernel_rfl) (by kernel_rfl) (fun _ _ _ h => h) (Or.inl ⟨by kernel_rfl, fun w hSw => by go_simp⟩) hS ?_)
        (try simp only [Act.put])
        refine wpAnyH_ready (rs := [7]) (by decide +kernel) (by simp) (AllReadyH.cons rfl (fun K hK => ?_) AllReadyH.nil)
        go_simp
        refine hK.out _ _ trivial (fun hS => ?_)
        clear hK K
        (try simp only [Act.put])
        refine wpAnyH_done (by kernel_rfl) ?_ _
        clear hap hc7 hf7 c3 c3b c3c HW5 HW6 HQ6
        generalize w7.setCell ⟨w.heap.size + 1, 3, none⟩ (.slice (some ⟨g, 0, none⟩) (L.length + 1) cap) = w8 at *
        rw [← HSU.out, ← HSS.out] at HW7
        go_wp2
        go_roundw
        case rel => exact ⟨j + 1, _, HLT.out, by go_num, HW7⟩
        case measure => have := HLT.out; simp [intOf]; omega
      · go_simp
        (go_at_call 32; (with_reducible refine (HTC.out).mono ?_); rintro e w5 ⟨rfl, hw⟩)
        refine hK.out _ _ trivial (fun hS => ?_)
        clear hK K
        (try simp only [Act.put])
        have HW5 := Lib.hid hw
        have c3b := hw.box.cell 3
        simp only [List.getElem?_toArray, List.getElem?_cons_zero, List.getElem?_cons_succ] at c3b
        clear hw
        refine wpAnyH_ready (rs := [1, 4]) (by decide +kernel) (by simp) (AllReadyH.cons rfl (fun K hK => ?_) (AllReadyH.cons rfl (fun K hK => ?_) AllReadyH.nil))
        · go_simp
          refine hK.out _ _ trivial (fun hS => ?_)
          clear hK K
          (try simp only [Act.put])
          refine wpAnyH_ready (rs := [4]) (by decide +kernel) (by simp) (AllReadyH.cons rfl (fun K hK => ?_) AllReadyH.nil)
          go_simp
          refine hK.out _ _ trivial (fun hS => ?_)
          clear hK K
          (try simp only [Act.put])
          have HW6 := Lib.hid (HW5.out.call rrd_below ((Below.refl w5.heap.size w5).alloc (Nat.le_refl _) (.cells #[.string ⟨tx.1.toArray⟩] 9)))
          have HQ6 : Hid (Box (w5.alloc (.cells #[.string ⟨tx.1.toArray⟩] 9)) w5.heap.size 9 #[.string ⟨tx.1.toArray⟩]) := Box.made _ _ _
          have c3c := HW6.out.box.cell 3
          simp only [List.getElem?_toArray, List.getElem?_cons_zero, List.getElem?_cons_succ] at c3c
          obtain ⟨g, cap, w7, hap, hc7, hf7, hw7⟩ := HW6.out.push rrd_put rrd_none HQ6.out (by rw [HLL.out]; have := HN2.out; have := HLT.out; omega)
          have HW7 := Lib.hid hw7
          clear hw7
          refine wpAnyH_ready (rs := [5]) (by decide +kernel) (by simp) (AllReadyH.cons rfl (fun K hK => ?_) AllReadyH.nil)
          go_simp
          refine hK.out _ _ trivial (fun hS => ?_)
          clear hK K
          (try simp only [Act.put])
          (refine wpAnyH_take (i := 6) (v := .pointer (some ⟨w.heap.size + 1, 3, none⟩)) rfl (by kernel_rfl) (by kernel_rfl) (by kernel_rfl) (fun _ _ _ h => h) (Or.inl ⟨by kernel_rfl, fun w hSw => by go_simp⟩) hS ?_)
          (try simp only [Act.put])
          refine wpAnyH_ready (rs := [7]) (by decide +kernel) (by simp) (AllReadyH.cons rfl (fun K hK => ?_) AllReadyH.nil)
          go_simp
          refine hK.out _ _ trivial (fun hS => ?_)
          clear hK K
          (try simp only [Act.put])
          refine wpAnyH_done (by kernel_rfl) ?_ _
          clear hap hc7 hf7 c3 c3b c3c HW5 HW6 HQ6
          generalize w7.setCell ⟨w.heap.size + 1, 3, none⟩ (.slice (some ⟨g, 0, none⟩) (L.length + 1) cap) = w8 at *
          rw [← HSU.out, ← HSS.out] at HW7
          go_wp2
          go_roundw
          case rel => exact ⟨j + 1, _, HLT.out, by go_num, HW7⟩
          case measure => have := HLT.out; simp [intOf]; omega
        · go_simp
          refine hK.out _ _ trivial (fun hS => ?_)
          clear hK K
          (try simp only [Act.put])
          have HW6 := Lib.hid (HW5.out.call rrd_below ((Below.refl w5.heap.size w5).alloc (Nat.le_refl _) (.cells #[.string ⟨tx.1.toArray⟩] 9)))
          have HQ6 : Hid (Box (w5.alloc (.cells #[.string ⟨tx.1.toArray⟩] 9)) w5.heap.size 9 #[.string ⟨tx.1.toArray⟩]) := Box.made _ _ _
          have c3c := HW6.out.box.cell 3
          simp only [List.getElem?_toArray, List.getElem?_cons_zero, List.getElem?_cons_succ] at c3c
          obtain ⟨g, cap, w7, hap, hc7, hf7, hw7⟩ := HW6.out.push rrd_put rrd_none HQ6.out (by rw [HLL.out]; have := HN2.out; have := HLT.out; omega)
          have HW7 := Lib.hid hw7
          clear hw7
          refine wpAnyH_ready (rs := [1]) (by decide +kernel) (by simp) (AllReadyH.cons rfl (fun K hK => ?_) AllReadyH.nil)
          go_simp
          refine hK.out _ _ trivial (fun hS => ?_)
          clear hK K
          (try simp only [Act.put])
          refine wpAnyH_ready (rs := [5]) (by decide +kernel) (by simp) (AllReadyH.cons rfl (fun K hK => ?_) AllReadyH.nil)
          go_simp
          refine hK.out _ _ trivial (fun hS => ?_)
          clear hK K
          (try simp only [Act.put])
          (refine wpAnyH_take (i := 6) (v := .pointer (some ⟨w.heap.size + 1, 3, none⟩)) rfl (by kernel_rfl) (by kernel_rfl) (by kernel_rfl) (fun _ _ _ h => h) (Or.inl ⟨by kernel_rfl, fun w hSw => by go_simp⟩) hS ?_)
          (try simp only [Act.put])
          refine wpAnyH_ready (rs := [7]) (by decide +kernel) (by simp) (AllReadyH.cons rfl (fun K hK => ?_) AllReadyH.nil)
          go_simp
          refine hK.out _ _ trivial (fun hS => ?_)
          clear hK K
          (try simp only [Act.put])
          refine wpAnyH_done (by kernel_rfl) ?_ _
          clear hap hc7 hf7 c3 c3b c3c HW5 HW6 HQ6
          generalize w7.setCell ⟨w.heap.size + 1, 3, none⟩ (.slice (some ⟨g, 0, none⟩) (L.length + 1) cap) = w8 at *
          rw [← HSU.out, ← HSS.out] at HW7
          go_wp2
          go_roundw
          case rel => exact ⟨j + 1, _, HLT.out, by go_num, HW7⟩
          case measure => have := HLT.out; simp [intOf]; omega
    · have hjn : j = N := by omega
      subst hjn
      have i1 : decide ((j : Int) < (j : Int)) = false := decide_eq_false (by omega)
      have HFE := Lib.hid HF.out.symm
      rw [HFE.out] at HW HGK
      obtain ⟨gd, hgd⟩ : ∃ gd, F.2 = gd := ⟨_, rfl⟩
      rw [hgd] at HGK
      rcases gd with _ | _
      · obtain ⟨x1', x2', x3', x4'⟩ := HG.out hgd
        have HZ : Hid (C = x0 ∧ M = x1 ∧ K = x2 ∧ V = rvsT j s.1 s.2) := ⟨x1', x2', x3', x4'⟩
        clear x1' x2' x3' x4' hgd HG HX HF HFE
        generalize rvsT j s.1 s.2 = L at *
        obtain ⟨A, z, rfl⟩ := own_slice_s HW.out.own
        have lc := Box.ld_rep HW.out.box
        have HSE : Hid (Sees wr wr.heap.size A (L.map Value.string)) := Lib.hid (Sees.of_own (n := L.length) (c := z) HW.out.own)
        have HFZ : Hid (Fresh9 w.heap.size A (L.map Value.string)) := Lib.hid (fresh_own (n := L.length) (c := z) HW.out.own)
        obtain ⟨wz, hst, hb, hg⟩ := HW.out.out.st_rep rfl x0 x1 x2 A L.length z
        have HBZ := Lib.hid hb
        have HRZ := Lib.hid (rrd_put HW.out.rd hg (Nat.lt_of_lt_of_le HW.out.ha (Nat.le_refl _)))
        have HGZ := Lib.hid (only_new HW.out.far hg (Nat.le_refl _))
        have HSZ := Lib.hid (sees_other HW.out.out zrep_nostr HSE.out hg)
        clear hb hg HW HSE
        go_wp2_with (go_at_call 12; (with_reducible refine (HGK.out).mono ?_); rintro e wg ⟨rfl, rfl⟩)
        obtain ⟨z1, z2, z3, z4⟩ := HZ.out
        subst z1 z2 z3 z4
        exact ret_rep rfl rfl rfl HBZ.out ⟨A, z, rfl, HSZ.out, HRZ.out, HGZ.out, HFZ.out⟩
      · obtain ⟨z1, z2, z3, z4⟩ := HX.out hgd
        have HZ : Hid (C = 0 ∧ M = 0 ∧ K = 0 ∧ V = []) := ⟨z1, z2, z3, z4⟩
        have hbd0 := bd_rep0 wr
        obtain ⟨wz, hst, hb, hg⟩ := HW.out.out.st_rep rfl 0 0 0 none 0 0
        have HBZ := Lib.hid hb
        have HRZ := Lib.hid (rrd_put HW.out.rd hg (Nat.lt_of_lt_of_le HW.out.ha (Nat.le_refl _)))
        have HGZ := Lib.hid (only_new HW.out.far hg (Nat.le_refl _))
        clear hb hg HW HX HG HF HFE hgd z1 z2 z3 z4
        go_wp2_with (go_at_call 12; (with_reducible refine (HGK.out).mono ?_); rintro e wg ⟨rfl, rfl⟩)
        obtain ⟨z1, z2, z3, z4⟩ := HZ.out
        exact ret_rep rfl rfl rfl HBZ.out ⟨none, 0, by rw [z1, z2, z3, z4]; rfl, .inl (by rw [z4]; rfl), HRZ.out, HGZ.out, .inl (by rw [z4]; rfl)⟩

end Go.Proofs.Ytoamcdbemhbphaa
