/-
  Package sha: the state that a block makes of another one (sha.mixed).
-/
import Derived.Test.YtdgedhaiefingaaDoorSMix0
namespace Go.Proofs.YtdgedhaiefingaaDoor
open Go.RowKit

theorem turned_any' (x : UInt32) (k : Nat) (h1 : 1 ≤ k) (h2 : k ≤ 31) (w : World) : Calls Tryd.prog 40 #[.int .u32 (wi x), .int .i64 (k : Int)] w fun e w' => e = .returned (.int .u32 (wi (rotr x k))) ∧ w' = w :=
  (turned_any x k h1 h2 w).mono fun _ _ ⟨h, h'⟩ => ⟨h, h'.symm⟩
theorem wi_compl (x : UInt32) : bits .xor .u32 (if IntKind.u32.signed = true then -1 else IntKind.u32.max) (wi x) = wi (~~~x) := by
  have e : (if IntKind.u32.signed = true then -1 else IntKind.u32.max) = wi 4294967295 := by decide
  rw [e, wi_xor]
  congr 1
/-- What the walk of a block's rounds carries of memory. -/
structure MixW (w0 : World) (b : List UInt8) (s : St) (g5 : Nat) (w : World) : Prop where
  st : Box w w0.heap.size 53 s.vals
  out : ∃ z, Box w (w0.heap.size + 1 + 1) 53 z ∧ z.size = 8
  ws : Box w g5 69 (cellsW b 64)
  far : Below w0.heap.size w0 w
  roots : Roots w
  high : w0.heap.size + 3 ≤ g5
theorem MixW.drewN {w0 : World} {b : List UInt8} {s : St} {g5 : Nat} {w : World} (h : MixW w0 b s g5 w) (n : Nat) : MixW w0 b s g5 (w.drewN n) :=
  ⟨h.st, h.out, h.ws, below_drewN h.far n, h.roots, h.high⟩
theorem MixW.cells {w0 : World} {b : List UInt8} {s : St} {g5 : Nat} {w : World} (h : MixW w0 b s g5 w) :
    w.cell? ⟨w0.heap.size, 0, none⟩ = some (.int .u32 (wi s.a)) ∧ w.cell? ⟨w0.heap.size, 1, none⟩ = some (.int .u32 (wi s.b)) ∧ w.cell? ⟨w0.heap.size, 2, none⟩ = some (.int .u32 (wi s.c)) ∧ w.cell? ⟨w0.heap.size, 3, none⟩ = some (.int .u32 (wi s.d)) ∧
    w.cell? ⟨w0.heap.size, 4, none⟩ = some (.int .u32 (wi s.e)) ∧ w.cell? ⟨w0.heap.size, 5, none⟩ = some (.int .u32 (wi s.f)) ∧ w.cell? ⟨w0.heap.size, 6, none⟩ = some (.int .u32 (wi s.g)) ∧ w.cell? ⟨w0.heap.size, 7, none⟩ = some (.int .u32 (wi s.h)) := by
  refine ⟨?_, ?_, ?_, ?_, ?_, ?_, ?_, ?_⟩ <;> (rw [h.st.cell]; rfl)

/-- What the walk of the sum carries. -/
structure SumW (w0 : World) (s t : St) (g : Nat) (k : Nat) (w : World) : Prop where
  st : Box w w0.heap.size 53 (cellsP s.list t.list k)
  out : ∃ z, Box w (w0.heap.size + 1 + 1) 53 z ∧ z.size = 8
  more : Box w g 53 t.vals
  far : Below w0.heap.size w0 w
  high : w0.heap.size + 3 ≤ g

set_option maxRecDepth 100000 in
set_option maxHeartbeats 1000000 in
theorem mixed_any (s : St) (b : List UInt8) (hb : b.length = 64) (w : World) (hR : Roots w) :
    Calls Tryd.prog 34 #[.agg s.vals, .agg (b.map bv).toArray] w fun e w' => e = .returned (.agg (mix s b).vals) ∧ Below w.heap.size w w' := by
  have HR := Lib.hid hR
  have HB := Lib.hid hb
  clear hR hb
  go_enter Tryd.func34, Tryd.ntmps34
  go_upto_region 1 with fail
  have hx0 : Box (((w.alloc (.cells s.vals 53)).alloc (.cells (b.map bv).toArray 54)).alloc (.cells (List.replicate 8 (Value.int .u32 0)).toArray 53)) w.heap.size 53 s.vals := ((Box.made w _ _).alloc _).alloc _
  have hx1 : Box (((w.alloc (.cells s.vals 53)).alloc (.cells (b.map bv).toArray 54)).alloc (.cells (List.replicate 8 (Value.int .u32 0)).toArray 53)) (w.heap.size + 1) 54 (b.map bv).toArray := (Box.made_at (by simp) _ _).alloc _
  have hx4 : Box (((w.alloc (.cells s.vals 53)).alloc (.cells (b.map bv).toArray 54)).alloc (.cells (List.replicate 8 (Value.int .u32 0)).toArray 53)) (w.heap.size + 1 + 1) 53 (List.replicate 8 (Value.int .u32 0)).toArray := Box.made_at (by simp) _ _
  have hF : Below w.heap.size w (((w.alloc (.cells s.vals 53)).alloc (.cells (b.map bv).toArray 54)).alloc (.cells (List.replicate 8 (Value.int .u32 0)).toArray 53)) := (((Below.refl _ _).alloc (Nat.le_refl _) _).alloc (by simp) _).alloc (by simp; omega) _
  have hs : (((w.alloc (.cells s.vals 53)).alloc (.cells (b.map bv).toArray 54)).alloc (.cells (List.replicate 8 (Value.int .u32 0)).toArray 53)).heap.size = w.heap.size + 3 := by simp
  change Code.wp _ _ _ _ (((w.alloc (.cells s.vals 53)).alloc (.cells (b.map bv).toArray 54)).alloc (.cells (List.replicate 8 (Value.int .u32 0)).toArray 53))
  generalize (((w.alloc (.cells s.vals 53)).alloc (.cells (b.map bv).toArray 54)).alloc (.cells (List.replicate 8 (Value.int .u32 0)).toArray 53)) = w1 at *
  have HX0 := Lib.hid hx0
  have HX1 := Lib.hid hx1
  have HX4 := Lib.hid hx4
  have HF := Lib.hid hF
  have HS := Lib.hid hs
  clear hx0 hx1 hx4 hF hs
  have hsz : Hid ((Tryd.prog.info? 54).map (·.size) = some (b.map bv).toArray.size) := by
    show _ = _
    rw [List.size_toArray, List.length_map, HB.out]
    kernel_rfl
  go_step
  refine wpList_load_row (o := ⟨some 19, _, _, _, _, _⟩) rfl 54 (.tmp 3) rfl (w.heap.size + 1) rfl 54 (b.map bv).toArray (0, 0) _ HX1.out Tryd.underlying54 rfl hsz.out ?_
  simp only [Act.put]
  have hC := words_any b HB.out w1
  have HC := Lib.hid hC
  clear hC hsz HX1
  go_wp2_with fail
  refine (HC.out).mono ?_
  rintro e w2 ⟨rfl, hb2⟩
  have HX02 := Lib.hid (HX0.out.below hb2 (by have := HS.out; omega))
  have HX42 := Lib.hid (HX4.out.below hb2 (by have := HS.out; omega))
  have HF2 := Lib.hid (HF.out.trans (hb2.mono (by have := HS.out; omega)))
  have HS2 : Hid (w.heap.size + 3 ≤ w2.heap.size) := by
    have h1 := hb2.size
    have h2 := HS.out
    show _ ≤ _
    omega
  clear hb2 HX0 HX4 HF HS HC
  have hws := cellsW_size b (Nat.le_refl 64)
  have hsz : Hid ((Tryd.prog.info? 69).map (·.size) = some (cellsW b 64).size) := by
    show _ = _
    rw [cellsW_size b (Nat.le_refl _)]
    kernel_rfl
  have hone : Hid (∀ v ∈ (cellsW b 64).toList, v.oneCell' = true) := cellsW_one b 64
  have HWS := Lib.hid hws
  clear hws
  have hX5 : Hid (Box (w2.alloc (.cells (List.replicate 64 (Value.int .u32 0)).toArray 69)) w2.heap.size 69 (List.replicate 64 (Value.int .u32 0)).toArray) := Box.made w2 _ _
  have hsame : Hid ((cellsW b 64).size = (List.replicate 64 (Value.int .u32 0)).toArray.size) := by
    show _ = _
    rw [HWS.out]
    rfl
  go_wp2_with ((with_reducible show wpList _ _ _ ((⟨none, Op.store _ (.tmp 5) (.tmp 20), _, _, _, _⟩ : Oper) :: _) _ _); refine wpList_store_box rfl 69 (.tmp 5) (.tmp 20) rfl w2.heap.size (cellsW b 64) rfl rfl 69 (List.replicate 64 (Value.int .u32 0)).toArray hX5.out hsame.out hsz.out hone.out ?_; intro w3 hb3 hg3; have HX5 := Lib.hid hb3; have HG5 := Lib.hid hg3; clear hb3 hg3)
  simp only [Act.put]
  have HM : Hid (MixW w b s w2.heap.size w3) := by
    refine ⟨(HX02.out.alloc (.cells (List.replicate 64 (Value.int .u32 0)).toArray 69)).grown HG5.out ?_, ⟨_, (HX42.out.alloc (.cells (List.replicate 64 (Value.int .u32 0)).toArray 69)).grown HG5.out ?_, rfl⟩, HX5.out, ?_, ?_, HS2.out⟩
    · have := HS2.out; simp; omega
    · have := HS2.out; simp; omega
    · exact (HF2.out.alloc (by have := HS2.out; omega) (.cells (List.replicate 64 (Value.int .u32 0)).toArray 69)).trans (below_only HG5.out (by have := HS2.out; omega) (by have := HS2.out; simp; omega))
    · exact HR.out.of_below ((HF2.out.alloc (by have := HS2.out; omega) (.cells (List.replicate 64 (Value.int .u32 0)).toArray 69)).trans (below_only HG5.out (by have := HS2.out; omega) (by have := HS2.out; simp; omega)))
  clear HX02 HX42 HF2 HG5 hX5 HX5 hsame HS2 hsz hone HWS HR
  generalize w2.heap.size = g5 at *
  obtain ⟨c0, c1, c2, c3, c4, c5, c6, c7⟩ := HM.out.cells
  go_quiet (fail)
  have HM4 := Lib.hid (HM.out.drewN nq)
  generalize w3.drewN nq = w4 at *
  clear HM c0 c1 c2 c3 c4 c5 c6 c7
  obtain ⟨c0, c1, c2, c3, c4, c5, c6, c7⟩ := HM4.out.cells
  go_upto_region 3 with fail
  go_quiet (fail)
  have HM5 := Lib.hid (HM4.out.drewN nq)
  generalize w4.drewN nq = w5 at *
  clear HM4 c0 c1 c2 c3 c4 c5 c6 c7
  go_wp2
  go_loopw [6, 7, 8, 9, 10, 11, 12, 13, 37] (fun va vb vc vd ve vf vg vh i wr => ∃ k : Nat, k ≤ 64 ∧ i = .int .i64 k ∧ va = .int .u32 (wi (rnd b s k).a) ∧ vb = .int .u32 (wi (rnd b s k).b) ∧ vc = .int .u32 (wi (rnd b s k).c) ∧ vd = .int .u32 (wi (rnd b s k).d) ∧
    ve = .int .u32 (wi (rnd b s k).e) ∧ vf = .int .u32 (wi (rnd b s k).f) ∧ vg = .int .u32 (wi (rnd b s k).g) ∧ vh = .int .u32 (wi (rnd b s k).h) ∧ Hid (MixW w b s g5 wr)) (fun _ _ _ _ _ _ _ _ i _ => 64 - (intOf i).toNat)
  case atStart => exact ⟨0, by decide, rfl, rfl, rfl, rfl, rfl, rfl, rfl, rfl, rfl, HM5⟩
  case round =>
    rename_i wr0
    clear HM5
    obtain ⟨k, hk, rfl, rfl, rfl, rfl, rfl, rfl, rfl, rfl, rfl, HM⟩ := hrel
    by_cases hlt : k < 64
    · as_aux_lemma =>
        have HT : Hid (rnd b s (k + 1) = (rnd b s k).step (roots.getD k 0) (wd b k)) := rfl
        generalize rnd b s k = t at *
        obtain ⟨A, B, C, D, E, F, G, H⟩ := t
        have b0 : 0 ≤ (k : Int) ∧ (k : Int) < 64 := by omega
        have c1 := HM.out.roots.2 k hlt
        have c2 := HM.out.ws.cell k
        rw [cellsW_get b hlt] at c2
        generalize roots.getD k 0 = R at *
        generalize wd b k = V at *
        have T1 : Hid (∀ w, Calls Tryd.prog 40 #[.int .u32 (wi E), .int .i64 6] w fun e w' => e = .returned (.int .u32 (wi (rotr E 6))) ∧ w' = w) := fun w => turned_any' E 6 (by decide) (by decide) w
        have T2 : Hid (∀ w, Calls Tryd.prog 40 #[.int .u32 (wi E), .int .i64 11] w fun e w' => e = .returned (.int .u32 (wi (rotr E 11))) ∧ w' = w) := fun w => turned_any' E 11 (by decide) (by decide) w
        have T3 : Hid (∀ w, Calls Tryd.prog 40 #[.int .u32 (wi E), .int .i64 25] w fun e w' => e = .returned (.int .u32 (wi (rotr E 25))) ∧ w' = w) := fun w => turned_any' E 25 (by decide) (by decide) w
        have wx := wi_xor
        have wa := wi_addw
        have wn := wi_and
        have wt := wi_compl
        go_wp2
        go_quiet ((first | (with_reducible exact Calls.quiet_of_same (T1.out _)) | (with_reducible exact Calls.quiet_of_same (T2.out _)) | (with_reducible exact Calls.quiet_of_same (T3.out _))))
        have HM1 := Lib.hid (HM.out.drewN nq)
        generalize wr.drewN nq = w6 at *
        have U1 := Lib.hid (turned_any A 2 (by decide) (by decide) w6)
        have U2 := Lib.hid (turned_any A 13 (by decide) (by decide) w6)
        have U3 := Lib.hid (turned_any A 22 (by decide) (by decide) w6)
        have wa2 := wi_add
        clear HM c1 c2 T1 T2 T3 wt b0
        go_wp2_with fail
        refine (U1.out).mono ?_
        rintro e w' ⟨rfl, rfl⟩
        go_wp2_with fail
        refine (U2.out).mono ?_
        rintro e w' ⟨rfl, rfl⟩
        go_wp2_with fail
        refine (U3.out).mono ?_
        rintro e w' ⟨rfl, rfl⟩
        go_wp2
        clear wx wa wn wa2 U1 U2 U3
        go_roundw
        case rel => exact ⟨k + 1, by omega, by go_num, by rw [HT.out]; rfl, by rw [HT.out]; rfl, by rw [HT.out]; rfl, by rw [HT.out]; rfl, by rw [HT.out]; rfl, by rw [HT.out]; rfl, by rw [HT.out]; rfl, by rw [HT.out]; rfl, HM1⟩
        case measure => simp [intOf]; omega
    · obtain rfl : k = 64 := by omega
      have HE : Hid (mix s b = s.plus (rnd b s 64)) := rfl
      generalize rnd b s 64 = t at *
      rw [show ((64 : Nat) : Int) = 64 from rfl]
      obtain ⟨wo, rfl⟩ : ∃ wo : World, wo = wr := ⟨_, rfl⟩
      have hlow : w.heap.size + 3 ≤ wo.heap.size := by
        have := HM.out.ws.lt
        have := HM.out.high
        omega
      have HL := Lib.hid hlow
      clear hlow
      have hbox : Hid (Box (wo.alloc (.cells t.vals 53)) wo.heap.size 53 t.vals) := Box.made wo _ _
      go_wp2
      go_loopw [109] (fun i wr => ∃ k : Nat, k ≤ 8 ∧ i = .int .i64 k ∧ Hid (SumW w s t wo.heap.size k wr)) (fun i _ => 8 - (intOf i).toNat)
      case atStart =>
        have hM := HM.out
        obtain ⟨z, hz, hzs⟩ := hM.out
        exact ⟨0, by decide, rfl, ⟨by have := hM.st.alloc (.cells t.vals 53); exact this, ⟨z, hz.alloc _, hzs⟩, hbox.out, hM.far.alloc (by have := HL.out; omega) _, HL.out⟩⟩
      case round =>
        rename_i wr1
        clear HM hbox
        obtain ⟨k, hk, rfl, HM⟩ := hrel
        by_cases hlt : k < 8
        · as_aux_lemma =>
            go_wp2
            refine wp_still_tail 8 (by kernel_rfl) (by kernel_rfl) ?_
            intro w2 hw2
            have HM2 : Hid (SumW w s t wo.heap.size k w2) := by
              rw [hw2]
              exact ⟨HM.out.st, HM.out.out, HM.out.more, HM.out.far.drew, HM.out.high⟩
            clear hw2 HM
            simp only [List.take_succ_cons, List.take_zero, List.drop_succ_cons, List.drop_zero]
            have b0 : 0 ≤ (k : Int) ∧ (k : Int) < 8 := by omega
            have c1 := HM2.out.st.cell k
            have c2 := HM2.out.more.cell k
            rw [cellsP_get s.list t.list (k := k) hlt rfl] at c1
            rw [list_get t hlt] at c2
            have f := HM2.out.st.free k
            have wa := wi_addw
            generalize hX : s.list.getD k 0 = X at *
            generalize hY : t.list.getD k 0 = Y at *
            have HX := Lib.hid hX
            have HY := Lib.hid hY
            clear hX hY
            repeat still_step
            try refine wpStill_nil ?_
            go_wp2
            go_roundw
            case rel =>
              have hM := HM2.out
              obtain ⟨z, hz, hzs⟩ := hM.out
              have h := hM.st.put k (.int .u32 (wi (s.list.getD k 0 + t.list.getD k 0)))
              rw [cellsP_put s.list t.list (k := k) hlt rfl, HX.out, HY.out] at h
              have hh := hM.high
              exact ⟨k + 1, by omega, by go_num, ⟨h, ⟨z, hz.aside (by simp; omega) _, hzs⟩, hM.more.aside (by simp; omega) _, hM.far.setCell (by simp) _, hh⟩⟩
            case measure => simp [intOf]; omega
        · as_aux_lemma =>
            obtain rfl : k = 8 := by omega
            have hM := HM.out
            obtain ⟨z, hz, hzs⟩ := hM.out
            have hst : Box wr w.heap.size 53 (s.plus t).vals := hM.st
            rw [← HE.out] at hst
            have HST := Lib.hid hst
            have HZ := Lib.hid hz
            have HFA := Lib.hid hM.far
            have HZS : Hid ((mix s b).vals.size = z.size) := by rw [hzs]; exact Lib.hid rfl
            have hsz : Hid ((Tryd.prog.info? 53).map (·.size) = some (mix s b).vals.size) := by
              show _ = some 8
              kernel_rfl
            have hone : Hid (∀ v ∈ (mix s b).vals.toList, v.oneCell' = true) := by
              rw [vals_list]
              exact wv_one _
            clear hM hz hzs hst HM HE HL
            generalize hm : mix s b = m at *
            have HMM := Lib.hid hm
            clear hm
            go_upto_region 17 with fail
            go_step
            refine wpList_load_row (o := ⟨some 121, _, _, _, _, _⟩) rfl 53 (.tmp 2) rfl w.heap.size rfl 53 m.vals (0, 0) _ HST.out Tryd.underlying53 rfl hsz.out ?_
            refine wpList_store_box (op := ⟨none, _, _, _, _, _⟩) rfl 53 (.tmp 4) (.tmp 121) rfl (w.heap.size + 1 + 1) m.vals (by simp [Act.eval, Act.put]) (by simp [Act.eval, Act.put]) 53 z HZ.out HZS.out hsz.out hone.out ?_
            intro w3 hb3 hg3
            have HB5 := Lib.hid hb3
            have HG5 := Lib.hid hg3
            clear hb3 hg3
            simp only [Act.put]
            go_wp2
            refine bodyPost_ret (v := .agg m.vals) (results_cell_row rfl _ w3 (w.heap.size + 1 + 1) 53 m.vals (0, 0) _ rfl HB5.out Tryd.underlying53 rfl hsz.out) rfl ⟨by rw [HMM.out], ?_⟩
            exact HFA.out.trans (below_only HG5.out (by omega) HFA.out.size)
end Go.Proofs.YtdgedhaiefingaaDoor
