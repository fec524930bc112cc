/-
  The document's answer for a block (wapentakeref02.Next): the same state.
-/
import Derived.Test.YtapdnoellleimaaDoorSB
namespace Go.Proofs.YtapdnoellleimaaDoor
open Go.RowKit

theorem add24 (x0 x1 : UInt8) : IntKind.u32.wrap ((x0.toNat : Int) * 16777216 + (x1.toNat : Int) * 65536) = (x0.toNat : Int) * 16777216 + (x1.toNat : Int) * 65536 := by
  have h0 := x0.toNat_lt
  have h1 := x1.toNat_lt
  rw [IntKind.wrap_u32']
  omega
theorem add16 (x0 x1 x2 : UInt8) : IntKind.u32.wrap ((x0.toNat : Int) * 16777216 + (x1.toNat : Int) * 65536 + (x2.toNat : Int) * 256) = (x0.toNat : Int) * 16777216 + (x1.toNat : Int) * 65536 + (x2.toNat : Int) * 256 := by
  have h0 := x0.toNat_lt
  have h1 := x1.toNat_lt
  have h2 := x2.toNat_lt
  rw [IntKind.wrap_u32']
  omega
theorem add8 (x0 x1 x2 x3 : UInt8) : IntKind.u32.wrap ((x0.toNat : Int) * 16777216 + (x1.toNat : Int) * 65536 + (x2.toNat : Int) * 256 + (x3.toNat : Int)) = wi (be32 x0 x1 x2 x3) := by
  have h0 := x0.toNat_lt
  have h1 := x1.toNat_lt
  have h2 := x2.toNat_lt
  have h3 := x3.toNat_lt
  rw [IntKind.wrap_u32', wi_be32]
  omega

theorem three_any' (x : UInt32) (i j k : Nat) (hi1 : 1 ≤ i) (hi2 : i ≤ 31) (hj1 : 1 ≤ j) (hj2 : j ≤ 31) (hk1 : 1 ≤ k) (hk2 : k ≤ 31) (w : World) :
    Calls Tryd.prog 78 #[.int .u32 (wi x), .int .u64 (i : Int), .int .u64 (j : Int), .int .u64 (k : Int)] w fun e w' => e = .returned (.int .u32 (wi (rotr x i ^^^ rotr x j ^^^ rotr x k))) ∧ w' = w :=
  (three_any x i j k hi1 hi2 hj1 hj2 hk1 hk2 w).mono fun _ _ ⟨h, h'⟩ => ⟨h, h'.symm⟩
/-- What the walk of Next carries of memory. -/
structure NextW (w0 : World) (b : List UInt8) (s : St) (g o n : Nat) (w : World) : Prop where
  st : Box w w0.heap.size 113 s.vals
  ks : Box w (w0.heap.size + 1) 114 (roots.map wv).toArray
  out : ∃ z, Box w (w0.heap.size + 1 + 1) 113 z ∧ z.size = 8
  ws : Box w (w0.heap.size + 1 + 1 + 1) 114 (cellsW b n)
  far : Below w0.heap.size w0 w
  bytes : ∀ j, j < 64 → w.cell? ⟨g, o + j, none⟩ = some (.int .u8 ((b.getD j 0).toNat : Int))
  low : g < w0.heap.size
theorem NextW.drewN {w0 : World} {b : List UInt8} {s : St} {g o n : Nat} {w : World} (h : NextW w0 b s g o n w) (m : Nat) : NextW w0 b s g o n (w.drewN m) :=
  ⟨h.st, h.ks, h.out, h.ws, below_drewN h.far m, h.bytes, h.low⟩
theorem NextW.drew {w0 : World} {b : List UInt8} {s : St} {g o n : Nat} {w : World} (h : NextW w0 b s g o n w) : NextW w0 b s g o n w.drew :=
  ⟨h.st, h.ks, h.out, h.ws, h.far.drew, h.bytes, h.low⟩
theorem NextW.cells {w0 : World} {b : List UInt8} {s : St} {g o n : Nat} {w : World} (h : NextW w0 b s g o n w) :
    w.cell? ⟨w0.heap.size, 0, none⟩ = some (.int .u32 (wi s.a)) ∧ w.cell? ⟨w0.heap.size, 1, none⟩ = some (.int .u32 (wi s.b)) ∧ w.cell? ⟨w0.heap.size, 2, none⟩ = some (.int .u32 (wi s.c)) ∧ w.cell? ⟨w0.heap.size, 3, none⟩ = some (.int .u32 (wi s.d)) ∧
    w.cell? ⟨w0.heap.size, 4, none⟩ = some (.int .u32 (wi s.e)) ∧ w.cell? ⟨w0.heap.size, 5, none⟩ = some (.int .u32 (wi s.f)) ∧ w.cell? ⟨w0.heap.size, 6, none⟩ = some (.int .u32 (wi s.g)) ∧ w.cell? ⟨w0.heap.size, 7, none⟩ = some (.int .u32 (wi s.h)) := by
  refine ⟨?_, ?_, ?_, ?_, ?_, ?_, ?_, ?_⟩ <;> (rw [h.st.cell]; rfl)
/-- A word is stored behind those that stand. -/
theorem NextW.put {w0 : World} {b : List UInt8} {s : St} {g o n : Nat} {w : World} (h : NextW w0 b s g o n w) (hn : n < 64) :
    NextW w0 b s g o (n + 1) (w.setCell ⟨w0.heap.size + 1 + 1 + 1, n, none⟩ (.int .u32 (wi (wd b n)))) := by
  obtain ⟨z, hz, hs⟩ := h.out
  have hl := h.low
  refine ⟨h.st.aside (by simp; omega) _, h.ks.aside (by simp) _, ⟨z, hz.aside (by simp) _, hs⟩, ?_, h.far.setCell (by simp; omega) _, fun j hj => ?_, h.low⟩
  · have := h.ws.put n (.int .u32 (wi (wd b n)))
    rw [cellsW_put b hn] at this
    exact this
  · exact (World.cell?_of_block (heap_setCell_other w _ g _ (by simp; omega))).trans (h.bytes j hj)
theorem roots_cell (k : Nat) (hk : k < 64) : ((roots.map wv).toArray)[k]? = some (.int .u32 (wi (roots.getD k 0))) := by
  have hl : k < roots.length := hk
  rw [List.getElem?_toArray, List.getElem?_map, List.getElem?_eq_getElem hl, List.getD_eq_getElem?_getD, List.getElem?_eq_getElem hl]
  rfl

set_option maxRecDepth 100000 in
set_option maxHeartbeats 2000000 in
theorem next_any (s : St) (b : List UInt8) (hb : b.length = 64) (w : World) (A : Option Addr) (c : Nat) (hs : Sees w w.heap.size A (b.map bv)) :
    Calls Tryd.prog 72 #[.agg s.vals, .slice A 64 c, .agg (roots.map wv).toArray] w fun e w' => e = .returned (.agg (mix s b).vals) ∧ Below w.heap.size w w' := by
  have HA : Hid (∃ g o, A = some ⟨g, o, none⟩ ∧ g < w.heap.size ∧ ∀ j, j < 64 → w.cell? ⟨g, o + j, none⟩ = some (.int .u8 ((b.getD j 0).toNat : Int))) := by
    rcases hs with h | ⟨g, o, h1, h2, h3⟩
    · rw [List.map_eq_nil_iff] at h
      rw [h] at hb
      cases hb
    · refine ⟨g, o, h1, h2, fun j hj => h3 j _ ?_⟩
      have := bytes_get (b := b) (i := j) (by omega)
      rw [List.getElem?_toArray] at this
      exact this
  clear hs hb
  obtain ⟨g, o, rfl, hg, hc⟩ := HA.out
  have HG := Lib.hid hg
  have HC := Lib.hid hc
  clear hg hc HA
  go_enter Tryd.func72, Tryd.ntmps72
  go_wp2
  go_loopw [8] (fun i wr => ∃ k : Nat, k ≤ 16 ∧ i = .int .i64 k ∧ Hid (NextW w b s g o k wr)) (fun i _ => 16 - (intOf i).toNat)
  case atStart =>
    refine ⟨0, by decide, rfl, ?_⟩
    have hg := HG.out
    refine ⟨(((Box.made w _ _).alloc _).alloc _).alloc _, ((Box.made_at (by simp) _ _).alloc _).alloc _, ⟨_, (Box.made_at (by simp) _ _).alloc _, rfl⟩, ?_, ?_, fun j hj => ?_, hg⟩
    · rw [cellsW_zero]
      exact Box.made_at (by simp) _ _
    · exact ((((Below.refl _ _).alloc (Nat.le_refl _) _).alloc (by simp) _).alloc (by simp; omega) _).alloc (by simp; omega) _
    · have hB : Below w.heap.size w ((((w.alloc (.cells s.vals 113)).alloc (.cells (roots.map wv).toArray 114)).alloc (.cells (List.replicate 8 (Value.int .u32 0)).toArray 113)).alloc (.cells (List.replicate 64 (Value.int .u32 0)).toArray 114)) :=
        ((((Below.refl _ _).alloc (Nat.le_refl _) _).alloc (by simp) _).alloc (by simp; omega) _).alloc (by simp; omega) _
      exact (hB.cell (p := ⟨g, o + j, none⟩) hg).trans (HC.out j hj)
  case round =>
    obtain ⟨k, hk, rfl, HM⟩ := hrel
    by_cases hlt : k < 16
    · as_aux_lemma =>
        go_wp2
        refine wp_still_tail 35 (by kernel_rfl) (by kernel_rfl) ?_
        intro w1 hw1
        have HM1 : Hid (NextW w b s g o k w1) := by rw [hw1]; exact HM.out.drew
        clear hw1 HM
        simp only [List.take_succ_cons, List.take_zero, List.drop_succ_cons, List.drop_zero]
        have s1 : IntKind.i64.wrap (4 * (k : Int) + 1) = 4 * (k : Int) + 1 := IntWalk.i64_in _ (by omega)
        have s2 : IntKind.i64.wrap (4 * (k : Int) + 2) = 4 * (k : Int) + 2 := IntWalk.i64_in _ (by omega)
        have s3 : IntKind.i64.wrap (4 * (k : Int) + 3) = 4 * (k : Int) + 3 := IntWalk.i64_in _ (by omega)
        have s0 : IntKind.i64.wrap (4 * (k : Int)) = 4 * (k : Int) := IntWalk.i64_in _ (by omega)
        have n0 : (4 * (k : Int)).toNat = 4 * k := by omega
        have n1 : (4 * (k : Int) + 1).toNat = 4 * k + 1 := by omega
        have n2 : (4 * (k : Int) + 2).toNat = 4 * k + 2 := by omega
        have n3 : (4 * (k : Int) + 3).toNat = 4 * k + 3 := by omega
        have bk : (k : Int) < 64 := by omega
        have b0 : 0 ≤ 4 * (k : Int) ∧ 4 * (k : Int) < 64 := by omega
        have b1 : 0 ≤ 4 * (k : Int) + 1 ∧ 4 * (k : Int) + 1 < 64 := by omega
        have b2 : 0 ≤ 4 * (k : Int) + 2 ∧ 4 * (k : Int) + 2 < 64 := by omega
        have b3 : 0 ≤ 4 * (k : Int) + 3 ∧ 4 * (k : Int) + 3 < 64 := by omega
        have c0 := HM1.out.bytes (4 * k) (by omega)
        have c1 := HM1.out.bytes (4 * k + 1) (by omega)
        have c2 := HM1.out.bytes (4 * k + 2) (by omega)
        have c3 := HM1.out.bytes (4 * k + 3) (by omega)
        have f := HM1.out.ws.free k
        obtain ⟨cv, hcv⟩ := cellsW_at b (n := k) (i := k) (by omega) (by omega)
        have cg := HM1.out.ws.cell k
        rw [hcv] at cg
        clear hcv
        have HV := Lib.hid (wd_lo b k hlt)
        generalize b.getD (4 * k) 0 = x0 at *
        generalize b.getD (4 * k + 1) 0 = x1 at *
        generalize b.getD (4 * k + 2) 0 = x2 at *
        generalize b.getD (4 * k + 3) 0 = x3 at *
        have q0 := wrap_u8_u32 x0
        have q1 := wrap_u8_u32 x1
        have q2 := wrap_u8_u32 x2
        have q3 := wrap_u8_u32 x3
        have p0 := put24 x0
        have p1 := put16 x1
        have p2 := put8 x2
        have o1 := add24 x0 x1
        have o2 := add16 x0 x1 x2
        have o3 := add8 x0 x1 x2 x3
        repeat still_step
        try refine wpStill_nil ?_
        go_wp2
        go_roundw
        case rel =>
          refine ⟨k + 1, by omega, by go_num, ?_⟩
          have h := HM1.out.put (by omega)
          rw [HV.out] at h
          exact h
        case measure => simp [intOf]; omega
    · obtain rfl : k = 16 := by omega
      rw [show ((16 : Nat) : Int) = 16 from rfl]
      go_wp2
      go_loopw [9] (fun i wr => ∃ k : Nat, k ≤ 48 ∧ i = .int .i64 ((k : Int) + 16) ∧ Hid (NextW w b s g o (k + 16) wr)) (fun i _ => 64 - (intOf i).toNat)
      case atStart => exact ⟨0, by decide, rfl, HM⟩
      case round =>
        rename_i wr0 _
        clear HM
        obtain ⟨k, hk, rfl, HM⟩ := hrel
        by_cases hlt : k < 48
        · as_aux_lemma =>
            go_wp2
            have s1 : IntKind.i64.wrap ((k : Int) + 16 - 15) = (k : Int) + 1 := by rw [IntWalk.i64_in _ (by omega)]; omega
            have s2 : IntKind.i64.wrap ((k : Int) + 16 - 2) = (k : Int) + 14 := by rw [IntWalk.i64_in _ (by omega)]; omega
            have n1 : ((k : Int) + 1).toNat = k + 1 := by omega
            have n2 : ((k : Int) + 14).toNat = k + 14 := by omega
            have b1 : 0 ≤ (k : Int) + 1 ∧ (k : Int) + 1 < 64 := by omega
            have b2 : 0 ≤ (k : Int) + 14 ∧ (k : Int) + 14 < 64 := by omega
            have c1 := HM.out.ws.cell (k + 1)
            have c2 := HM.out.ws.cell (k + 14)
            rw [cellsW_get b (by omega)] at c1 c2
            have HV := Lib.hid (wd_hi b k)
            generalize wd b (k + 1) = X at *
            generalize wd b (k + 14) = Y at *
            go_quiet (fail)
            have HM1 := Lib.hid (HM.out.drewN nq)
            generalize wr.drewN nq = w1 at *
            clear HM s1 s2 n1 n2 b1 b2 c1 c2
            have X1 := Lib.hid (turn_any X 7 (by decide) (by decide) w1)
            have X2 := Lib.hid (turn_any X 18 (by decide) (by decide) w1)
            have Y1 := Lib.hid (turn_any Y 17 (by decide) (by decide) w1)
            have Y2 := Lib.hid (turn_any Y 19 (by decide) (by decide) w1)
            have wx := wi_xor
            have d3 := shr3
            have d10 := shr10
            go_wp2_with fail
            refine (X1.out).mono ?_
            rintro e w' ⟨rfl, rfl⟩
            go_wp2_with fail
            refine (X2.out).mono ?_
            rintro e w' ⟨rfl, rfl⟩
            go_wp2_with fail
            refine (Y1.out).mono ?_
            rintro e w' ⟨rfl, rfl⟩
            go_wp2_with fail
            refine (Y2.out).mono ?_
            rintro e w' ⟨rfl, rfl⟩
            go_wp2
            clear X1 X2 Y1 Y2 wx d3 d10
            refine wp_still_tail 15 (by kernel_rfl) (by kernel_rfl) ?_
            intro w2 hw2
            have HM2 : Hid (NextW w b s g o (k + 16) w2) := by rw [hw2]; exact HM1.out.drew
            clear hw2 HM1
            simp only [List.take_succ_cons, List.take_zero, List.drop_succ_cons, List.drop_zero]
            have s1 : IntKind.i64.wrap (k : Int) = (k : Int) := IntWalk.i64_in _ (by omega)
            have s2 : IntKind.i64.wrap ((k : Int) + 16 - 7) = (k : Int) + 9 := by rw [IntWalk.i64_in _ (by omega)]; omega
            have n1 : ((k : Int) + 9).toNat = k + 9 := by omega
            have n2 : ((k : Int) + 16).toNat = k + 16 := by omega
            have b0 : 0 ≤ (k : Int) ∧ (k : Int) < 64 := by omega
            have b1 : 0 ≤ (k : Int) + 9 ∧ (k : Int) + 9 < 64 := by omega
            have b2 : 0 ≤ (k : Int) + 16 ∧ (k : Int) + 16 < 64 := by omega
            have c1 := HM2.out.ws.cell k
            have c2 := HM2.out.ws.cell (k + 9)
            rw [cellsW_get b (by omega)] at c1 c2
            obtain ⟨cv, hcv⟩ := cellsW_at b (n := k + 16) (i := k + 16) (by omega) (by omega)
            have cg := HM2.out.ws.cell (k + 16)
            rw [hcv] at cg
            clear hcv
            have f := HM2.out.ws.free (k + 16)
            have wa := wi_addw
            repeat still_step
            try refine wpStill_nil ?_
            clear s1 s2 b0 b1 b2 c1 c2 wa
            go_wp2
            go_roundw
            case rel =>
              refine ⟨k + 1, by omega, by rw [show ((k + 1 : Nat) : Int) + 16 = (k : Int) + 16 + 1 from by omega], ?_⟩
              have h := HM2.out.put (by omega)
              rw [HV.out] at h
              rw [show k + 1 + 16 = k + 16 + 1 from by omega]
              exact h
            case measure => simp [intOf]; omega
        · obtain rfl : k = 48 := by omega
          rw [show ((48 : Nat) : Int) + 16 = 64 from rfl]
          rw [show 48 + 16 = 64 from rfl] at HM
          obtain ⟨c0, c1, c2, c3, c4, c5, c6, c7⟩ := HM.out.cells
          go_upto_region 13 with fail
          go_quiet (fail)
          have HM5 := Lib.hid (HM.out.drewN nq)
          generalize wr.drewN nq = w5 at *
          clear HM c0 c1 c2 c3 c4 c5 c6 c7
          go_wp2
          go_loopw [14, 15, 16, 17, 18, 19, 20, 21, 22] (fun va vb vc vd ve vf vg vh i wr => ∃ k : Nat, k ≤ 64 ∧ i = .int .i64 k ∧ va = .int .u32 (wi (rnd b s k).a) ∧ vb = .int .u32 (wi (rnd b s k).b) ∧ vc = .int .u32 (wi (rnd b s k).c) ∧ vd = .int .u32 (wi (rnd b s k).d) ∧
            ve = .int .u32 (wi (rnd b s k).e) ∧ vf = .int .u32 (wi (rnd b s k).f) ∧ vg = .int .u32 (wi (rnd b s k).g) ∧ vh = .int .u32 (wi (rnd b s k).h) ∧ Hid (NextW w b s g o 64 wr)) (fun _ _ _ _ _ _ _ _ i _ => 64 - (intOf i).toNat)
          case atStart => exact ⟨0, by decide, rfl, rfl, rfl, rfl, rfl, rfl, rfl, rfl, rfl, HM5⟩
          case round =>
            rename_i wr1
            clear HM5
            obtain ⟨k, hk, rfl, rfl, rfl, rfl, rfl, rfl, rfl, rfl, rfl, HM⟩ := hrel
            by_cases hlt : k < 64
            · as_aux_lemma =>
                have HT : Hid (rnd b s (k + 1) = (rnd b s k).step (roots.getD k 0) (wd b k)) := rfl
                generalize rnd b s k = t at *
                obtain ⟨A, B, C, D, E, F, G, H⟩ := t
                have b0 : 0 ≤ (k : Int) ∧ (k : Int) < 64 := by omega
                have c1 := HM.out.ks.cell k
                have c2 := HM.out.ws.cell k
                rw [roots_cell k hlt] at c1
                rw [cellsW_get b hlt] at c2
                generalize roots.getD k 0 = R at *
                generalize wd b k = V at *
                have T1 : Hid (∀ w, Calls Tryd.prog 78 #[.int .u32 (wi E), .int .u64 6, .int .u64 11, .int .u64 25] w fun e w' => e = .returned (.int .u32 (wi (rotr E 6 ^^^ rotr E 11 ^^^ rotr E 25))) ∧ w' = w) := fun w => three_any' E 6 11 25 (by decide) (by decide) (by decide) (by decide) (by decide) (by decide) w
                have wx := wi_xor
                have wa := wi_addw
                have wn := wi_and
                have wt := wi_compl
                go_wp2
                go_quiet ((with_reducible exact Calls.quiet_of_same (T1.out _)))
                have HM1 := Lib.hid (HM.out.drewN nq)
                generalize wr.drewN nq = w6 at *
                have U1 := Lib.hid (three_any A 2 13 22 (by decide) (by decide) (by decide) (by decide) (by decide) (by decide) w6)
                have wa2 := wi_add
                clear HM c1 c2 T1 wt b0
                go_wp2_with fail
                refine (U1.out).mono ?_
                rintro e w' ⟨rfl, rfl⟩
                go_wp2
                clear wx wa wn wa2 U1
                go_roundw
                case rel => exact ⟨k + 1, by omega, by go_num, by rw [HT.out]; rfl, by rw [HT.out]; rfl, by rw [HT.out]; rfl, by rw [HT.out]; rfl, by rw [HT.out]; rfl, by rw [HT.out]; rfl, by rw [HT.out]; rfl, by rw [HT.out]; rfl, HM1⟩
                case measure => simp [intOf]; omega
            · obtain rfl : k = 64 := by omega
              have HE : Hid (mix s b = s.plus (rnd b s 64)) := rfl
              generalize rnd b s 64 = t at *
              rw [show ((64 : Nat) : Int) = 64 from rfl]
              obtain ⟨c0, c1, c2, c3, c4, c5, c6, c7⟩ := HM.out.cells
              obtain ⟨z, hz, hzs⟩ := HM.out.out
              have HZ := Lib.hid hz
              have HFA := Lib.hid HM.out.far
              obtain ⟨vs, hvs⟩ : ∃ vs : Array Value, vs = #[.int .u32 (wi (s.a + t.a)), .int .u32 (wi (s.b + t.b)), .int .u32 (wi (s.c + t.c)), .int .u32 (wi (s.d + t.d)), .int .u32 (wi (s.e + t.e)), .int .u32 (wi (s.f + t.f)), .int .u32 (wi (s.g + t.g)), .int .u32 (wi (s.h + t.h))] := ⟨_, rfl⟩
              have HVS : Hid ((s.plus t).vals = vs) := by rw [hvs]; exact Lib.hid rfl
              have HZS : Hid (vs.size = z.size) := by rw [hvs, hzs]; exact Lib.hid rfl
              have hsz : Hid ((Tryd.prog.info? 113).map (·.size) = some vs.size) := by
                rw [hvs]
                show _ = some 8
                kernel_rfl
              have hone : Hid (∀ v ∈ vs.toList, v.oneCell' = true) := by
                rw [hvs]
                exact wv_one (s.plus t).list
              have HW2 := Lib.hid hvs
              have wa := wi_add
              clear hz hzs HM hvs
              go_wp2_with ((with_reducible show wpList _ _ _ ((⟨none, Op.store _ (.tmp 6) (.tmp 206), _, _, _, _⟩ : Oper) :: _) _ _); refine wpList_store_box rfl 113 (.tmp 6) (.tmp 206) rfl (w.heap.size + 1 + 1) vs (by simp [Act.eval]) (by rw [HW2.out]; simp [Act.eval]) 113 z HZ.out HZS.out hsz.out hone.out ?_; intro w3 hb3 hg3; have HB5 := Lib.hid hb3; have HG5 := Lib.hid hg3; clear hb3 hg3)
              go_wp2
              refine bodyPost_ret (v := .agg vs) (results_cell_row rfl _ w3 (w.heap.size + 1 + 1) 113 vs (0, 0) _ rfl HB5.out Tryd.underlying113 rfl hsz.out) rfl ⟨by rw [HE.out, HVS.out], ?_⟩
              exact HFA.out.trans (below_only HG5.out (by omega) HFA.out.size)
end Go.Proofs.YtapdnoellleimaaDoor
