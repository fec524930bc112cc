/-
  DiskKeeps: the walk. Written by gen_dkkeeps.py.
-/
import Derived.Test.YtaobhkalnnmnhaaDkInWalk
namespace Go.Proofs.Ytaobhkalnnmnhaa
open Go.RowKit Go.Maps

set_option maxRecDepth 100000 in
theorem next16 (b : UInt8) : bv (b + 1) = .int .u8 (((b.toNat : Int) + 1) % 256) := by
  have h1 := UInt8.toNat_add b 1
  have h2 : (1 : UInt8).toNat = 1 := rfl
  have hg : (((b + 1).toNat : Nat) : Int) = ((b.toNat : Int) + 1) % 256 := by
    rw [h1, h2]
    omega
  unfold bv
  rw [hg]
def kpX (a : List UInt8) : DX := ⟨[⟨[102], a, 0⟩], false, 1, 0, 0⟩
def kpY (a b : List UInt8) : DX := ⟨[⟨[102], a, 0⟩, ⟨[103], b, b.length⟩], false, 2, 0, 0⟩
set_option maxRecDepth 100000 in
theorem kp_1 {a : List UInt8} (h : a.length ≤ 4096) : newX.append [102] a = (0, kpX a) := by
  have h1 : ¬ (4194304 : Int) < a.length := by omega
  simp [DX.append, DX.takes, newX, totF, DX.burns, DX.tick, DX.put, putF, openF, hasF, updF, kpX, h1]
set_option maxRecDepth 100000 in
theorem kp_2 {a b : List UInt8} (h : a.length ≤ 4096) (h2 : b.length ≤ 4096) : (kpX a).install [103] b = (0, kpY a b) := by
  have h1 : ¬ (4194304 : Int) - a.length < b.length := by omega
  simp [DX.install, DX.takes, totF, sizeF, lookF, DX.burns, DX.tick, DX.put, putF, openF, hasF, updF, kpX, kpY, h1]
set_option maxRecDepth 100000 in
theorem kp_3 (a b : List UInt8) : (kpY a b).read [102] = (a, 0) ∧ (kpY a b).read [103] = (b, 0) := ⟨rfl, rfl⟩
set_option maxRecDepth 100000 in
theorem few_kx (a : List UInt8) : (kpX a).Few := ⟨by show (0 : Int) ≤ 1 ∧ (1 : Int) < 1000000; decide, by show 1 < 1000000; decide⟩
set_option maxRecDepth 100000 in
/-- A block that lies below the disk has turned. -/
theorem DkIs.low {w w' : World} {base p : Nat} {X : DX} (h : DkIs w base p X) {row : Option Nat} (hg : w.grownBy w' row) (hr : ∀ g, row = some g → g < base) : DkIs w' base p X := by
  obtain ⟨mb, ms, h⟩ := h
  have ne : ∀ g, base ≤ g → some g ≠ row := fun g hb e => by have := hr g e.symm; omega
  refine ⟨mb, ms, h.box.grown hg (ne _ h.low), h.fs.aside hg (ne _ h.fs.low) (fun m hm => ⟨ne _ (h.fs.files m hm).low, ?_⟩), h.eq, h.tot, h.fuse, h.keep, h.low⟩
  cases e : m.blk with
  | none => exact .inl rfl
  | some g => exact .inr (ne g ((h.fs.files m hm).blk_lt g e).1)
set_option maxRecDepth 100000 in
theorem own_blk16 {w : World} {base n c : Nat} {A : Option Addr} {xs : List UInt8} (h : DB.Own w base (.slice A n c) xs) : ∀ g, A.map Addr.block = some g → base ≤ g ∧ g < w.heap.size := by
  intro g hg
  rcases h.2 with ⟨e, _⟩ | ⟨g', cap, cur, e, hb, hh, _⟩
  · injection e with e1
    rw [e1] at hg
    cases hg
  · injection e with e1
    rw [e1] at hg
    injection hg with hg
    subst hg
    exact ⟨hb, (Array.getElem?_eq_some_iff.1 hh).1⟩
set_option maxRecDepth 100000 in
/-- append([]byte{}, s...). -/
theorem copy16 {w : World} {A : Option Addr} {l : List UInt8} (n c : Nat) (hn : n = l.length) (hl : l.length ≤ 4096) (h : Sees w w.heap.size A (l.map bv)) :
    (bsT 25 0 #[]).run Try.prog w = .ok (.slice (some ⟨w.heap.size, 0, none⟩) 0 0) (w.alloc (.cells #[] 5)) ∧
    ∃ A' c' w', (apAll #[25, 25] 25 #[.slice (some ⟨w.heap.size, 0, none⟩) 0 0, .slice A n c]).run Try.prog (w.alloc (.cells #[] 5)) = .ok (.slice A' n c') w' ∧ DB.Own w' w.heap.size (.slice A' n c') l ∧ Below w.heap.size w w' := by
  refine ⟨DB.build0 w, ?_⟩
  have hF1 : Below w.heap.size w (w.alloc (.cells #[] 5)) := (Below.refl _ _).alloc (Nat.le_refl _) _
  have ho1 : DB.Own (w.alloc (.cells #[] 5)) w.heap.size (.slice (some ⟨w.heap.size, 0, none⟩) 0 0) [] := DB.own0 w (Nat.le_refl _)
  obtain ⟨v2, w2, hap0, ho2, hg2⟩ := DB.append ho1 (A := A) (m := n) (c := c) (es := l) hn (EK.See.far (DB_see h) hF1) (by simp; omega) (by show (0 + _) * 1 ≤ _; omega) hF1.size
  obtain ⟨A2, c2, rfl⟩ := ho2.slice
  simp only [List.nil_append] at ho2 hap0
  rw [← hn] at ho2 hap0
  exact ⟨A2, c2, w2, hap0, ho2, hF1.trans (below_own ho1 hg2 hF1.size)⟩

attribute [local go_sem ↓] bsT_def apAll_def
set_option maxRecDepth 100000 in
set_option maxHeartbeats 1000000 in
theorem keeps_walk (A0 : Option Addr) (c0 : Nat) (a : List UInt8) (A1 : Option Addr) (c1 : Nat) (b : List UInt8) (w : World) (hs0 : Sees w w.heap.size A0 (a.map bv)) (hs1 : Sees w w.heap.size A1 (b.map bv)) :
    Calls Try.prog 5 #[.slice A0 a.length c0, .slice A1 b.length c1] w fun e w' => e = .returned (.bool true) ∧ Below w.heap.size w w' := by
  have HAL := Lib.hid (alive_any16 w)
  obtain ⟨m0, hm0⟩ : ∃ m, m = a.length := ⟨_, rfl⟩
  obtain ⟨m1, hm1⟩ : ∃ m, m = b.length := ⟨_, rfl⟩
  rw [← hm0, ← hm1]
  have HM0 := Lib.hid hm0
  have HM1 := Lib.hid hm1
  have HS0 := Lib.hid hs0
  have HS1 := Lib.hid hs1
  clear hs0 hs1 hm0 hm1
  by_cases h0 : m0 ≤ 4096
  rotate_left
  · go_enter Try.func5, Try.ntmps5
    go_wp2_with (go_at_call 8; (with_reducible refine (HAL.out).mono ?_); rintro e w1 ⟨rfl, hb⟩; have HB := Lib.hid hb; clear hb)
    go_ret
    exact ⟨rfl, HB.out⟩
  by_cases h1 : m1 ≤ 4096
  rotate_left
  · go_enter Try.func5, Try.ntmps5
    go_wp2_with (go_at_call 8; (with_reducible refine (HAL.out).mono ?_); rintro e w1 ⟨rfl, hb⟩; have HB := Lib.hid hb; clear hb)
    go_ret
    exact ⟨rfl, HB.out⟩
  have HL : Hid (a.length ≤ 4096 ∧ b.length ≤ 4096) := Lib.hid (by rw [← HM0.out, ← HM1.out]; exact ⟨h0, h1⟩)
  have ha := nm_small (l := [102]) (by decide)
  have hg := nm_small (l := [103]) (by decide)
  have HP1 := Lib.hid (kp_1 HL.out.1)
  have HP2 := Lib.hid (kp_2 HL.out.1 HL.out.2)
  have HP3 := Lib.hid (kp_3 a b)
  go_enter Try.func5, Try.ntmps5
  go_upto_region 5 with (go_at_call 8; (with_reducible refine (HAL.out).mono ?_); rintro e w1 ⟨rfl, hb⟩; have HB := Lib.hid hb; clear hb)
  obtain ⟨hb2, AX, cX, w3, hx3, hoX, hbl3⟩ := copy16 m0 c0 HM0.out HL.out.1 ((HS0.out.below HB.out).more HB.out.size)
  have hS3 : Sees w3 w3.heap.size A1 (b.map bv) := ((HS1.out.below HB.out).below (hbl3.mono HB.out.size)).more (Nat.le_trans HB.out.size hbl3.size)
  obtain ⟨hb4, AY, cY, w5, hx5, hoY, hbl5⟩ := copy16 m1 c1 HM1.out HL.out.2 hS3
  have HX5 : Hid (DB.Own w5 w1.heap.size (.slice AX m0 cX) a) := Lib.hid (EK.Own.keep hoX hbl5)
  have HY5 : Hid (DB.Own w5 w3.heap.size (.slice AY m1 cY) b) := Lib.hid hoY
  have HXL : Hid (∀ g, AX.map Addr.block = some g → w1.heap.size ≤ g ∧ g < w3.heap.size) := Lib.hid (own_blk16 hoX)
  have HYL : Hid (∀ g, AY.map Addr.block = some g → w3.heap.size ≤ g ∧ g < w5.heap.size) := Lib.hid (own_blk16 hoY)
  have HZ : Hid (w.heap.size ≤ w1.heap.size ∧ w1.heap.size ≤ w3.heap.size ∧ w3.heap.size ≤ w5.heap.size) := Lib.hid ⟨HB.out.size, hbl3.size, hbl5.size⟩
  have HB5 : Hid (Below w.heap.size w w5) := Lib.hid (HB.out.trans ((hbl3.mono HB.out.size).trans (hbl5.mono (Nat.le_trans HB.out.size hbl3.size))))
  clear hoX hoY hbl3 hbl5 hS3 HB
  go_upto_region 6 with fail
  clear hb2 hb4 hx3 hx5
  obtain ⟨base, hbase⟩ : ∃ base, base = w5.heap.size := ⟨_, rfl⟩
  have HN := Lib.hid (dknew_c w5 base hbase)
  have HT0 : Hid (Sees w5 base AX (a.map bv)) := Lib.hid (by rw [hbase]; exact DB_sees (EK.Own.see HX5.out))
  have HT1 : Hid (Sees w5 base AY (b.map bv)) := Lib.hid (by rw [hbase]; exact DB_sees (EK.Own.see HY5.out))
  have HBS := Lib.hid hbase
  clear hbase
  go_upto_region 7 with (go_at_call 9; (with_reducible refine (HN.out).mono ?_); rintro e w6 ⟨p, rfl, hd⟩; have hA := dkappend_c hd [102] a AX m0 cX HM0.out ha few_1 (hd.sees HT0.out); rw [HP1.out] at hA; have HA1 := Lib.hid hA; clear hA hd)
  go_upto_region 8 with (go_at_call 11; (with_reducible refine (HA1.out).mono ?_); rintro e w7 ⟨rfl, hd⟩; have hA := dkinstall_c hd [103] b AY m1 cY HM1.out hg (by have := HL.out.2; omega) (few_kx a) (hd.sees HT1.out); rw [HP2.out] at hA; have HA2 := Lib.hid hA; clear hA hd)
  go_upto_region 9 with (go_at_call 16; (with_reducible refine (HA2.out).mono ?_); rintro e w8 ⟨rfl, hd⟩; have HD8 := Lib.hid hd; clear hd)
  have HB8 : Hid (Below w.heap.size w w8) := Lib.hid (HB5.out.trans (HD8.out.below.mono (by rw [HBS.out]; exact HB5.out.size)))
  have q0 := conv0_16 (HS0.out.below HB8.out) m0 c0 HM0.out
  have q1 := conv0_16 (HS1.out.below HB8.out) m1 c1 HM1.out
  have q2 := conv0_16 (HD8.out.sees HT0.out) m0 cX HM0.out
  have q3 := conv0_16 (HD8.out.sees HT1.out) m1 cY HM1.out
  have HX8 : Hid (DB.Own w8 w1.heap.size (.slice AX m0 cX) a) := Lib.hid (EK.Own.keep HX5.out (by rw [← HBS.out]; exact HD8.out.below))
  have HY8 : Hid (DB.Own w8 w3.heap.size (.slice AY m1 cY) b) := Lib.hid (EK.Own.keep HY5.out (by rw [← HBS.out]; exact HD8.out.below))
  clear HA1 HA2 HN HX5 HY5 HT0 HT1 HP1 HP2 HAL
  go_upto_region 11 with fail
  clear q0 q1 q2 q3
  have HI8 : Hid (DkIs w8 base p (kpY a b)) := Lib.hid HD8.out.is_
  clear HD8
  have HG8 : Hid (w8.grownBy w8 (AX.map Addr.block)) := Lib.hid (only_refl _ _)
  have HX8' : Hid (w8.ownsRow w1.heap.size 5 1 (.slice AX m0 cX) m0 (a.map bv)) := Lib.hid (by have h : w8.ownsRow w1.heap.size 5 1 (.slice AX m0 cX) a.length (DB.flat a) := HX8.out; rw [DB_flat, ← HM0.out] at h; exact h)
  clear HX8
  go_wp2
  go_loopw [8, 52] (fun _ i wr => ∃ (k : Nat) (m : List UInt8), k ≤ m0 ∧ i = .int .i64 k ∧ m.length = m0 ∧ Hid (wr.ownsRow w1.heap.size 5 1 (.slice AX m0 cX) m0 (m.map bv)) ∧ Hid (w8.grownBy wr (AX.map Addr.block))) (fun _ i _ => m0 - (intOf i).toNat)
  case atStart => exact ⟨0, a, Nat.zero_le _, rfl, HM0.out.symm, HX8', HG8⟩
  case round =>
    obtain ⟨k, m, hk, rfl, hm, hM, HG⟩ := hrel
    by_cases hlt : k < m0
    · have hkm : k < m.length := by omega
      obtain ⟨g, _, hA, _, _⟩ := hM.out.form (by omega)
      obtain rfl : AX = some ⟨g, 0, none⟩ := by injection hA
      have c0' : wr.cell? ⟨g, k, none⟩ = some (.int .u8 (m[k].toNat : Int)) := by
        rw [hM.out.cellAt k (by omega)]
        simp [hkm, bv]
      have f0 := hM.out.frozenAt k
      have hv := next16 m[k]
      have hst := hM.out.stored k (bv (m[k] + 1))
      have hset : (m.map bv).set k (bv (m[k] + 1)) = (m.set k (m[k] + 1)).map bv := by rw [List.map_set]
      rw [hset, hv] at hst
      generalize m[k] = x at *
      have HM2 := Lib.hid hst.1
      have hgr := hst.2
      have HG2 := Lib.hid (only_trans HG.out hgr)
      clear hst hset hM hgr HG hA
      go_wp2
      go_roundw
      case rel => exact ⟨k + 1, m.set k (x + 1), by omega, by go_num, by rw [List.length_set]; exact hm, HM2, HG2⟩
      case measure => simp [intOf]; omega
    · go_upto_region 16 with fail
      rename World => w9
      have HI9 : Hid (DkIs w9 base p (kpY a b)) := Lib.hid (HI8.out.low HG.out (fun g e => by have := HXL.out g e; have := HZ.out; have := HBS.out; omega))
      have HB9 : Hid (Below w.heap.size w w9) := Lib.hid (HB8.out.trans ((Below.refl _ _).grown HG.out HB8.out.size (fun g e => by have := HXL.out g e; have := HZ.out; omega)))
      have HY9 : Hid (w9.ownsRow w3.heap.size 5 1 (.slice AY m1 cY) m1 (b.map bv)) := Lib.hid (by
        have h : w9.ownsRow w3.heap.size 5 1 (.slice AY m1 cY) b.length (DB.flat b) := World.ownsRow.kept HY8.out HG.out (by
          rw [ownBlock_slice]
          cases e : AY.map Addr.block with
          | none => exact .inl rfl
          | some g => exact .inr (fun e2 => by have := HYL.out g e; have := HXL.out g e2.symm; omega))
        rw [DB_flat, ← HM1.out] at h
        exact h)
      have HG9 : Hid (w9.grownBy w9 (AY.map Addr.block)) := Lib.hid (only_refl _ _)
      clear HG hM hm hk hlt HG8 HX8' HI8 HB8 HY8
      go_wp2
      go_loopw [9, 64] (fun _ i wr => ∃ (k : Nat) (m : List UInt8), k ≤ m1 ∧ i = .int .i64 k ∧ m.length = m1 ∧ Hid (wr.ownsRow w3.heap.size 5 1 (.slice AY m1 cY) m1 (m.map bv)) ∧ Hid (w9.grownBy wr (AY.map Addr.block))) (fun _ i _ => m1 - (intOf i).toNat)
      case atStart => exact ⟨0, b, Nat.zero_le _, rfl, HM1.out.symm, HY9, HG9⟩
      case round =>
        obtain ⟨k, m, hk, rfl, hm, hM, HG⟩ := hrel
        by_cases hlt : k < m1
        · have hkm : k < m.length := by omega
          obtain ⟨g, _, hA, _, _⟩ := hM.out.form (by omega)
          obtain rfl : AY = some ⟨g, 0, none⟩ := by injection hA
          have c0' : wr.cell? ⟨g, k, none⟩ = some (.int .u8 (m[k].toNat : Int)) := by
            rw [hM.out.cellAt k (by omega)]
            simp [hkm, bv]
          have f0 := hM.out.frozenAt k
          have hv := next16 m[k]
          have hst := hM.out.stored k (bv (m[k] + 1))
          have hset : (m.map bv).set k (bv (m[k] + 1)) = (m.set k (m[k] + 1)).map bv := by rw [List.map_set]
          rw [hset, hv] at hst
          generalize m[k] = x at *
          have HM2 := Lib.hid hst.1
          have hgr := hst.2
          have HG2 := Lib.hid (only_trans HG.out hgr)
          clear hst hset hM hgr HG hA
          go_wp2
          go_roundw
          case rel => exact ⟨k + 1, m.set k (x + 1), by omega, by go_num, by rw [List.length_set]; exact hm, HM2, HG2⟩
          case measure => simp [intOf]; omega
        · go_upto_region 21 with fail
          rename World => w10
          have HI10 : Hid (DkIs w10 base p (kpY a b)) := Lib.hid (HI9.out.low HG.out (fun g e => by have := HYL.out g e; have := HZ.out; have := HBS.out; omega))
          have HB10 : Hid (Below w.heap.size w w10) := Lib.hid (HB9.out.trans ((Below.refl _ _).grown HG.out HB9.out.size (fun g e => by have := HYL.out g e; have := HZ.out; omega)))
          have HS10 : Hid (base ≤ w10.heap.size) := Lib.hid (by obtain ⟨mb, ms, h⟩ := HI10.out; have := h.box.lt; have := h.low; omega)
          have HRD := Lib.hid (dkread_c (⟨HI10.out, Below.refl _ _, HS10.out⟩ : DkC w10 w10 base p (kpY a b)) [102] a m0 0 HM0.out HP3.out.1 ha)
          clear HG hM hm hk hlt HG9 HY9 HI9 HB9
          go_upto_region 22 with (go_at_call 15; (with_reducible refine (HRD.out).mono ?_); rintro e w11 ⟨A3, c3, rfl, ho, hb, hd⟩; have HO11 := Lib.hid ho; have HB11 := Lib.hid hb; clear ho hb hd)
          have HR11 : Hid (w11.ownsRow w10.heap.size 5 1 (.slice A3 m0 c3) m0 (a.map bv)) := Lib.hid (by have h : w11.ownsRow w10.heap.size 5 1 (.slice A3 m0 c3) a.length (DB.flat a) := HO11.out; rw [DB_flat, ← HM0.out] at h; exact h)
          have HRL : Hid (∀ g, A3.map Addr.block = some g → w10.heap.size ≤ g ∧ g < w11.heap.size) := Lib.hid (own_blk16 HO11.out)
          clear HRD HO11
          go_wp2
          go_loopw [12, 81] (fun _ i wr => ∃ (k : Nat) (m : List UInt8), k ≤ m0 ∧ i = .int .i64 k ∧ m.length = m0 ∧ Hid (wr.ownsRow w10.heap.size 5 1 (.slice A3 m0 c3) m0 (m.map bv)) ∧ Hid (Below w10.heap.size w10 wr)) (fun _ i _ => m0 - (intOf i).toNat)
          case atStart => exact ⟨0, a, Nat.zero_le _, rfl, HM0.out.symm, HR11, HB11⟩
          case round =>
            obtain ⟨k, m, hk, rfl, hm, hM, HG⟩ := hrel
            by_cases hlt : k < m0
            · have hkm : k < m.length := by omega
              obtain ⟨g, _, hA, _, _⟩ := hM.out.form (by omega)
              obtain rfl : A3 = some ⟨g, 0, none⟩ := by injection hA
              have c0' : wr.cell? ⟨g, k, none⟩ = some (.int .u8 (m[k].toNat : Int)) := by
                rw [hM.out.cellAt k (by omega)]
                simp [hkm, bv]
              have f0 := hM.out.frozenAt k
              have hv := next16 m[k]
              have hst := hM.out.stored k (bv (m[k] + 1))
              have hset : (m.map bv).set k (bv (m[k] + 1)) = (m.set k (m[k] + 1)).map bv := by rw [List.map_set]
              rw [hset, hv] at hst
              generalize m[k] = x at *
              have HM2 := Lib.hid hst.1
              have hgr := hst.2
              have HG2 := Lib.hid (HG.out.trans (below_only hgr (HRL.out g rfl).1 HG.out.size))
              clear hst hset hM hgr HG hA
              go_wp2
              go_roundw
              case rel => exact ⟨k + 1, m.set k (x + 1), by omega, by go_num, by rw [List.length_set]; exact hm, HM2, HG2⟩
              case measure => simp [intOf]; omega
            · go_upto_region 27 with fail
              rename World => w12
              have HI12 : Hid (DkIs w12 base p (kpY a b)) := Lib.hid (HI10.out.call HG.out)
              have HB12 : Hid (Below w.heap.size w w12) := Lib.hid (HB10.out.trans (HG.out.mono HB10.out.size))
              have HRE := Lib.hid (dkread_c (⟨HI12.out, Below.refl _ _, Nat.le_trans HS10.out HG.out.size⟩ : DkC w12 w12 base p (kpY a b)) [102] a m0 0 HM0.out HP3.out.1 ha)
              clear HG hM hm hk hlt HI10 HB11 HR11
              go_upto_region 28 with (go_at_call 15; (with_reducible refine (HRE.out).mono ?_); rintro e w13 ⟨A4, c4, rfl, ho, hb, hd⟩; have HO13 := Lib.hid ho; have HB13 := Lib.hid (HB12.out.trans (hb.mono HB12.out.size)); have HRF := Lib.hid (dkread_c hd [103] b m1 0 HM1.out HP3.out.2 hg); clear ho hb hd)
              go_upto_region 29 with (go_at_call 15; (with_reducible refine (HRF.out).mono ?_); rintro e w14 ⟨A5, c5, rfl, ho, hb, hd⟩; have HO14 := Lib.hid ho; have HP14 := Lib.hid (EK.Own.keep HO13.out hb); have HB14 := Lib.hid (HB13.out.trans (hb.mono HB13.out.size)); clear ho hb hd)
              have q0 := conv0_16 (HS0.out.below HB14.out) m0 c0 HM0.out
              have q1 := conv0_16 (HS1.out.below HB14.out) m1 c1 HM1.out
              have q2 := conv0_16 (DB_sees (EK.Own.see HP14.out)) m0 c4 HM0.out
              have q3 := conv0_16 (DB_sees (EK.Own.see HO14.out)) m1 c5 HM1.out
              clear HRE HRF HO13 HO14 HP14 HI12
              go_wp2
              go_ret
              exact ⟨rfl, HB14.out⟩
end Go.Proofs.Ytaobhkalnnmnhaa
