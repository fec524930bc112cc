/-
  The document's Reader (the reference's): what each of its methods does, said as of the program's own.
  The document's Reader, on: Text.
-/
import Derived.Test.YtbclepdcngaonaaGreatDoorRd
import Derived.IntWalk
namespace Go.Proofs.YtbclepdcngaonaaGreatDoor
open Go.RowKit

/-- The reference's Reader in block a has l left; bad: there was a fault. -/
def RRd (w : World) (a : Nat) (l : List UInt8) (bad : Bool) : Prop := Box w a 58 #[str l, .bool bad]
theorem RRd.lt {w : World} {a : Nat} {l : List UInt8} {bad : Bool} (h : RRd w a l bad) : a < w.heap.size := Box.lt h
theorem RRd.below {w w' : World} {a B : Nat} {l : List UInt8} {bad : Bool} (h : RRd w a l bad) (hb : Below B w w') (ha : a < B) : RRd w' a l bad := Box.below h hb ha
theorem RRd.other {w w' : World} {a r : Nat} {l : List UInt8} {bad : Bool} (h : RRd w a l bad) (hb : w.grownBy w' (some r)) (hne : a ≠ r) : RRd w' a l bad := Box.grown h hb (by simpa using hne)
theorem RRd.cells {w : World} {a : Nat} {l : List UInt8} {bad : Bool} (h : RRd w a l bad) : w.cell? ⟨a, 0, none⟩ = some (str l) ∧ w.cell? ⟨a, 1, none⟩ = some (.bool bad) ∧ w.frozen? ⟨a, 0, none⟩ = false ∧ w.frozen? ⟨a, 1, none⟩ = false :=
  ⟨by rw [Box.cell h]; rfl, by rw [Box.cell h]; rfl, Box.free h 0, Box.free h 1⟩
theorem RRd.set {w : World} {a : Nat} {l l2 : List UInt8} {bad : Bool} (h : RRd w a l bad) : RRd (w.setCell ⟨a, 0, none⟩ (str l2)) a l2 bad ∧ w.grownBy (w.setCell ⟨a, 0, none⟩ (str l2)) (some a) :=
  ⟨by have := Box.put h 0 (str l2); simpa [RRd] using this, only_put (only_refl _ _) _ _⟩
theorem RRd.fail {w : World} {a : Nat} {l : List UInt8} {bad : Bool} (h : RRd w a l bad) : RRd ((w.setCell ⟨a, 1, none⟩ (.bool true)).setCell ⟨a, 0, none⟩ (.string ⟨#[]⟩)) a [] true ∧ w.grownBy ((w.setCell ⟨a, 1, none⟩ (.bool true)).setCell ⟨a, 0, none⟩ (.string ⟨#[]⟩)) (some a) :=
  ⟨by
    have h1 : Box (w.setCell ⟨a, 1, none⟩ (.bool true)) a 58 #[str l, .bool true] := by have := Box.put h 1 (.bool true); simpa using this
    have := Box.put h1 0 (.string ⟨#[]⟩)
    simpa [RRd] using this, only_put (only_put (only_refl _ _) _ _) _ _⟩

/-- What Take answers: a number below 0 is a fault. -/
def rtk (n : Int) (l : List UInt8) (bad : Bool) : List UInt8 × List UInt8 × Bool := if n < 0 then ([], [], true) else tk n.toNat l bad

set_option maxRecDepth 100000 in
set_option maxHeartbeats 800000 in
theorem rtake_any (a : Nat) (n : Int) (l : List UInt8) (bad : Bool) (w : World) (h : RRd w a l bad) :
    Calls Tryz.prog 115 #[.pointer (some ⟨a, 0, none⟩), .int .i64 n] w fun e w' => e = .returned (str (rtk n l bad).1) ∧ RRd w' a (rtk n l bad).2.1 (rtk n l bad).2.2 ∧ w.grownBy w' (some a) := by
  have hF := Lib.hid h.fail
  obtain ⟨c0, c1, f0, f1⟩ := h.cells
  have hsz : (ByteArray.mk l.toArray).size = l.length := by show l.toArray.size = _; simp
  cases bad
  case true =>
    have e : rtk n l true = ([], [], true) := by unfold rtk; split; rfl; exact tk_no (by simp)
    rw [e]
    go_enter Tryz.func115, Tryz.ntmps115
    go_wp2
    go_ret
    exact ⟨rfl, hF.out.1, hF.out.2⟩
  by_cases h0 : n < 0
  · have e : rtk n l false = ([], [], true) := by unfold rtk; rw [if_pos h0]
    rw [e]
    go_enter Tryz.func115, Tryz.ntmps115
    go_wp2
    go_ret
    exact ⟨rfl, hF.out.1, hF.out.2⟩
  have h0' : decide (n < 0) = false := by simpa using h0
  obtain ⟨m, rfl⟩ : ∃ m : Nat, n = (m : Int) := ⟨n.toNat, by omega⟩
  have er : rtk (m : Int) l false = tk m l false := by unfold rtk; rw [if_neg h0]; rfl
  rw [er]
  clear er
  by_cases h1 : (l.length : Int) < (m : Int)
  · rw [tk_no (by omega)]
    go_enter Tryz.func115, Tryz.ntmps115
    go_wp2
    go_ret
    exact ⟨rfl, hF.out.1, hF.out.2⟩
  · have h1' : decide ((l.length : Int) < (m : Int)) = false := by simpa using h1
    rw [tk_yes (by omega)]
    clear hF
    go_enter Tryz.func115, Tryz.ntmps115
    go_wp2
    go_ret
    have e1 : (ByteArray.mk l.toArray).extract 0 m = ⟨(l.take m).toArray⟩ := by
      rw [ByteArray.extract_mk, List.drop_zero, Nat.sub_zero]
    have e2 : (ByteArray.mk l.toArray).extract m l.length = ⟨(l.drop m).toArray⟩ := by
      rw [ByteArray.extract_mk, List.take_of_length_le (by rw [List.length_drop]; exact Nat.le_refl _)]
    have hset := h.set (l2 := l.drop m)
    rw [e1, e2]
    exact ⟨rfl, hset.1, hset.2⟩

set_option maxRecDepth 100000 in
set_option maxHeartbeats 400000 in
theorem rgood_any (a : Nat) (l : List UInt8) (bad : Bool) (w : World) (h : RRd w a l bad) : Calls Tryz.prog 20 #[.pointer (some ⟨a, 0, none⟩)] w fun e w' => e = .returned (.bool (!bad)) ∧ w = w' := by
  obtain ⟨c0, c1, f0, f1⟩ := h.cells
  clear h
  go_enter Tryz.func20, Tryz.ntmps20
  go_wp2
  go_ret
  exact ⟨rfl, rfl⟩

set_option maxRecDepth 100000 in
set_option maxHeartbeats 400000 in
theorem rend_any (a : Nat) (l : List UInt8) (bad : Bool) (w : World) (h : RRd w a l bad) : Calls Tryz.prog 22 #[.pointer (some ⟨a, 0, none⟩)] w fun e w' => e = .returned (.bool (!bad && l.isEmpty)) ∧ w = w' := by
  obtain ⟨c0, c1, f0, f1⟩ := h.cells
  clear h
  cases bad
  · go_enter Tryz.func22, Tryz.ntmps22
    go_wp2
    go_ret
    refine ⟨?_, rfl⟩
    cases l
    · rfl
    · rfl
  · go_enter Tryz.func22, Tryz.ntmps22
    go_wp2
    go_ret
    exact ⟨rfl, rfl⟩

set_option maxRecDepth 100000 in
set_option maxHeartbeats 800000 in
theorem rnum_any (a : Nat) (l : List UInt8) (bad : Bool) (w : World) (h : RRd w a l bad) :
    Calls Tryz.prog 114 #[.pointer (some ⟨a, 0, none⟩)] w fun e w' => e = .returned (.int .i64 (numV l bad)) ∧ RRd w' a (tk 8 l bad).2.1 (tk 8 l bad).2.2 ∧ w.grownBy w' (some a) := by
  have HT := Lib.hid (rtake_any a 8 l bad w h)
  have HL := tk_len 8 l bad
  unfold numV
  rw [show rtk 8 l bad = tk 8 l bad from rfl] at HT
  generalize tk 8 l bad = t at *
  obtain ⟨p, l2, b2⟩ := t
  simp only at HL ⊢
  clear h
  go_enter Tryz.func114, Tryz.ntmps114
  go_wp2_with fail
  refine (HT.out).mono ?_
  rintro e w1 ⟨rfl, hR, hG⟩
  have HR := Lib.hid hR
  have HG := Lib.hid hG
  clear hR hG HT
  have hsz : (ByteArray.mk p.toArray).size = p.length := by show p.toArray.size = _; simp
  go_wp2
  go_loopw [4, 5] (fun n i wr => ∃ k : Nat, k ≤ p.length ∧ i = .int .i64 k ∧ n = .int .i64 (wrap64 (beNat (p.take k) : Int)) ∧ wr = w1) (fun _ i _ => p.length - (intOf i).toNat)
  case atStart => exact ⟨0, Nat.zero_le _, rfl, congrArg (Value.int .i64) (by rw [List.take_zero, beNat_nil]; unfold wrap64; decide), rfl⟩
  case round =>
    obtain ⟨k, hk, rfl, rfl, rfl⟩ := hrel
    by_cases hlt : k < p.length
    · have h1 := beNat_lt7 (p.take k) (by rw [List.length_take]; omega)
      have h2 : wrap64 (beNat (p.take k) : Int) = (beNat (p.take k) : Int) := by unfold wrap64; omega
      have h3 := take_snoc' p k hlt
      have h4 := beNat_snoc (p.take k) p[k]
      have h5 := or_i64 (beNat (p.take k)) (p[k].toNat) h1 p[k].toNat_lt
      have h6 : bits BinOp.or IntKind.i64 (wrap64 ((beNat (p.take k) : Int) * 256)) (wrap64 ((ByteArray.mk p.toArray)[k].toNat : Int)) = wrap64 (beNat (p.take (k + 1)) : Int) := by
        have e1 : wrap64 ((p[k].toNat : Nat) : Int) = p[k].toNat := by
          have := p[k].toNat_lt
          unfold wrap64
          omega
        rw [h3, h4]
        show bits BinOp.or IntKind.i64 (wrap64 _) (wrap64 (p[k].toNat : Int)) = _
        rw [e1]
        rw [show ((beNat (p.take k) * 256 + p[k].toNat : Nat) : Int) = (beNat (p.take k) : Int) * 256 + p[k].toNat from by omega]
        rw [IntWalk.i64_left, IntWalk.i64_left] at h5
        exact h5
      clear h3 h4 h5
      rw [h2]
      go_wp2
      go_roundw
      case rel => exact ⟨k + 1, by omega, by go_num, rfl, trivial⟩
      case measure => simp [intOf]; omega
    · go_wp2
      go_ret
      have e : p.take k = p := List.take_of_length_le (by omega)
      rw [e]
      exact ⟨rfl, HR.out, HG.out⟩

theorem numV_bad {l : List UInt8} {bad : Bool} (h : (tk 8 l bad).2.2 = true) : numV l bad = 0 ∧ (tk 8 l bad).2 = ([], true) := by
  rcases Classical.em (bad = false ∧ 8 ≤ l.length) with ⟨rfl, hl⟩ | hn
  · rw [tk_yes hl] at h
    cases h
  · unfold numV
    rw [tk_no hn]
    exact ⟨by rw [beNat_nil]; unfold wrap64; decide, by simp⟩

set_option maxRecDepth 100000 in
set_option maxHeartbeats 800000 in
theorem rin_any (a : Nat) (lo hi : Int) (l : List UInt8) (bad : Bool) (w : World) (h : RRd w a l bad) :
    Calls Tryz.prog 75 #[.pointer (some ⟨a, 0, none⟩), .int .i64 lo, .int .i64 hi] w fun e w' => e = .returned (.int .i64 (inV lo hi l bad).1) ∧ RRd w' a (inV lo hi l bad).2.1 (inV lo hi l bad).2.2 ∧ w.grownBy w' (some a) := by
  have HN := Lib.hid (rnum_any a l bad w h)
  have hbad := numV_bad (l := l) (bad := bad)
  clear h
  unfold inV
  generalize numV l bad = n at *
  generalize (tk 8 l bad).2 = t at *
  obtain ⟨l2, b2⟩ := t
  simp only at hbad ⊢
  generalize hv : (if n < lo ∨ hi < n then ((0 : Int), ([] : List UInt8), true) else (n, l2, b2)) = v at *
  have HV := Lib.hid hv
  clear hv
  obtain ⟨v1, v2, v3⟩ := v
  simp only
  go_enter Tryz.func75, Tryz.ntmps75
  go_wp2_with fail
  refine (HN.out).mono ?_
  rintro e w1 ⟨rfl, hR, hG⟩
  obtain ⟨c0, c1, _, _⟩ := hR.cells
  have hF : Calls Tryz.prog 115 #[.pointer (some ⟨a, 0, none⟩), .int .i64 (-1)] w1 fun e w' => e = .returned (str []) ∧ RRd w' a [] true ∧ w1.grownBy w' (some a) := rtake_any a (-1) l2 b2 w1 hR
  have HF := Lib.hid hF
  have HR := Lib.hid hR
  have HG := Lib.hid hG
  clear hR hG HN hF
  cases b2
  case true =>
    have hb := hbad rfl
    clear hbad
    have e := HV.out
    have e2 : n = 0 ∧ l2 = [] := by simpa using hb
    obtain ⟨rfl, rfl⟩ := e2
    have e3 : (v1, v2, v3) = (0, [], true) := by
      rw [← e]
      split <;> rfl
    simp only [Prod.mk.injEq] at e3
    obtain ⟨rfl, rfl, rfl⟩ := e3
    clear hb e HV
    go_wp2_with fail
    refine (HF.out).mono ?_
    rintro e w2 ⟨rfl, hR2, hG2⟩
    have HR2 := Lib.hid hR2
    have HG2 := Lib.hid hG2
    clear hR2 hG2
    go_wp2
    go_ret
    exact ⟨rfl, HR2.out, only_trans HG.out HG2.out⟩
  case false =>
    clear hbad
    by_cases hbd : n < lo ∨ hi < n
    · have e := HV.out
      rw [if_pos hbd] at e
      simp only [Prod.mk.injEq] at e
      obtain ⟨rfl, rfl, rfl⟩ := e
      clear HV
      by_cases h1 : n < lo
      · go_wp2_with fail
        refine (HF.out).mono ?_
        rintro e w2 ⟨rfl, hR2, hG2⟩
        have HR2 := Lib.hid hR2
        have HG2 := Lib.hid hG2
        clear hR2 hG2
        go_wp2
        go_ret
        exact ⟨rfl, HR2.out, only_trans HG.out HG2.out⟩
      · have h1' : decide (n < lo) = false := by simpa using h1
        have h2 : hi < n := hbd.resolve_left h1
        clear hbd
        go_wp2_with fail
        refine (HF.out).mono ?_
        rintro e w2 ⟨rfl, hR2, hG2⟩
        have HR2 := Lib.hid hR2
        have HG2 := Lib.hid hG2
        clear hR2 hG2
        go_wp2
        go_ret
        exact ⟨rfl, HR2.out, only_trans HG.out HG2.out⟩
    · have e := HV.out
      rw [if_neg hbd] at e
      simp only [Prod.mk.injEq] at e
      obtain ⟨rfl, rfl, rfl⟩ := e
      have h1' : decide (n < lo) = false := by simp; omega
      have h2' : decide (hi < n) = false := by simp; omega
      clear HV hbd
      go_wp2
      go_ret
      exact ⟨rfl, HR.out, HG.out⟩

/-- The bytes so far, laid into an array of zeros: one byte more. -/
theorem lay_byte (p : List UInt8) (k : Nat) (hk : k < p.length) (hp : p.length ≤ 32) :
    ((p.take k ++ zeros.drop k).map bv).toArray.setIfInBounds k (bv p[k]) = ((p.take (k + 1) ++ zeros.drop (k + 1)).map bv).toArray := by
  have hl : (p.take k).length = k := by rw [List.length_take]; omega
  have hz : zeros.drop k = zeros[k]'(by show k < 32; omega) :: zeros.drop (k + 1) := List.drop_eq_getElem_cons (by show k < 32; omega)
  rw [List.setIfInBounds_toArray, ← List.map_set, List.set_append_right _ _ (by omega), hl, Nat.sub_self, hz, List.set_cons_zero, take_snoc' p k hk, List.append_assoc]
  rfl

set_option maxRecDepth 100000 in
set_option maxHeartbeats 800000 in
theorem rdigest_any (a : Nat) (l : List UInt8) (bad : Bool) (w : World) (h : RRd w a l bad) :
    Calls Tryz.prog 76 #[.pointer (some ⟨a, 0, none⟩)] w fun e w' => e = .returned (dg (digV l bad)) ∧ RRd w' a (tk 32 l bad).2.1 (tk 32 l bad).2.2 ∧ w.grownBy w' (some a) := by
  have hlt := h.lt
  have hR : RRd ((w.alloc (.cells zcells 29)).alloc (.cells zcells 29)) a l bad := Box.alloc (Box.alloc h _) _
  have HL := tk_len 32 l bad
  have hsp := splice_dig l bad
  clear h
  generalize hd : digV l bad = D at *
  have HDL := Lib.hid (hd ▸ digV_len l bad)
  clear hd
  have B0 := Lib.hid ((Box.made w 29 zcells).alloc (.cells zcells 29))
  have B1 := Lib.hid (Box.made (w.alloc (.cells zcells 29)) 29 zcells)
  have G0 := Lib.hid (only_made (only_made (only_refl w (some a)) (.cells zcells 29)) (.cells zcells 29))
  have hT := rtake_any a 32 l bad _ hR
  rw [show rtk 32 l bad = tk 32 l bad from rfl] at hT
  have HT := Lib.hid hT
  clear hT hR
  generalize tk 32 l bad = t at *
  obtain ⟨p, l2, b2⟩ := t
  simp only at HL hsp ⊢
  have HSP := Lib.hid hsp
  clear hsp
  go_enter Tryz.func76, Tryz.ntmps76
  go_wp2_with fail
  show Calls _ _ _ ((w.alloc (.cells zcells 29)).alloc (.cells zcells 29)) _
  have hsz : (w.alloc (.cells zcells 29)).heap.size = w.heap.size + 1 := by simp
  rw [hsz] at B1
  clear hsz
  generalize (w.alloc (.cells zcells 29)).alloc (.cells zcells 29) = W at *
  refine (HT.out).mono ?_
  rintro e w1 ⟨rfl, hr, ho⟩
  have HR1 := Lib.hid hr
  have G1 := Lib.hid (only_trans G0.out ho)
  have B01 := Lib.hid (B0.out.grown ho (by simp; omega))
  have B11 := Lib.hid (B1.out.grown ho (by simp; omega))
  clear hr ho B0 B1 G0 HT
  have hsz : (ByteArray.mk p.toArray).size = p.length := by show p.toArray.size = _; simp
  go_wp2
  go_loopw [5] (fun i wr => ∃ k : Nat, k ≤ p.length ∧ i = .int .i64 k ∧ Hid (Box wr (w.heap.size + 1) 29 ((p.take k ++ zeros.drop k).map bv).toArray) ∧ Hid (w1.grownBy wr (some (w.heap.size + 1)))) (fun i _ => p.length - (intOf i).toNat)
  case atStart => exact ⟨0, Nat.zero_le _, rfl, B11, only_refl _ _⟩
  case round =>
    obtain ⟨k, hk, rfl, hX, hG⟩ := hrel
    by_cases hkl : k < p.length
    · have h5 : (ByteArray.mk p.toArray)[k] = p[k] := rfl
      have hc : wr.cell? ⟨w.heap.size + 1, k, none⟩ = some (bv 0) := by
        rw [hX.out.cell, List.getElem?_toArray, List.getElem?_map, List.getElem?_append_right (by rw [List.length_take]; omega), List.length_take, Nat.min_eq_left (by omega), Nat.sub_self, List.getElem?_drop, Nat.add_zero]
        unfold zeros
        rw [List.getElem?_replicate, if_pos (by omega)]
        rfl
      have hf := hX.out.free k
      have hp := hX.out.put k (.int .u8 (p[k].toNat : Int))
      have hp2 : ((p.take k ++ zeros.drop k).map bv).toArray.setIfInBounds k (.int .u8 (p[k].toNat : Int)) = ((p.take (k + 1) ++ zeros.drop (k + 1)).map bv).toArray := lay_byte p k hkl HL
      rw [hp2] at hp
      have HX := Lib.hid hp
      have HG := Lib.hid (only_put hG.out k (.int .u8 (p[k].toNat : Int)))
      clear hp hp2 hX hG
      go_wp2
      go_roundw
      case rel => exact ⟨k + 1, by omega, by go_num, HX, HG⟩
      case measure => simp [intOf]; omega
    · have hD : (p.take k ++ zeros.drop k).map bv = D.map bv := by
        rw [List.take_of_length_le (by omega), show k = p.length from by omega, List.map_append, List.map_drop]
        exact HSP.out
      have HX : Hid (Box wr (w.heap.size + 1) 29 (D.map bv).toArray) := by
        have h := hX.out
        rw [hD] at h
        exact h
      have HG := hG
      have HB4 := Lib.hid (B01.out.grown hG.out (by simp))
      have hsz : Hid ((Tryz.prog.info? 29).map (·.size) = some (D.map bv).toArray.size) := by
        show _ = _
        rw [List.size_toArray, List.length_map, HDL.out]
        kernel_rfl
      have hsz2 : Hid ((D.map bv).toArray.size = zcells.size) := by
        show _ = _
        rw [List.size_toArray, List.length_map, HDL.out]
        rfl
      have hone2 : Hid (∀ v ∈ (D.map bv).toArray.toList, v.oneCell' = true) := bv_one D
      clear hX hG HSP hD
      go_upto_region 7 with fail
      go_step
      refine wpList_load_row (o := ⟨some 19, _, _, _, _, _⟩) rfl 29 (.tmp 3) rfl (w.heap.size + 1) rfl 29 (D.map bv).toArray (0, 0) _ HX.out Tryz.underlying29 rfl hsz.out ?_
      refine wpList_store_box (op := ⟨none, _, _, _, _, _⟩) rfl 29 (.tmp 2) (.tmp 19) rfl w.heap.size (D.map bv).toArray (by simp [Act.eval, Act.put]) (by simp [Act.eval, Act.put]) 29 zcells HB4.out hsz2.out hsz.out hone2.out ?_
      intro w3 hb3 hg3
      have HB5 := Lib.hid hb3
      have HG5 := Lib.hid hg3
      clear hb3 hg3
      simp only [Act.put]
      go_wp2
      refine bodyPost_ret (v := dg D) (results_cell_row rfl _ w3 w.heap.size 29 (D.map bv).toArray (0, 0) _ rfl HB5.out Tryz.underlying29 rfl hsz.out) rfl ⟨rfl, ?_, ?_⟩
      · exact (HR1.out.other HG.out (by omega)).other HG5.out (by omega)
      · exact only_new (only_new G1.out HG.out (by omega)) HG5.out (Nat.le_refl _)
end Go.Proofs.YtbclepdcngaonaaGreatDoor

namespace Go.Proofs.YtbclepdcngaonaaGreatDoor
open Go.RowKit

theorem tk4_bad {l : List UInt8} {bad : Bool} (h : (tk 4 l bad).2.2 = true) : tk 4 l bad = ([], [], true) := by
  rcases Classical.em (bad = false ∧ 4 ≤ l.length) with ⟨rfl, hl⟩ | hn
  · rw [tk_yes hl] at h
    cases h
  · exact tk_no hn

set_option maxRecDepth 100000 in
set_option maxHeartbeats 800000 in
theorem rtext_any (a : Nat) (most : Int) (l : List UInt8) (bad : Bool) (w : World) (h : RRd w a l bad) :
    Calls Tryz.prog 116 #[.pointer (some ⟨a, 0, none⟩), .int .i64 most] w fun e w' => e = .returned (str (txtV most l bad).1) ∧ RRd w' a (txtV most l bad).2.1 (txtV most l bad).2.2 ∧ w.grownBy w' (some a) := by
  have HT := Lib.hid (rtake_any a 4 l bad w h)
  have HL := tk_len 4 l bad
  have hbad := tk4_bad (l := l) (bad := bad)
  unfold txtV
  rw [show rtk 4 l bad = tk 4 l bad from rfl] at HT
  generalize tk 4 l bad = t at *
  obtain ⟨p, l2, b2⟩ := t
  simp only at HL hbad ⊢
  clear h
  generalize hv : (if b2 = true ∨ most < (beNat p : Int) then (([] : List UInt8), ([] : List UInt8), true) else tk (beNat p) l2 b2) = v at *
  have HV := Lib.hid hv
  clear hv hbad
  obtain ⟨v1, v2, v3⟩ := v
  simp only
  go_enter Tryz.func116, Tryz.ntmps116
  go_wp2_with fail
  refine (HT.out).mono ?_
  rintro e w1 ⟨rfl, hR, hG⟩
  have HR := Lib.hid hR
  have HG := Lib.hid hG
  clear hR hG HT
  have hsz : (ByteArray.mk p.toArray).size = p.length := by show p.toArray.size = _; simp
  go_wp2
  go_loopw [6, 7] (fun n i wr => ∃ k : Nat, k ≤ p.length ∧ i = .int .i64 k ∧ n = .int .i64 (beNat (p.take k) : Int) ∧ wr = w1) (fun _ i _ => p.length - (intOf i).toNat)
  case atStart => exact ⟨0, Nat.zero_le _, rfl, rfl, rfl⟩
  case round =>
    obtain ⟨k, hk, rfl, rfl, rfl⟩ := hrel
    by_cases hlt : k < p.length
    · have h1 := beNat_lt3 (p.take k) (by rw [List.length_take]; omega)
      have h3 := take_snoc' p k hlt
      have h4 := beNat_snoc (p.take k) p[k]
      have h5 : (ByteArray.mk p.toArray)[k] = p[k] := rfl
      have h6 := p[k].toNat_lt
      have h7 : (beNat (p.take (k + 1)) : Int) = (beNat (p.take k) : Int) * 256 + p[k].toNat := by rw [h3, h4]; omega
      clear h3 h4
      go_wp2
      go_roundw
      case rel => exact ⟨k + 1, by omega, by go_num, congrArg (Value.int .i64) h7.symm, by trivial⟩
      case measure => simp [intOf]; omega
    · have e : p.take k = p := List.take_of_length_le (by omega)
      rw [e]
      have hF : Calls Tryz.prog 115 #[.pointer (some ⟨a, 0, none⟩), .int .i64 (-1)] wr fun e w' => e = .returned (str []) ∧ RRd w' a [] true ∧ wr.grownBy w' (some a) := rtake_any a (-1) l2 b2 wr HR.out
      have HF := Lib.hid hF
      have hF2 := rtake_any a (beNat p : Int) l2 b2 wr HR.out
      rw [show rtk (beNat p : Int) l2 b2 = tk (beNat p) l2 b2 from by unfold rtk; rw [if_neg (by omega), Int.toNat_natCast]] at hF2
      have HF2 := Lib.hid hF2
      clear hF hF2
      generalize beNat p = N at *
      by_cases h1 : most < (N : Int)
      · have e := HV.out
        rw [if_pos (.inr h1)] at e
        simp only [Prod.mk.injEq] at e
        obtain ⟨rfl, rfl, rfl⟩ := e
        clear HV HF2
        go_wp2_with fail
        refine (HF.out).mono ?_
        rintro e w2 ⟨rfl, hR2, hG2⟩
        have HR2 := Lib.hid hR2
        have HG2 := Lib.hid hG2
        clear hR2 hG2
        go_wp2
        go_ret
        exact ⟨rfl, HR2.out, only_trans HG.out HG2.out⟩
      · have h1' : decide (most < (N : Int)) = false := by simpa using h1
        have e : tk N l2 b2 = (v1, v2, v3) := by
          rw [← HV.out]
          by_cases hb : b2 = true
          · rw [if_pos (.inl hb), hb, tk_no (by simp)]
          · rw [if_neg (fun h => h.elim hb h1)]
        rw [e] at HF2
        clear HV HF e
        go_wp2_with fail
        refine (HF2.out).mono ?_
        rintro e w2 ⟨rfl, hR2, hG2⟩
        have HR2 := Lib.hid hR2
        have HG2 := Lib.hid hG2
        clear hR2 hG2
        go_wp2
        go_ret
        exact ⟨rfl, HR2.out, only_trans HG.out HG2.out⟩

end Go.Proofs.YtbclepdcngaonaaGreatDoor
