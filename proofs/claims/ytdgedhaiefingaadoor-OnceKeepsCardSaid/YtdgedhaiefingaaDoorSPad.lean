/-
  The document's answer: the bytes with what stands behind them (wapentakeref02.Padded).
-/
import Derived.Test.YtdgedhaiefingaaDoorSKit2
import Derived.Test.YtdgedhaiefingaaDoorSFed
namespace Go.Proofs.YtdgedhaiefingaaDoor
open Go.RowKit

/-- A slice of the call's own holds the bytes xs. -/
structure OutW (w0 : World) (g cap : Nat) (xs : List UInt8) (wr : World) : Prop where
  own : wr.ownsRow w0.heap.size 5 1 (.slice (some ⟨g, 0, none⟩) xs.length cap) xs.length (xs.map bv)
  far : Below w0.heap.size w0 wr
theorem OutW.low {w0 wr : World} {g cap : Nat} {xs : List UInt8} (h : OutW w0 g cap xs wr) : w0.heap.size ≤ g ∧ g < wr.heap.size := h.own.lt g rfl
theorem OutW.alloc {w0 wr : World} {g cap : Nat} {xs : List UInt8} (h : OutW w0 g cap xs wr) (o : Obj) : OutW w0 g cap xs (wr.alloc o) := ⟨h.own.alloc o, h.far.alloc h.far.size o⟩
/-- What append leaves. -/
theorem OutW.grow {w0 wr w' : World} {g cap g' cap' : Nat} {xs ys : List UInt8} (h : OutW w0 g cap xs wr) (ho : w'.ownsRow w0.heap.size 5 1 (.slice (some ⟨g', 0, none⟩) (xs.length + ys.length) cap') (xs.length + ys.length) (xs.map bv ++ ys.map bv)) (hg : wr.grownBy w' (some g)) : OutW w0 g' cap' (xs ++ ys) w' := by
  refine ⟨?_, h.far.trans (below_only hg h.low.1 h.far.size)⟩
  rw [List.length_append, List.map_append]
  exact ho
theorem nn_some {g n cap : Nat} : Value.slice (some ⟨g, 0, none⟩) n cap ≠ Value.slice none 0 0 := fun h => by cases h

theorem grow_one {w0 wr w' : World} {g cap g' cap' N j : Nat} {l : List UInt8} (hN : N = (l ++ 128 :: List.replicate j 0).length) (h : OutW w0 g cap (l ++ 128 :: List.replicate j 0) wr)
    (ho : w'.ownsRow w0.heap.size 5 1 (.slice (some ⟨g', 0, none⟩) (N + 1) cap') (N + 1) ((l ++ 128 :: List.replicate j 0).map bv ++ ([0] : List UInt8).map bv)) (hg : wr.grownBy w' (some g)) :
    OutW w0 g' cap' (l ++ 128 :: List.replicate (j + 1) 0) w' := by
  subst hN
  have h2 := h.grow (ys := [0]) ho hg
  have e : l ++ 128 :: List.replicate j 0 ++ [0] = l ++ 128 :: List.replicate (j + 1) (0 : UInt8) := by
    rw [List.replicate_succ', List.append_assoc, List.cons_append]
  rw [e] at h2
  exact h2
def rowLen (v : Value) : Nat := match v with | .slice _ n _ => n | _ => 0
/-- How many noughts. -/
def gap (n : Nat) : Nat := (119 - n % 64) % 64
/-- What is left of the number behind k bytes. -/
def leftN (n k : Nat) : Nat := if k = 0 then n else 8 * n / 256 ^ k
theorem leftN_succ (n k : Nat) (h : 0 < k) : leftN n (k + 1) = leftN n k / 256 := by
  unfold leftN
  rw [if_neg (by omega), if_neg (by omega), Nat.pow_succ, Nat.div_div_eq_div_mul]
theorem leftN_one (n : Nat) : leftN n 1 = n / 32 := by
  unfold leftN
  rw [if_neg (by decide), Nat.pow_one]
  omega
theorem be_drop (n k : Nat) (hk : k < 8) : (beBytes 8 (8 * n)).drop (8 - (k + 1)) = UInt8.ofNat (8 * n / 256 ^ k) :: (beBytes 8 (8 * n)).drop (8 - k) := by
  have hl : 8 - (k + 1) < (beBytes 8 (8 * n)).length := by rw [beBytes_length]; omega
  have hg := beBytes_get 8 (8 * n) (8 - (k + 1)) (by omega)
  rw [List.getElem?_eq_getElem hl, Option.some.injEq, show 8 - 1 - (8 - (k + 1)) = k from by omega] at hg
  rw [List.drop_eq_getElem_cons hl, hg, show 8 - (k + 1) + 1 = 8 - k from by omega]

/-- What the second loop carries of memory. -/
structure TailW (w0 : World) (g cap : Nat) (xs : List UInt8) (At : Option Addr) (ts : List UInt8) (wr : World) : Prop where
  out : OutW w0 g cap xs wr
  tail : Sees wr wr.heap.size At (ts.map bv)

/-- A byte ahead of the tail. -/
theorem tail_one {w0 wr w' : World} {g cap k g' cap' : Nat} {xs ts : List UInt8} {At : Option Addr} {b : UInt8} (h : TailW w0 g cap xs At ts wr)
    (ho : w'.ownsRow wr.heap.size 5 1 (.slice (some ⟨g', 0, none⟩) (1 + k) cap') (1 + k) (([b] : List UInt8).map bv ++ ts.map bv)) (hg : (wr.alloc (.cells #[bv b] 5)).grownBy w' (some wr.heap.size)) :
    TailW w0 g cap xs (some ⟨g', 0, none⟩) (b :: ts) w' := by
  have hb : Below wr.heap.size wr w' := ((Below.refl _ _).alloc (Nat.le_refl _) _).trans (below_only hg (Nat.le_refl _) (by simp))
  refine ⟨⟨h.out.own.kept (only_below hb none) (.inr (by simp [Value.ownBlock])), h.out.far.trans (hb.mono h.out.far.size)⟩, ?_⟩
  have := Sees.of_own ho
  exact this

set_option maxRecDepth 100000 in
set_option maxHeartbeats 1000000 in
theorem padded_any (l : List UInt8) (A : Option Addr) (c : Nat) (w : World) (hs : Sees w w.heap.size A (l.map bv)) (hl : l.length ≤ 1099511627776) :
    Calls Tryd.prog 36 #[.slice A l.length c] w fun e w' => ∃ g c', e = .returned (.slice (some ⟨g, 0, none⟩) (padded l).length c') ∧ Sees w' w'.heap.size (some ⟨g, 0, none⟩) ((padded l).map bv) ∧ Below w.heap.size w w' ∧ w.heap.size ≤ g ∧ (padded l).length ≤ c' ∧ c' ≤ maxLen := by
  obtain ⟨i0, hi0, hz0, hz1, hz2⟩ := info_parts w_byte_info
  have HS := Lib.hid hs
  have HMY : Hid ((w.alloc (.cells #[] 5)).ownsRow w.heap.size 5 1 (.slice (some ⟨w.heap.size, 0, none⟩) 0 0) 0 []) := World.ownsRow_lit w #[] 0 (Nat.le_refl _) (by simp [maxLen]) rfl
  have HB0 : Hid (Below w.heap.size w (w.alloc (.cells #[] 5))) := (Below.refl _ _).alloc (Nat.le_refl _) _
  have HSee := Lib.hid (hs.below HB0.out)
  have hone := Lib.hid (bv_one l)
  have hlen : Hid ((l.map bv).length = l.length) := List.length_map ..
  clear hs
  go_enter Tryd.func36, Tryd.ntmps36
  go_wp2_with (first
    | (((with_reducible show wpList _ _ _ ((⟨some 9, _, _, _, _, _⟩ : Oper) :: _) _ _)); refine wpList_append_seen rfl (.tmp 7) (.tmp 8) 37 rfl w.heap.size 5 i0 _ Tryd.underlying37 hi0 hz0 hz1 hz2 rfl (.slice (some ⟨w.heap.size, 0, none⟩) 0 0) 0 [] rfl HMY.out nn_some w.heap.size A l.length c (l.map bv) rfl HSee.out hlen.out hone.out (by omega) (by simp) ?_; intro g cap w2 hown hgrow; rw [Nat.zero_add] at hown ⊢; rw [List.nil_append] at hown; have HO2 : Hid (OutW w g cap l w2) := ⟨hown, HB0.out.trans (below_only hgrow (Nat.le_refl _) (by simp))⟩; have HO2a := Lib.hid (HO2.out.alloc (.cells #[.int .u8 128] 5)); have HBX : Hid (Box (w2.alloc (.cells #[.int .u8 128] 5)) w2.heap.size 5 #[.int .u8 128]) := Box.made _ _ _; have HSX := Lib.hid (Sees.of_box HBX.out HBX.out.lt); clear hown hgrow)
    | (((with_reducible show wpList _ _ _ ((⟨some 11, _, _, _, _, _⟩ : Oper) :: _) _ _)); refine wpList_append_seen rfl (.tmp 9) (.tmp 10) 37 rfl w.heap.size 5 i0 _ Tryd.underlying37 hi0 hz0 hz1 hz2 rfl (.slice (some ⟨g, 0, none⟩) l.length cap) l.length (l.map bv) rfl HO2a.out.own nn_some _ (some ⟨w2.heap.size, 0, none⟩) 1 1 (([128] : List UInt8).map bv) rfl HSX.out rfl (bv_one _) (by omega) HO2a.out.far.size ?_; intro g3 cap3 w3 hown hgrow; have HO3 : Hid (OutW w g3 cap3 (l ++ [128]) w3) := HO2a.out.grow hown hgrow; clear hown hgrow))
  clear HMY HB0 HSee hone hlen HO2 HO2a HBX HSX HS
  go_loopw [3] (fun v wr => ∃ (g cap N j : Nat), v = .slice (some ⟨g, 0, none⟩) N cap ∧ N = l.length + 1 + j ∧ j ≤ gap l.length ∧ Hid (N = (l ++ 128 :: List.replicate j 0).length) ∧ Hid (OutW w g cap (l ++ 128 :: List.replicate j 0) wr)) (fun v _ => gap l.length + l.length + 1 - rowLen v)
  case atStart => exact ⟨g3, cap3, l.length + 1, 0, rfl, rfl, Nat.zero_le _, by show _ = _; simp, HO3⟩
  case round =>
    clear HO3
    obtain ⟨g, cap, N, j, rfl, hN, hj, HN, HO⟩ := hrel
    have hgap : gap l.length = (119 - l.length % 64) % 64 := rfl
    by_cases hlt : j < gap l.length
    · have t1 : ((N : Int) % 64 == 56) = false := by simp; omega
      have t2 : ((N : Int) % 64 != 56) = true := by simp; omega
      have HNN := Lib.hid hN
      have HO1 := Lib.hid (HO.out.alloc (.cells #[.int .u8 0] 5))
      have HBX : Hid (Box (wr.alloc (.cells #[.int .u8 0] 5)) wr.heap.size 5 #[.int .u8 0]) := Box.made _ _ _
      have HSX := Lib.hid (Sees.of_box HBX.out HBX.out.lt)
      have HOW : Hid ((wr.alloc (.cells #[.int .u8 0] 5)).ownsRow w.heap.size 5 1 (.slice (some ⟨g, 0, none⟩) N cap) N ((l ++ 128 :: List.replicate j 0).map bv)) := by
        have h := HO1.out.own
        rw [← HN.out] at h
        exact h
      have hNl : N ≤ 2199023255552 := by omega
      have HGAP := Lib.hid hgap
      clear hgap hN HO
      go_wp2_with (((with_reducible show wpList _ _ _ ((⟨some 18, _, _, _, _, _⟩ : Oper) :: _) _ _)); refine wpList_append_seen rfl (.tmp 16) (.tmp 17) 37 rfl w.heap.size 5 i0 _ Tryd.underlying37 hi0 hz0 hz1 hz2 rfl (.slice (some ⟨g, 0, none⟩) N cap) N ((l ++ 128 :: List.replicate j 0).map bv) rfl HOW.out nn_some _ (some ⟨wr.heap.size, 0, none⟩) 1 1 (([0] : List UInt8).map bv) rfl HSX.out rfl (bv_one _) (by omega) HO1.out.far.size ?_; intro g4 cap4 w4 hown hgrow; have HO4 : Hid (OutW w g4 cap4 (l ++ 128 :: List.replicate (j + 1) 0) w4) := grow_one HN.out HO1.out hown hgrow; clear hown hgrow)
      go_roundw
      case rel => exact ⟨g4, cap4, N + 1, j + 1, rfl, by have := HNN.out; omega, by omega, by show _ = _; have := HN.out; simp at this ⊢; omega, HO4⟩
      case measure => simp [rowLen]; have := HNN.out; omega
    · have t1 : ((N : Int) % 64 == 56) = true := by simp; omega
      have t2 : ((N : Int) % 64 != 56) = false := by simp; omega
      obtain rfl : j = gap l.length := by omega
      generalize hxs : l ++ 128 :: List.replicate (gap l.length) 0 = xs at *
      have HXS := Lib.hid hxs
      clear hxs hgap
      have HNN := Lib.hid hN
      have hNl : N ≤ 2199023255552 := by
        have : gap l.length < 64 := Nat.mod_lt _ (by decide)
        omega
      clear hN t1 hlt hj
      go_wp2
      clear t2
      obtain ⟨wo, rfl⟩ : ∃ wo : World, wo = wr := ⟨_, rfl⟩
      go_loopw [4, 5, 6] (fun n t i wr => ∃ (k : Nat) (At : Option Addr) (ct : Nat) (ts : List UInt8), k ≤ 8 ∧ i = .int .i64 k ∧ n = .int .i64 (leftN l.length k : Nat) ∧ t = .slice At k ct ∧ Hid (ts.length = k) ∧ Hid (ts = (beBytes 8 (8 * l.length)).drop (8 - k)) ∧ Hid (TailW w g cap xs At ts wr)) (fun _ _ i _ => 8 - (intOf i).toNat)
      case atStart => exact ⟨0, none, 0, [], by decide, rfl, rfl, rfl, rfl, by show [] = _; rw [List.drop_eq_nil_of_le (by rw [beBytes_length]; decide)], ⟨HO.out, .inl rfl⟩⟩
      case round =>
        clear HO
        obtain ⟨k, At, ct, ts, hk, rfl, rfl, rfl, HTL, HTS, HT⟩ := hrel
        by_cases hlt : k < 8
        · have hlo : leftN l.length k ≤ 8796093022208 := by
            unfold leftN
            split
            · omega
            · exact Nat.le_trans (Nat.div_le_self _ _) (by omega)
          obtain ⟨b, hb⟩ : ∃ b : UInt8, b = UInt8.ofNat (8 * l.length / 256 ^ k) := ⟨_, rfl⟩
          have HBB := Lib.hid hb
          have hval : k = 0 → (l.length : Int) % 32 * 8 = (b.toNat : Int) := by
            rintro rfl
            rw [hb, UInt8.toNat_ofNat']
            omega
          have hval2 : 0 < k → ((leftN l.length k : Nat) : Int) % 256 = (b.toNat : Int) := by
            intro h0
            rw [hb, UInt8.toNat_ofNat']
            unfold leftN
            rw [if_neg (by omega)]
            omega
          have HX1 : Hid ((wr.alloc (.cells #[bv b] 5)).ownsRow wr.heap.size 5 1 (.slice (some ⟨wr.heap.size, 0, none⟩) 1 1) 1 (([b] : List UInt8).map bv)) := World.ownsRow_lit wr #[bv b] 1 (Nat.le_refl _) (by simp [maxLen]) rfl
          have HS1 : Hid (Sees (wr.alloc (.cells #[bv b] 5)) wr.heap.size At (ts.map bv)) := HT.out.tail.keep (fun p hp => World.cell?_alloc_lt wr _ p hp)
          have HL1 : Hid ((ts.map bv).length = k) := by
            show _ = _
            rw [List.length_map]
            exact HTL.out
          have hsize : Hid (wr.heap.size ≤ (wr.alloc (.cells #[bv b] 5)).heap.size) := by
            show _ ≤ _
            simp
          clear hb
          by_cases h0 : k = 0
          · subst h0
            have e1 : (l.length : Int) % 32 * 8 = (b.toNat : Int) := hval rfl
            have e0 : ((leftN l.length 0 : Nat) : Int) = (l.length : Int) := rfl
            clear hval hval2
            rw [e0, show ((0 : Nat) : Int) = 0 from rfl]
            have hb1 : (l.length : Int) ≤ 1099511627776 := by omega
            clear e0 hlo
            go_wp2_with (((with_reducible show wpList _ _ _ ((⟨some 33, _, _, _, _, _⟩ : Oper) :: _) _ _)); refine wpList_append_seen rfl (.tmp 31) (.tmp 32) 37 rfl wr.heap.size 5 i0 _ Tryd.underlying37 hi0 hz0 hz1 hz2 rfl (.slice (some ⟨wr.heap.size, 0, none⟩) 1 1) 1 (([b] : List UInt8).map bv) rfl HX1.out nn_some wr.heap.size At 0 ct (ts.map bv) rfl HS1.out HL1.out (bv_one _) (by omega) hsize.out ?_; intro g5 cap5 w5 hown hgrow; have HT5 : Hid (TailW w g cap xs (some ⟨g5, 0, none⟩) (b :: ts) w5) := tail_one HT.out hown hgrow; clear hown hgrow)
            clear e1
            go_roundw
            case rel => exact ⟨1, some ⟨g5, 0, none⟩, cap5, b :: ts, by decide, rfl, by rw [leftN_one]; rfl, rfl, by show _ = _; rw [List.length_cons, HTL.out], by show _ = _; rw [be_drop _ 0 (by decide), HTS.out, HBB.out], HT5⟩
            case measure => simp [intOf]
          · have e1 : ((leftN l.length k : Nat) : Int) % 256 = (b.toNat : Int) := hval2 (by omega)
            have t0 : ((k : Int) == 0) = false := by simp; omega
            have HLS := Lib.hid (leftN_succ l.length k (by omega))
            clear hval hval2
            generalize leftN l.length k = n4 at *
            have hb1 : (n4 : Int) ≤ 8796093022208 := by omega
            clear hlo
            go_wp2_with (((with_reducible show wpList _ _ _ ((⟨some 41, _, _, _, _, _⟩ : Oper) :: _) _ _)); refine wpList_append_seen rfl (.tmp 39) (.tmp 40) 37 rfl wr.heap.size 5 i0 _ Tryd.underlying37 hi0 hz0 hz1 hz2 rfl (.slice (some ⟨wr.heap.size, 0, none⟩) 1 1) 1 (([b] : List UInt8).map bv) rfl HX1.out nn_some wr.heap.size At k ct (ts.map bv) rfl HS1.out HL1.out (bv_one _) (by omega) hsize.out ?_; intro g5 cap5 w5 hown hgrow; have HT5 : Hid (TailW w g cap xs (some ⟨g5, 0, none⟩) (b :: ts) w5) := tail_one HT.out hown hgrow; clear hown hgrow)
            clear e1 t0
            go_roundw
            case rel => exact ⟨k + 1, some ⟨g5, 0, none⟩, cap5, b :: ts, by omega, by go_num, by rw [HLS.out]; rfl, by rw [Nat.add_comm 1 k], by show _ = _; rw [List.length_cons, HTL.out], by show _ = _; rw [be_drop _ k hlt, HTS.out, HBB.out], HT5⟩
            case measure => simp [intOf]; omega
        · obtain rfl : k = 8 := by omega
          have hts : ts = beBytes 8 (8 * l.length) := HTS.out
          have HTS2 := Lib.hid hts
          have hxl : N = xs.length := HN.out
          have HXL := Lib.hid hxl
          have HOW : Hid (wr.ownsRow w.heap.size 5 1 (.slice (some ⟨g, 0, none⟩) N cap) N (xs.map bv)) := by
            have h := HT.out.out.own
            rw [← hxl] at h
            exact h
          have HL1 : Hid ((ts.map bv).length = 8) := by
            show _ = _
            rw [List.length_map]
            exact HTL.out
          clear hts hxl
          go_wp2_with (((with_reducible show wpList _ _ _ ((⟨some 46, _, _, _, _, _⟩ : Oper) :: _) _ _)); refine wpList_append_seen rfl (.tmp 44) (.tmp 45) 37 rfl w.heap.size 5 i0 _ Tryd.underlying37 hi0 hz0 hz1 hz2 rfl (.slice (some ⟨g, 0, none⟩) N cap) N (xs.map bv) rfl HOW.out nn_some wr.heap.size At 8 ct (ts.map bv) rfl HT.out.tail HL1.out (bv_one _) (by omega) HT.out.out.far.size ?_; intro g5 cap5 w5 hown hgrow; have HO5 := Lib.hid hown; have HG5 := Lib.hid hgrow; clear hown hgrow)
          go_ret
          have e : padded l = xs ++ ts := by
            rw [← HXS.out, HTS2.out]
            unfold padded pad gap
            rw [List.append_assoc, List.cons_append]
          have el : (padded l).length = N + 8 := by rw [e, List.length_append, HTL.out, HXL.out]
          obtain ⟨g6, cap6, hv, hge, _, hle, hmx⟩ := own_form HO5.out nn_some
          simp only [Value.slice.injEq, Option.some.injEq, Addr.mk.injEq, and_true, true_and] at hv
          obtain ⟨rfl, rfl⟩ := hv
          refine ⟨g5, cap5, by rw [el]; rfl, ?_, HT.out.out.far.trans (below_only HG5.out HT.out.out.low.1 HT.out.out.far.size), hge, by rw [el]; exact hle, hmx⟩
          rw [e, List.map_append]
          exact Sees.of_own HO5.out
end Go.Proofs.YtdgedhaiefingaaDoor
