/-
  Package sha: the digest of pieces (sha.Of).
  Slices of slices of bytes that a literal makes.
  Slices cut.
-/
import Derived.Test.YtapdnoellleimaaDoorSE
import Derived.Test.YtapdnoellleimaaDoorSA
namespace Go.Proofs.YtapdnoellleimaaDoor
open Go.RowKit

/-- A slice of slices of bytes reads as the lists ps, below block B. -/
def Pieces (w : World) (B : Nat) (A : Option Addr) (ps : List (List UInt8)) : Prop :=
  ∃ vs : List Value, vs.length = ps.length ∧ Sees w B A vs ∧ ∀ i (_ : i < ps.length), ∃ A' c, vs[i]? = some (.slice A' (ps.getD i []).length c) ∧ (ps.getD i []).length ≤ c ∧ c ≤ maxLen ∧ Sees w B A' ((ps.getD i []).map bv)
theorem Pieces.keep {w w' : World} {B : Nat} {A : Option Addr} {ps : List (List UInt8)} (h : Pieces w B A ps) (hk : ∀ p : Addr, p.block < B → w'.cell? p = w.cell? p) : Pieces w' B A ps := by
  obtain ⟨vs, h1, h2, h3⟩ := h
  refine ⟨vs, h1, h2.keep hk, fun i hi => ?_⟩
  obtain ⟨A', c, k1, k2, k3, k4⟩ := h3 i hi
  exact ⟨A', c, k1, k2, k3, k4.keep hk⟩
theorem Pieces.more {w : World} {B B' : Nat} {A : Option Addr} {ps : List (List UInt8)} (h : Pieces w B A ps) (hB : B ≤ B') : Pieces w B' A ps := by
  obtain ⟨vs, h1, h2, h3⟩ := h
  refine ⟨vs, h1, h2.more hB, fun i hi => ?_⟩
  obtain ⟨A', c, k1, k2, k3, k4⟩ := h3 i hi
  exact ⟨A', c, k1, k2, k3, k4.more hB⟩
theorem Pieces.at_ {w : World} {B : Nat} {A : Option Addr} {ps : List (List UInt8)} (h : Pieces w B A ps) {k : Nat} (hk : k < ps.length) :
    ∃ g o A' c, A = some ⟨g, o, none⟩ ∧ w.cell? ⟨g, o + k, none⟩ = some (.slice A' (ps.getD k []).length c) ∧ (ps.getD k []).length ≤ c ∧ c ≤ maxLen ∧ Sees w B A' ((ps.getD k []).map bv) := by
  obtain ⟨vs, h1, h2, h3⟩ := h
  obtain ⟨A', c, k1, k2, k3, k4⟩ := h3 k hk
  obtain ⟨g, o, e, _, hc⟩ := h2.at_ (k := k) (by omega)
  rw [List.getElem?_eq_getElem (by omega), Option.some.injEq] at k1
  exact ⟨g, o, A', c, e, by rw [hc, k1], k2, k3, k4⟩

theorem flat_take_succ (ps : List (List UInt8)) (k : Nat) (h : k < ps.length) : (ps.take (k + 1)).flatten = (ps.take k).flatten ++ ps.getD k [] := by
  rw [List.take_succ_eq_append_getElem h, List.flatten_append, List.getD_eq_getElem?_getD, List.getElem?_eq_getElem h]
  simp
theorem flat_take_le (ps : List (List UInt8)) (k : Nat) : (ps.take k).flatten.length ≤ ps.flatten.length := by
  conv => rhs; rw [← List.take_append_drop k ps, List.flatten_append, List.length_append]
  omega

/-- What the walk of Of carries of memory. -/
structure OfW (w0 : World) (g : Nat) (l : List UInt8) (w : World) : Prop where
  hash : HashF w g l l.length
  out : ∃ z, Box w w0.heap.size 89 z ∧ z.size = 32
  far : Below w0.heap.size w0 w
  high : w0.heap.size < g
theorem OfW.turn {w0 w w' : World} {g : Nat} {l l' : List UInt8} (h : OfW w0 g l w) (hg : w.grownBy w' (some g)) (hh : HashF w' g l' l'.length) : OfW w0 g l' w' := by
  obtain ⟨z, hz, hs⟩ := h.out
  have hi := h.high
  exact ⟨hh, ⟨z, hz.grown hg (by simp; omega), hs⟩, h.far.trans (below_only hg (by omega) h.far.size), hi⟩

theorem hash_start {w : World} {g : Nat} (h : Box w g 121 hashStart) : HashF w g [] 0 :=
  ⟨st0, List.replicate 64 0, 0, ⟨h, rfl⟩, fed_start _ rfl⟩

set_option maxRecDepth 100000 in
set_option maxHeartbeats 2000000 in
theorem of_any (ps : List (List UInt8)) (A : Option Addr) (c : Nat) (w : World) (hp : Pieces w w.heap.size A ps) (hn : ps.length ≤ 70368744177664) (hl : ps.flatten.length < 1152921504606846976) (hR : Roots w) :
    Calls Tryd.prog 68 #[.slice A ps.length c] w fun e w' => e = .returned (.agg ((shaOf ps.flatten).map bv).toArray) ∧ Below w.heap.size w w' := by
  have HP := Lib.hid hp
  have HR := Lib.hid hR
  have HL := Lib.hid hl
  clear hp hR hl
  have HS := Lib.hid (start_any (w.alloc (.cells (List.replicate 32 (Value.int .u8 0)).toArray 89)))
  have hx : Hid (Box (w.alloc (.cells (List.replicate 32 (Value.int .u8 0)).toArray 89)) w.heap.size 89 (List.replicate 32 (Value.int .u8 0)).toArray) := Box.made w _ _
  have hf : Hid (Below w.heap.size w (w.alloc (.cells (List.replicate 32 (Value.int .u8 0)).toArray 89))) := (Below.refl _ _).alloc (Nat.le_refl _) _
  have hsz1 : Hid ((w.alloc (.cells (List.replicate 32 (Value.int .u8 0)).toArray 89)).heap.size = w.heap.size + 1) := by
    show _ = _
    simp
  go_enter Tryd.func68, Tryd.ntmps68
  go_wp2_with fail
  change Calls _ _ _ (w.alloc (.cells (List.replicate 32 (Value.int .u8 0)).toArray 89)) _
  generalize w.alloc (.cells (List.replicate 32 (Value.int .u8 0)).toArray 89) = w1 at *
  refine (HS.out).mono ?_
  rintro e w2 ⟨rfl, hb2⟩
  have HX2 := Lib.hid (hx.out.below hb2 (by have := hsz1.out; omega))
  have HF2 := Lib.hid (hf.out.trans (hb2.mono (by have := hsz1.out; omega)))
  have HZ2 : Hid (w.heap.size < w2.heap.size) := by
    have h1 := hb2.size
    have h2 := hsz1.out
    show _ < _
    omega
  clear hb2 hx hf hsz1 HS
  have hX : Hid (Box (w2.alloc (.cells hashZero 121)) w2.heap.size 121 hashZero) := Box.made w2 _ _
  have hsz : Hid ((Tryd.prog.info? 121).map (·.size) = some hashStart.size) := by
    show _ = some 74
    kernel_rfl
  have hsame : Hid (hashStart.size = hashZero.size) := Lib.hid rfl
  have hone : Hid (∀ v ∈ hashStart.toList, v.oneCell' = true) := by
    have : hashStart.toList.all (·.oneCell') = true := by decide +kernel
    exact fun v hv => List.all_eq_true.1 this v hv
  have hz := zero_hash
  go_wp2_with (((with_reducible show wpList _ _ _ ((⟨none, Op.store _ (.tmp 3) (.tmp 6), _, _, _, _⟩ : Oper) :: _) _ _)); refine wpList_store_box rfl 121 (.tmp 3) (.tmp 6) rfl w2.heap.size hashStart rfl rfl 121 hashZero hX.out hsame.out hsz.out hone.out ?_; intro w3 hb3 hg3; have HB3 := Lib.hid hb3; have HG3 := Lib.hid hg3; clear hb3 hg3)
  have HO : Hid (OfW w w2.heap.size [] w3) := by
    have h1 := HZ2.out
    exact ⟨hash_start HB3.out, ⟨_, (HX2.out.alloc (.cells hashZero 121)).grown HG3.out (by simp; omega), rfl⟩, (HF2.out.alloc (by omega) (.cells hashZero 121)).trans (below_only HG3.out (by omega) (by simp; omega)), h1⟩
  clear HB3 HG3 HX2 HF2 hX hsz hsame hone hz HZ2
  generalize w2.heap.size = g at *
  go_loopw [9] (fun i wr => ∃ k : Nat, k ≤ ps.length ∧ i = .int .i64 k ∧ Hid (OfW w g (ps.take k).flatten wr)) (fun i _ => ps.length - (intOf i).toNat)
  case atStart => exact ⟨0, Nat.zero_le _, rfl, HO⟩
  case round =>
    clear HO
    obtain ⟨k, hk, rfl, HO⟩ := hrel
    by_cases hlt : k < ps.length
    · obtain ⟨g1, o1, A', c', rfl, hcell, hc1, hc2, hsee⟩ := (HP.out.keep (w' := wr) (fun p hp => HO.out.far.cell hp)).at_ hlt
      have hfl := flat_take_le ps (k + 1)
      rw [flat_take_succ ps k hlt, List.length_append] at hfl
      have HADD := Lib.hid (add_any g (ps.take k).flatten (ps.take k).flatten.length (ps.getD k []) A' c' wr HO.out.hash (hsee.more (by have := HO.out.high; omega)) hc1 hc2 (by have := HL.out; omega) (HR.out.of_below HO.out.far) (by have := HO.out.high; have := HR.out.1; omega))
      have HSU := Lib.hid (flat_take_succ ps k hlt)
      clear hsee hfl hc1 hc2
      generalize ps.getD k [] = q at *
      go_wp2_with fail
      refine (HADD.out).mono ?_
      rintro e w4 ⟨rfl, hF4, hG4⟩
      have HO4 : Hid (OfW w g (ps.take (k + 1)).flatten w4) := by
        refine HO.out.turn hG4 ?_
        rw [HSU.out, List.length_append]
        exact hF4
      clear hF4 hG4 HO HADD hcell
      go_wp2
      go_roundw
      case rel => exact ⟨k + 1, by omega, by go_num, HO4⟩
      case measure => simp [intOf]; omega
    · obtain rfl : k = ps.length := by omega
      rw [List.take_length] at HO
      have HE := Lib.hid (end_any g ps.flatten wr HO.out.hash (by have := HL.out; omega) (HR.out.of_below HO.out.far) (by have := HO.out.high; have := HR.out.1; omega))
      generalize hd : shaOf ps.flatten = d at *
      have HD := Lib.hid hd
      clear hd
      go_wp2_with fail
      refine (HE.out).mono ?_
      rintro e w4 ⟨rfl, hG4⟩
      obtain ⟨z, hz, hzs⟩ := HO.out.out
      have HZ4 := Lib.hid (hz.grown hG4 (by have := HO.out.high; simp; omega))
      have HF4 := Lib.hid (HO.out.far.trans (below_only hG4 (by have := HO.out.high; omega) HO.out.far.size))
      have hdl : d.length = 32 := by rw [← HD.out]; rfl
      have HZS : Hid ((d.map bv).toArray.size = z.size) := by
        rw [hzs, List.size_toArray, List.length_map, hdl]
        exact Lib.hid rfl
      have hsz : Hid ((Tryd.prog.info? 89).map (·.size) = some (d.map bv).toArray.size) := by
        rw [List.size_toArray, List.length_map, hdl]
        show _ = some 32
        kernel_rfl
      have hone : Hid (∀ v ∈ (d.map bv).toArray.toList, v.oneCell' = true) := bv_one d
      clear hz hzs hG4 HO HE hdl
      go_wp2_with (((with_reducible show wpList _ _ _ ((⟨none, Op.store _ (.tmp 2) (.tmp 16), _, _, _, _⟩ : Oper) :: _) _ _)); refine wpList_store_box rfl 89 (.tmp 2) (.tmp 16) rfl w.heap.size (d.map bv).toArray rfl rfl 89 z HZ4.out HZS.out hsz.out hone.out ?_; intro w5 hb5 hg5; have HB5 := Lib.hid hb5; have HG5 := Lib.hid hg5; clear hb5 hg5)
      refine bodyPost_ret (v := .agg (d.map bv).toArray) (results_cell_row rfl _ w5 w.heap.size 89 (d.map bv).toArray (0, 0) _ rfl HB5.out Tryd.underlying89 rfl hsz.out) rfl ⟨by rw [HD.out], ?_⟩
      exact HF4.out.trans (below_only HG5.out (Nat.le_refl _) HF4.out.size)
end Go.Proofs.YtapdnoellleimaaDoor

namespace Go.Proofs.YtapdnoellleimaaDoor
open Go.RowKit

/-- A slice literal of slices. -/
theorem Pieces.of_box {w : World} {B g : Nat} {t : TypeId} {ps : List (List UInt8)} {vs : List Value} (h : Box w g t vs.toArray) (hg : g < B) (hl : vs.length = ps.length)
    (hv : ∀ i (_ : i < ps.length), ∃ A' c, vs[i]? = some (.slice A' (ps.getD i []).length c) ∧ (ps.getD i []).length ≤ c ∧ c ≤ maxLen ∧ Sees w B A' ((ps.getD i []).map bv)) : Pieces w B (some ⟨g, 0, none⟩) ps :=
  ⟨vs, hl, Sees.of_box h hg, hv⟩
theorem Pieces.one {w : World} {B g : Nat} {t : TypeId} {p : List UInt8} {A : Option Addr} {c : Nat} (h : Box w g t #[.slice A p.length c]) (hg : g < B) (hc : p.length ≤ c) (hm : c ≤ maxLen) (hs : Sees w B A (p.map bv)) : Pieces w B (some ⟨g, 0, none⟩) [p] := by
  refine Pieces.of_box (vs := [.slice A p.length c]) h hg rfl (fun i hi => ?_)
  obtain rfl : i = 0 := by simpa using hi
  exact ⟨A, c, rfl, hc, hm, hs⟩

theorem Pieces.two {w : World} {B g : Nat} {t : TypeId} {p q : List UInt8} {A A' : Option Addr} {c c' : Nat} (h : Box w g t #[.slice A p.length c, .slice A' q.length c']) (hg : g < B) (hc : p.length ≤ c) (hm : c ≤ maxLen) (hs : Sees w B A (p.map bv))
    (hc' : q.length ≤ c') (hm' : c' ≤ maxLen) (hs' : Sees w B A' (q.map bv)) : Pieces w B (some ⟨g, 0, none⟩) [p, q] := by
  refine Pieces.of_box (vs := [.slice A p.length c, .slice A' q.length c']) h hg rfl (fun i hi => ?_)
  match i, hi with
  | 0, _ => exact ⟨A, c, rfl, hc, hm, hs⟩
  | 1, _ => exact ⟨A', c', rfl, hc', hm', hs'⟩
theorem Pieces.three {w : World} {B g : Nat} {t : TypeId} {p q r : List UInt8} {A A' A2 : Option Addr} {c c' c2 : Nat} (h : Box w g t #[.slice A p.length c, .slice A' q.length c', .slice A2 r.length c2]) (hg : g < B) (hc : p.length ≤ c) (hm : c ≤ maxLen) (hs : Sees w B A (p.map bv))
    (hc' : q.length ≤ c') (hm' : c' ≤ maxLen) (hs' : Sees w B A' (q.map bv)) (hc2 : r.length ≤ c2) (hm2 : c2 ≤ maxLen) (hs2 : Sees w B A2 (r.map bv)) : Pieces w B (some ⟨g, 0, none⟩) [p, q, r] := by
  refine Pieces.of_box (vs := [.slice A p.length c, .slice A' q.length c', .slice A2 r.length c2]) h hg rfl (fun i hi => ?_)
  match i, hi with
  | 0, _ => exact ⟨A, c, rfl, hc, hm, hs⟩
  | 1, _ => exact ⟨A', c', rfl, hc', hm', hs'⟩
  | 2, _ => exact ⟨A2, c2, rfl, hc2, hm2, hs2⟩
end Go.Proofs.YtapdnoellleimaaDoor

namespace Go.Proofs.YtapdnoellleimaaDoor
open Go.RowKit

/-- A slice's part: s[a:b]. -/
theorem Sees.part_of {w : World} {B : Nat} {A : Option Addr} {xs : List Value} (h : Sees w B A xs) {i cap : Nat} (hc : xs.length ≤ cap) (hi : i ≤ xs.length) (n : Nat) : Sees w B (if cap = i then A else A.map (·.add i)) ((xs.drop i).take n) := (h.cut hc hi).take n
theorem cut_three (b : List UInt8) (i j : Nat) (hij : i ≤ j) : [b.take i, (b.drop i).take (j - i), b.drop j].flatten = b := by
  simp only [List.flatten_cons, List.flatten_nil, List.append_nil]
  have e : b.drop j = (b.drop i).drop (j - i) := by rw [List.drop_drop, show i + (j - i) = j from by omega]
  rw [e, List.take_append_drop, List.take_append_drop]
theorem slice_from' {A : Option Addr} {n c m : Nat} (hm : m ≤ n) (w : World) :
    (Instr.slice 22 (.slice A n c) (some (.int .i64 (m : Int))) none none).run Tryd.prog w = .ok (.slice (if c = m then A else A.map (·.add m)) (n - m) (c - m)) w := slice_from hm w
theorem slice_upto {A : Option Addr} {n c i : Nat} (hi : i ≤ c) (w : World) :
    (Instr.slice 22 (.slice A n c) none (some (.int .i64 (i : Int))) none).run Tryd.prog w = .ok (.slice A i c) w := by
  have hu : Tryd.prog.underlying 22 = some (.slice (Tryd.prog.elem 22)) := by kernel_rfl
  have hs : (sizeOf (Tryd.prog.elem 22)).run Tryd.prog w = .ok 1 w := by kernel_rfl
  rw [run_slice_h w 22 A n c hu .i64 (i : Int) (by omega) (by omega), hs]
  rcases A with _ | a
  · simp [sliced]
  · simp [sliced, Addr.add_zero']
theorem slice_mid {A : Option Addr} {n c i j : Nat} (hij : i ≤ j) (hj : j ≤ c) (w : World) :
    (Instr.slice 22 (.slice A n c) (some (.int .i64 (i : Int))) (some (.int .i64 (j : Int))) none).run Tryd.prog w = .ok (.slice (if c = i then A else A.map (·.add i)) (j - i) (c - i)) w := by
  have hu : Tryd.prog.underlying 22 = some (.slice (Tryd.prog.elem 22)) := by kernel_rfl
  have hs : (sizeOf (Tryd.prog.elem 22)).run Tryd.prog w = .ok 1 w := by kernel_rfl
  rw [run_slice_lh w 22 A n c hu .i64 .i64 (i : Int) (j : Int) (by omega) (by omega) (by omega), hs]
  simp [sliced]
end Go.Proofs.YtapdnoellleimaaDoor
