/-
  What the laws of layer 2 share: that the package does what the document tells of one example; slices of slices that the laws make.
-/
import Derived.Test.YtjemnaffbligoaaDoorSOf
import Derived.Test.YtjemnaffbligoaaDoorSRef
import Derived.Lib.SlBytesConst
import Derived.Lib.SmallJoins
namespace Go.Proofs.YtjemnaffbligoaaDoor
open Go.RowKit

/-- A slice literal of slices. -/
theorem Pieces.of_box {w : World} {B g : Nat} {t : TypeId} {ps : List (List UInt8)} {vs : List Value} (h : Box w g t vs.toArray) (hg : g < B) (hl : vs.length = ps.length)
    (hv : ∀ i (_ : i < ps.length), ∃ A' c, vs[i]? = some (.slice A' (ps.getD i []).length c) ∧ (ps.getD i []).length ≤ c ∧ c ≤ maxLen ∧ Sees w B A' ((ps.getD i []).map bv)) : Pieces w B (some ⟨g, 0, none⟩) ps :=
  ⟨vs, hl, Sees.of_box h hg, hv⟩
theorem Pieces.one {w : World} {B g : Nat} {t : TypeId} {p : List UInt8} {A : Option Addr} {c : Nat} (h : Box w g t #[.slice A p.length c]) (hg : g < B) (hc : p.length ≤ c) (hm : c ≤ maxLen) (hs : Sees w B A (p.map bv)) : Pieces w B (some ⟨g, 0, none⟩) [p] := by
  refine Pieces.of_box (vs := [.slice A p.length c]) h hg rfl (fun i hi => ?_)
  obtain rfl : i = 0 := by simpa using hi
  exact ⟨A, c, rfl, hc, hm, hs⟩

theorem Pieces.two {w : World} {B g : Nat} {t : TypeId} {p q : List UInt8} {A A' : Option Addr} {c c' : Nat} (h : Box w g t #[.slice A p.length c, .slice A' q.length c']) (hg : g < B) (hc : p.length ≤ c) (hm : c ≤ maxLen) (hs : Sees w B A (p.map bv))
    (hc' : q.length ≤ c') (hm' : c' ≤ maxLen) (hs' : Sees w B A' (q.map bv)) : Pieces w B (some ⟨g, 0, none⟩) [p, q] := by
  refine Pieces.of_box (vs := [.slice A p.length c, .slice A' q.length c']) h hg rfl (fun i hi => ?_)
  match i, hi with
  | 0, _ => exact ⟨A, c, rfl, hc, hm, hs⟩
  | 1, _ => exact ⟨A', c', rfl, hc', hm', hs'⟩
theorem Pieces.three {w : World} {B g : Nat} {t : TypeId} {p q r : List UInt8} {A A' A2 : Option Addr} {c c' c2 : Nat} (h : Box w g t #[.slice A p.length c, .slice A' q.length c', .slice A2 r.length c2]) (hg : g < B) (hc : p.length ≤ c) (hm : c ≤ maxLen) (hs : Sees w B A (p.map bv))
    (hc' : q.length ≤ c') (hm' : c' ≤ maxLen) (hs' : Sees w B A' (q.map bv)) (hc2 : r.length ≤ c2) (hm2 : c2 ≤ maxLen) (hs2 : Sees w B A2 (r.map bv)) : Pieces w B (some ⟨g, 0, none⟩) [p, q, r] := by
  refine Pieces.of_box (vs := [.slice A p.length c, .slice A' q.length c', .slice A2 r.length c2]) h hg rfl (fun i hi => ?_)
  match i, hi with
  | 0, _ => exact ⟨A, c, rfl, hc, hm, hs⟩
  | 1, _ => exact ⟨A', c', rfl, hc', hm', hs'⟩
  | 2, _ => exact ⟨A2, c2, rfl, hc2, hm2, hs2⟩

theorem abc_digest : (shaOf [97, 98, 99]).take 8 = [186, 120, 22, 191, 143, 1, 207, 234] := by decide +kernel

set_option maxRecDepth 100000 in
set_option maxHeartbeats 1000000 in
theorem alive_any (w : World) (hR : Roots w) : Calls Tryd.prog 8 #[] w fun e w' => e = .returned (.bool true) ∧ Below w.heap.size w w' := by
  have hB1 : Hid (Box ((w.alloc (.cells #[.int .u8 97, .int .u8 98, .int .u8 99] 5 (3, 4))).alloc (.cells #[.slice (some ⟨w.heap.size, 0, none⟩) 3 3] 24)) (w.heap.size + 1) 24 #[.slice (some ⟨w.heap.size, 0, none⟩) 3 3]) := Box.made_at (by simp) _ _
  have hB0 : Hid (Sees ((w.alloc (.cells #[.int .u8 97, .int .u8 98, .int .u8 99] 5 (3, 4))).alloc (.cells #[.slice (some ⟨w.heap.size, 0, none⟩) 3 3] 24)) ((w.alloc (.cells #[.int .u8 97, .int .u8 98, .int .u8 99] 5 (3, 4))).alloc (.cells #[.slice (some ⟨w.heap.size, 0, none⟩) 3 3] 24)).heap.size (some ⟨w.heap.size, 0, none⟩) (([97, 98, 99] : List UInt8).map bv)) := by
    refine .inr ⟨w.heap.size, 0, rfl, by simp; omega, fun j u hu => ?_⟩
    rw [Nat.zero_add]
    refine (World.cell?_alloc_lt _ _ ⟨w.heap.size, j, none⟩ (by simp)).trans ?_
    rw [World.cell?_alloc_mark, List.getElem?_toArray]
    exact hu
  have HF : Hid (Below w.heap.size w ((w.alloc (.cells #[.int .u8 97, .int .u8 98, .int .u8 99] 5 (3, 4))).alloc (.cells #[.slice (some ⟨w.heap.size, 0, none⟩) 3 3] 24))) := ((Below.refl _ _).alloc (Nat.le_refl _) _).alloc (by simp) _
  have HO := of_any [[97, 98, 99]] (some ⟨w.heap.size + 1, 0, none⟩) 1 _ (Pieces.one (p := [97, 98, 99]) hB1.out hB1.out.lt (by decide) (by simp [maxLen]) hB0.out) (by decide) (by decide) (hR.of_below HF.out)
  have HOF := Lib.hid HO
  clear HO hB1 hB0
  generalize hd : shaOf ([[97, 98, 99]] : List (List UInt8)).flatten = d at *
  have hd8 : d.take 8 = [186, 120, 22, 191, 143, 1, 207, 234] := by rw [← hd]; exact abc_digest
  have hdl : d.length = 32 := by rw [← hd]; rfl
  have HD8 := Lib.hid hd8
  have HDL := Lib.hid hdl
  clear hd hd8 hdl
  have hcv := fun (w : World) (C : Array Value) (n c : Nat) => Lib.run_convert_bytes_const (P := Tryd.prog) w 24 5 C n c Tryd.underlying24 Tryd.underlying5
  go_enter Tryd.func8, Tryd.ntmps8
  go_wp2_with fail
  clear hcv
  refine (HOF.out).mono ?_
  rintro e w2 ⟨rfl, hb2⟩
  have HF2 := Lib.hid (HF.out.trans (hb2.mono HF.out.size))
  clear hb2 HF HOF
  have hX5 : Hid (Box (w2.alloc (.cells (List.replicate 32 (Value.int .u8 0)).toArray 26)) w2.heap.size 26 (List.replicate 32 (Value.int .u8 0)).toArray) := Box.made w2 _ _
  have hsz : Hid ((Tryd.prog.info? 26).map (·.size) = some (d.map bv).toArray.size) := by
    rw [List.size_toArray, List.length_map, HDL.out]
    show _ = some 32
    kernel_rfl
  have hsame : Hid ((d.map bv).toArray.size = (List.replicate 32 (Value.int .u8 0)).toArray.size) := by
    rw [List.size_toArray, List.length_map, HDL.out]
    exact Lib.hid rfl
  have hone : Hid (∀ v ∈ (d.map bv).toArray.toList, v.oneCell' = true) := bv_one _
  go_upto_region 2 with (((with_reducible show wpList _ _ _ ((⟨none, Op.store _ (.tmp 1) (.tmp 5), _, _, _, _⟩ : Oper) :: _) _ _)); refine wpList_store_box rfl 26 (.tmp 1) (.tmp 5) rfl w2.heap.size (d.map bv).toArray rfl rfl 26 (List.replicate 32 (Value.int .u8 0)).toArray hX5.out hsame.out hsz.out hone.out ?_; intro w3 hb3 hg3; have HB3 := Lib.hid hb3; have HF3 := Lib.hid ((HF2.out.alloc HF2.out.size (.cells (List.replicate 32 (Value.int .u8 0)).toArray 26)).trans (below_only hg3 HF2.out.size (by have := HF2.out.size; simp; omega))); clear hb3 hg3)
  have hse : Sees w3 w3.heap.size (some ⟨w2.heap.size, 0, none⟩) ((d.take 8).map bv) := by
    have h := (Sees.of_box HB3.out HB3.out.lt).take 8
    rw [List.toList_toArray, ← List.map_take] at h
    exact h
  rw [HD8.out] at hse
  have hconv : (convert 24 9 (.slice (some ⟨w2.heap.size, 0, none⟩) 8 32)).run Tryd.prog w3 = .ok (.string ⟨#[186, 120, 22, 191, 143, 1, 207, 234]⟩) w3 :=
    convert_sees (P := Tryd.prog) 24 5 9 Tryd.underlying24 Tryd.underlying5 Tryd.underlying9 hse 32
  clear hse hX5 hsz hsame hone HB3 HF2
  go_wp2
  go_ret
  exact ⟨rfl, HF3.out⟩
end Go.Proofs.YtjemnaffbligoaaDoor
