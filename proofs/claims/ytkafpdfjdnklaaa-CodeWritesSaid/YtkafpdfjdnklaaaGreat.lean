/-
  What 'great' answers: false only where the Parts are few and their texts short.
-/
import Derived.Test.YtkafpdfjdnklaaaParts
import Derived.Deep.Cut
namespace Go.Proofs.Ytkafpdfjdnklaaa
open Go.RowKit

/-- The bytes of all texts of some Parts. -/
def sums : List PartV → Nat
  | [] => 0
  | p :: r => p.s.size + sums r
theorem sums_append : ∀ a b : List PartV, sums (a ++ b) = sums a + sums b
  | [], b => by simp [sums]
  | p :: r, b => by rw [List.cons_append, sums, sums, sums_append r b]; omega
theorem sums_snoc (ps : List PartV) (k : Nat) (h : k < ps.length) : sums (ps.take (k + 1)) = sums (ps.take k) + ps[k].s.size := by
  rw [take_snoc' ps k h, sums_append]
  simp [sums]

def GreatIs (ps : List PartV) (w : World) (e : Ending) (w' : World) : Prop := ∃ t : Bool, e = .returned (.bool t) ∧ (t = false → ps.length ≤ 200 ∧ sums ps ≤ 16384) ∧ Below w.heap.size w w'

set_option maxHeartbeats 1600000 in
theorem great_any (C : Option Addr) (ps : List PartV) (d : Nat) (B : Nat) (w : World) (hB : B ≤ w.heap.size) (hp : Sees w B C (ps.flatMap partCells)) (hpl : ps.length ≤ 9223372036854775807) (hd : ∀ p ∈ ps, p.d.length = 32) (hs : ∀ p ∈ ps, p.s.size ≤ 140737488351232) :
    Calls Try.prog 11 #[.slice C ps.length d] w (GreatIs ps w) := by
  have HP := Lib.hid hp
  have HD := Lib.hid hd
  have HS := Lib.hid hs
  clear hp hd hs
  go_enter Try.func11, Try.ntmps11
  go_wp2
  go_loopw [3, 5, 8] (fun n _ i wr => ∃ k N : Nat, k ≤ ps.length ∧ i = .int .i64 k ∧ n = .int .i64 N ∧ N ≤ 16384 ∧ Hid (N = sums (ps.take k)) ∧ Hid (Below w.heap.size w wr)) (fun _ _ i _ => ps.length - (intOf i).toNat)
  case atStart => exact ⟨0, 0, Nat.zero_le _, rfl, rfl, by omega, rfl, Below.refl _ _⟩
  case round =>
    obtain ⟨k, N, hk, rfl, rfl, hN16, hN, hB⟩ := hrel
    by_cases hlt : k < ps.length
    · obtain ⟨g, o, rfl, hg, hr⟩ := (HP.out).part HD.out hlt
      have hpd := HD.out ps[k] (List.getElem_mem hlt)
      have hps := HS.out ps[k] (List.getElem_mem hlt)
      have hsn := Lib.hid (sums_snoc ps k hlt)
      generalize ps[k] = p at *
      have hrr : Hid (wr.rangeAt g (o + k * 37) (partCells p)) := fun j v hj => (hB.out.cell (by show g < _; omega)).trans (hr j v hj)
      have hsz : Hid ((Try.prog.info? 48).map (·.size) = some (partCells p).length) := by
        show _ = _
        rw [partCells_len hpd]
        kernel_rfl
      have hsz2 : Hid ((Try.prog.info? 48).map (·.size) = some (partCells p).toArray.size) := hsz
      have hsz3 : Hid ((partCells p).toArray.size = pzero.size) := by
        show _ = _
        rw [List.size_toArray, partCells_len hpd]
        rfl
      have hone2 : Hid (∀ v ∈ (partCells p).toArray.toList, v.oneCell' = true) := partCells_one p
      have hB0 := Lib.hid (Box.made wr 48 pzero)
      have HPD := Lib.hid hpd
      clear hr hpd
      go_upto_region 5 with (first
        | (with_reducible show wpList _ _ _ ((⟨some 11, _, _, _, _, _⟩ : Oper) :: _) _ _; refine wpList_load_mid rfl 48 (.tmp 10) rfl g (o + k * 37) rfl (partCells p) _ hrr.out Try.underlying48 rfl hsz.out ?_)
        | (with_reducible show wpList _ _ _ ((⟨none, .store _ _ _, _, _, _, _⟩ : Oper) :: _) _ _; refine wpList_store_box rfl 48 (.tmp 5) (.tmp 11) rfl wr.heap.size (partCells p).toArray rfl rfl 48 pzero hB0.out hsz3.out hsz2.out hone2.out ?_; intro w4 hb4 hg4))
      simp only [Act.put]
      have hB4 : Below wr.heap.size wr w4 := ((Below.refl _ _).alloc (Nat.le_refl _) _).trans (below_only hg4 (Nat.le_refl _) (by simp))
      have HB4 := Lib.hid (hB.out.trans (hB4.mono hB.out.size))
      have c2 := (part_cells HPD.out hb4).2.2.1
      generalize hgw : wr.heap.size = G at *
      clear hb4 hg4 hB4 hB0 hsz hsz2 hsz3 hone2 hrr hB hgw
      go_wp2
      · go_ret
        exact ⟨true, rfl, by simp, HB4.out⟩
      · go_roundw
        case rel => exact ⟨k + 1, N + p.s.size, by omega, by go_num, by go_num, by omega, (by show _ = _; rw [hsn.out, ← hN.out]), HB4⟩
        case measure => simp [intOf]; omega
    · by_cases h200 : (200 : Int) < (ps.length : Int)
      · go_wp2
        go_ret
        exact ⟨true, rfl, by simp, hB.out⟩
      · go_wp2
        go_ret
        refine ⟨false, rfl, fun _ => ⟨by omega, ?_⟩, hB.out⟩
        have := hN.out
        rw [List.take_of_length_le (by omega)] at this
        omega

end Go.Proofs.Ytkafpdfjdnklaaa
